/- The walk of the law BlockExact: whatever the arguments, it returns true. Condition: the sentinels lie as the program's text lays them. -/
import Derived.Test.YthlpfedcmiiibaaDoorBlkX
import Derived.Test.YthlpfedcmiiibaaDoorRowActB
import Derived.Deep.DeepCutAuto
import Derived.Deep.CutBlock
import Derived.Deep.RegionHeld3
namespace Go.Proofs.YthlpfedcmiiibaaDoor
open Go Go.RowKit

/-- The disk in the state D and the reference's in the state R, side by side. -/
structure Pair (w wk : World) (p g cap : Nat) (D : DS) (q o : Nat) (R : RS) : Prop where
  one : Carry w wk p g cap D
  two : RIs wk q o R
  low : p < q
theorem Pair.on {w wk w' : World} {p g cap q o : Nat} {D : DS} {R : RS} (hb : Below wk.heap.size wk w') (h : Pair w wk p g cap D q o R) : Pair w w' p g cap D q o R := ⟨h.one.on hb, RAt.on_ hb h.two, h.low⟩
theorem Pair.drewN {w wk : World} {p g cap q o : Nat} {D : DS} {R : RS} (h : Pair w wk p g cap D q o R) (n : Nat) : Pair w (wk.drewN n) p g cap D q o R := ⟨h.one.drewN n, RAt.drewN h.two n, h.low⟩
theorem Pair.drew {w wk : World} {p g cap q o : Nat} {D : DS} {R : RS} (h : Pair w wk p g cap D q o R) : Pair w wk.drew p g cap D q o R := ⟨h.one.drew, RAt.drew h.two, h.low⟩
theorem Carry.alloc {w wk : World} {p g cap : Nat} {D : DS} (h : Carry w wk p g cap D) (x : Obj) : Carry w (wk.alloc x) p g cap D := ⟨h.disk.alloc x, h.below.alloc h.below.size x, h.low⟩
theorem Pair.alloc {w wk : World} {p g cap q o : Nat} {D : DS} {R : RS} (h : Pair w wk p g cap D q o R) (x : Obj) : Pair w (wk.alloc x) p g cap D q o R := ⟨h.one.alloc x, RAt.alloc h.two x, h.low⟩
theorem Pair.stepD {w wk w' : World} {p g cap q o : Nat} {D D' : DS} {R : RS} (h : Pair w wk p g cap D q o R) (hd : DiskAt w' p g cap D') (hc : Chg p g wk w') : Pair w w' p g cap D' q o R :=
  have h1 := h.one.disk.lt
  have h2 := RAt.lt h.two
  have h3 := h.low
  ⟨h.one.step hd hc, RAt.kept h.two hc (by omega) (by omega) (by omega) (by omega), h.low⟩
theorem Pair.stepR {w wk w' : World} {p g cap q o : Nat} {D : DS} {R R' : RS} (h : Pair w wk p g cap D q o R) (hd : RIs w' q o R') (hc : Chg q o wk w') : Pair w w' p g cap D q o R' :=
  have h1 := h.one.disk.lt
  have h2 := RAt.lt h.two
  have h3 := h.low
  have h4 := h.one.low
  ⟨⟨h.one.disk.kept hc (by omega) (by omega) (by omega) (by omega), h.one.below.trans (hc.below (by omega) (by omega) h.one.below.size), h.one.low⟩, hd, h.low⟩
theorem Pair.sent {s : Nat → Addr} {w wk : World} {p g cap q o : Nat} {D : DS} {R : RS} (h : Pair w wk p g cap D q o R) (hs : Sent s w) : Sent s wk := h.one.sent hs
theorem rview {w : World} {q o : Nat} {D : DS} (h : RIs w q o (rsOf D)) : ∃ A cap, w.cell? ⟨q, 0, none⟩ = some (.slice A D.n cap) ∧ w.cell? ⟨q, 1, none⟩ = some (.bool D.on) ∧ w.cell? ⟨q, 4, none⟩ = some (.int .i64 (D.wr : Int)) ∧
    ∀ j, j < D.n → A = some ⟨o, 0, none⟩ ∧ w.cell? ⟨o, j, none⟩ = some (.string (strB (D.blk j))) := by
  obtain ⟨v, hp, hcs⟩ := h.cells
  have c1 : w.cell? ⟨q, 1, none⟩ = some (.bool D.on) := cell_of_heap hp 1
  have c4 : w.cell? ⟨q, 4, none⟩ = some (.int .i64 (D.wr : Int)) := cell_of_heap hp 4
  have c0 : w.cell? ⟨q, 0, none⟩ = some v := cell_of_heap hp 0
  have hl : (rsOf D).ls.length = D.n := blks_len D
  rcases hcs with ⟨rfl, h2⟩ | ⟨cap, rfl, _, hc⟩
  · have h0 : D.n = 0 := by rw [← hl, h2]; rfl
    exact ⟨none, 0, by rw [h0]; exact c0, c1, c4, fun j hj => by omega⟩
  · exact ⟨_, cap, by rw [← hl]; exact c0, c1, c4, fun j hj => ⟨rfl, (hc j _ (blks_get D j hj)).1⟩⟩
theorem fuse_bs (d : DS) (n t : Int) : (d.setFuse n t).bs = d.bs := by unfold DS.setFuse; split <;> rfl
theorem fuse_wr (d : DS) (n t : Int) : (d.setFuse n t).wr = d.wr := by unfold DS.setFuse; split <;> rfl
theorem has_no {d : DS} {i : Int} (h : d.has i = false) : i < 0 ∨ (d.n : Int) ≤ i := by
  unfold DS.has at h; simp at h; omega
theorem DiskAt.of {w wk : World} {p g cap q o : Nat} {D : DS} {R : RS} (h : Pair w wk p g cap D q o R) : DiskAt wk p g cap D := h.one.disk
theorem write_le (d : DS) (i : Int) (t : List UInt8) : (d.write i t).1 ≤ 14 ∧ (d.write i t).2.wr ≤ d.wr + 1 := by
  unfold DS.write
  split
  · split
    · split
      · exact ⟨by show 14 ≤ 14; omega, by show d.wr ≤ _; omega⟩
      · exact ⟨by show 0 ≤ 14; omega, by show d.wr + 1 ≤ _; omega⟩
    · exact ⟨by show 14 ≤ 14; omega, by show d.wr ≤ _; omega⟩
  · exact ⟨by show 1 ≤ 14; omega, by show d.wr ≤ _; omega⟩
theorem write_n (d : DS) (i : Int) (t : List UInt8) (hto : d.torn ≤ 64) : (d.write i t).2.n = d.n := by
  by_cases hi : d.has i = true
  · by_cases h64 : t.length = 64
    · have hle := DS.has_le hi
      have htl : (t.take d.torn).length ≤ 64 := by simp; omega
      cases ho : d.on
      · rw [write_off hi h64 ho]
      · by_cases hf : d.fuse = 0
        · rw [write_torn hi h64 ho hf]
          show (splice d.bs (64 * i.toNat) (t.take d.torn)).length / 64 = _
          rw [len_splice (by omega)]; rfl
        · rw [write_whole hi h64 ho hf]
          show (splice d.bs (64 * i.toNat) t).length / 64 = _
          rw [len_splice (by omega)]; rfl
    · rw [write_no (.inr h64)]
  · rw [write_no (.inl (by simpa using hi))]
def shortS : ByteArray := ⟨#[115, 104, 111, 114, 116]⟩
/-- What a round begins with. -/
def ERel (w wk : World) (p g cap q o n i : Nat) : Prop := ∃ D, Pair w wk p g cap D q o (rsOf D) ∧ D.n = n ∧ D.wr ≤ 2 * i

/-- What stands behind a deed. -/
def CRel (w wk : World) (p g cap q o n i : Nat) : Prop := ∃ D, Pair w wk p g cap D q o (rsOf D) ∧ D.n = n ∧ D.wr ≤ 2 * i + 1

set_option maxHeartbeats 6400000 in
set_option maxRecDepth 100000 in
theorem exact_walk (s : Nat → Addr) (T : ByteArray) (A : Option Addr) (c : Nat) (xs : List ActBD) (w : World) (hs : Sent s w) (hT : T.size ≤ 768) (hA : ActBRow w w.heap.size A xs) (hG : ∀ x ∈ xs, GoodActB x) (hl : xs.length ≤ 9223372036854775807) :
    Calls Tryd.prog 3 #[.string T, .slice A xs.length c] w fun e w' => e = .returned (.bool true) ∧ Below w.heap.size w w' := by
  have HA := Lib.hid hA; clear hA
  have HG := Lib.hid hG; clear hG
  have hk12 : T.size / 64 ≤ 12 := by omega
  obtain ⟨k, hk⟩ : ∃ k, k = T.size / 64 := ⟨_, rfl⟩
  have HK := Lib.hid hk
  rw [← hk] at hk12
  clear hk
  go_enter Tryd.func3, Tryd.ntmps3
  go_wp2_with fail
  refine (awake_c s _ hs).mono ?_
  rintro e w1 ⟨rfl, hb1⟩
  have HS := Lib.hid (hs.below hb1 (Nat.le_refl _)); clear hs
  go_wp2_with fail
  refine (of_c T _ (by omega)).mono ?_
  rintro e w2 ⟨p, g, cap, rfl, d2, b2, g2⟩
  rw [clamp_q T (by omega)] at d2
  have K2 : Hid (Carry w1 w2 p g cap (newD (T.data.toList.take (64 * (T.size / 64))))) := Lib.hid ⟨d2, b2, g2⟩
  clear d2 b2 g2
  go_wp2_with fail
  refine (rof_c T _ hT).mono ?_
  rintro e w3 ⟨q, o, rfl, r3, b3, q3⟩
  have R3 : Hid (ERel w1 w3 p g cap q o k 0) := Lib.hid ⟨_, ⟨K2.out.on b3, by rw [rs_new]; exact r3, by have := K2.out.disk.lt; omega⟩, by rw [HK.out]; exact take_n _ _ (by rw [len_data]; omega), by show 0 ≤ _; omega⟩
  clear K2 r3 b3 q3
  go_wp2_with fail
  go_loopw [7] (fun u wr => ∃ i : Nat, i ≤ xs.length ∧ i ≤ 60 ∧ u = .int .i64 (i : Int) ∧ ERel w1 wr p g cap q o k i) (fun u _ => xs.length - (intOf u).toNat)
  case atStart => exact ⟨0, by omega, by omega, rfl, R3.out⟩
  case round =>
    obtain ⟨i, hi, hi60, rfl, D, hr, hDn, hDw⟩ := hrel
    have KR := Lib.hid hr; clear hr R3
    have HDN := Lib.hid hDn; clear hDn
    by_cases hlt : i < xs.length ∧ i < 60
    · obtain ⟨hlt, h60⟩ := hlt
      obtain ⟨x, hx⟩ : ∃ x, xs[i]? = some x := ⟨_, List.getElem?_eq_getElem hlt⟩
      obtain ⟨ad, rfl, c0, c1, c2, c3⟩ := HA.out.cells (hb1.trans (KR.out.one.below.mono hb1.size)) hx
      have hi0 : (0 : Int) ≤ (i : Int) := by omega
      have hi1 : (i : Int) < (xs.length : Int) := by omega
      have hi2 : (i : Int) < 60 := by omega
      have hgd := HG.out x (List.mem_of_getElem? hx)
      have X4 : Hid (ActBBlk (wr.alloc (.cells #[.int .i64 x.kind, .int .i64 x.a, .int .i64 x.n, .int .u8 (x.b.toNat : Int)] 29)) wr.heap.size x) := Lib.hid (ActBBlk.new wr x)
      have K4 : Hid (Pair w1 (wr.alloc (.cells #[.int .i64 x.kind, .int .i64 x.a, .int .i64 x.n, .int .u8 (x.b.toNat : Int)] 29)) p g cap D q o (rsOf D)) := Lib.hid (KR.out.alloc _)
      have KRo : Hid (RIs wr q o (rsOf D)) := Lib.hid KR.out.two
      clear KR hx
      go_upto_block 2 with fail
      obtain ⟨U, hU⟩ : ∃ U, U = wr.heap.size := ⟨_, rfl⟩
      have hUq : o < U := by have := RAt.lt KRo.out; omega
      have hUp : p < q := K4.out.low
      rw [← hU] at X4 ⊢
      clear hU
      go_cut [] (fun wx => CRel w1 wx p g cap q o k i)
      case first =>
        by_cases hk3 : x.kind = 3
        · have e3 : (x.kind == 3) = true := by simpa using hk3
          clear hk3
          obtain ⟨x0, x1, x2, x3, xl⟩ := X4.out.cells
          go_wp2_with fail
          refine (read_c s p g cap D x.a _ (K4.out.sent HS.out) K4.out.one.disk).mono ?_
          rintro e w5 ⟨rfl, nd, e5⟩
          have K5 : Hid (Pair w1 w5 p g cap D q o (rsOf D)) := Lib.hid (by rw [e5]; exact K4.out.drewN nd)
          have X5 : Hid (ActBBlk w5 U x) := Lib.hid (by rw [e5]; exact X4.out.drewN nd)
          clear K4 X4 x0 x1 x2 x3 xl e5
          obtain ⟨x0, x1, x2, x3, xl⟩ := X5.out.cells
          obtain ⟨A5, cap5, q0, q1, q4, qj⟩ := rview K5.out.two
          have HSP : Hid (∀ W : World, Pair w1 W p g cap D q o (rsOf D) → Sent s W) := Lib.hid fun W h => h.sent HS.out
          have HP : Pair w1 w5 p g cap D q o (rsOf D) := K5.out
          clear K5 X5
          cases hh : D.has x.a
          · rw [read_out hh]
            by_cases hneg : x.a < 0
            · have hd0 : decide (x.a < 0) = true := decide_eq_true hneg
              clear hneg
              go_wp2_with fail
              go_quiet (fail)
              go_wp2_with fail
              refine (kind_errV s 1 _ (HSP.out _ (by (repeat' (first | (with_reducible assumption) | (with_reducible exact Hid.out (by with_reducible assumption)) | (with_reducible refine Pair.drewN ?_ _) | (with_reducible refine Pair.drew ?_) | (with_reducible refine Pair.alloc ?_ _) | (with_reducible refine Pair.on (by with_reducible assumption) ?_))))) (by omega)).mono ?_
              rintro e w6 ⟨rfl, b6⟩
              have K6 : Pair w1 w6 p g cap D q o (rsOf D) := Pair.on b6 (by (repeat' (first | (with_reducible assumption) | (with_reducible exact Hid.out (by with_reducible assumption)) | (with_reducible refine Pair.drewN ?_ _) | (with_reducible refine Pair.drew ?_) | (with_reducible refine Pair.alloc ?_ _) | (with_reducible refine Pair.on (by with_reducible assumption) ?_))))
              go_wp2_with fail
              go_meet
              exact ⟨D, K6, HDN.out, by omega⟩
            · have hd0 : decide (x.a < 0) = false := decide_eq_false hneg
              have hd1 : decide ((D.n : Int) ≤ x.a) = true := decide_eq_true (by have := has_no hh; omega)
              clear hneg
              go_wp2_with fail
              go_quiet (fail)
              go_wp2_with fail
              refine (kind_errV s 1 _ (HSP.out _ (by (repeat' (first | (with_reducible assumption) | (with_reducible exact Hid.out (by with_reducible assumption)) | (with_reducible refine Pair.drewN ?_ _) | (with_reducible refine Pair.drew ?_) | (with_reducible refine Pair.alloc ?_ _) | (with_reducible refine Pair.on (by with_reducible assumption) ?_))))) (by omega)).mono ?_
              rintro e w6 ⟨rfl, b6⟩
              have K6 : Pair w1 w6 p g cap D q o (rsOf D) := Pair.on b6 (by (repeat' (first | (with_reducible assumption) | (with_reducible exact Hid.out (by with_reducible assumption)) | (with_reducible refine Pair.drewN ?_ _) | (with_reducible refine Pair.drew ?_) | (with_reducible refine Pair.alloc ?_ _) | (with_reducible refine Pair.on (by with_reducible assumption) ?_))))
              go_wp2_with fail
              go_meet
              exact ⟨D, K6, HDN.out, by omega⟩
          · obtain ⟨hl0, hl1⟩ := DS.has_iff.1 hh
            have hd0 : decide (x.a < 0) = false := decide_eq_false (by omega)
            have hd1 : decide ((D.n : Int) ≤ x.a) = false := decide_eq_false (by omega)
            cases ho : D.on
            · have hrd : D.read x.a = (14, []) := by unfold DS.read; rw [hh, ho]; rfl
              rw [hrd]
              rw [ho] at q1
              go_wp2_with fail
              go_quiet (fail)
              go_wp2_with fail
              refine (kind_errV s 14 _ (HSP.out _ (by (repeat' (first | (with_reducible assumption) | (with_reducible exact Hid.out (by with_reducible assumption)) | (with_reducible refine Pair.drewN ?_ _) | (with_reducible refine Pair.drew ?_) | (with_reducible refine Pair.alloc ?_ _) | (with_reducible refine Pair.on (by with_reducible assumption) ?_))))) (by omega)).mono ?_
              rintro e w6 ⟨rfl, b6⟩
              have K6 : Pair w1 w6 p g cap D q o (rsOf D) := Pair.on b6 (by (repeat' (first | (with_reducible assumption) | (with_reducible exact Hid.out (by with_reducible assumption)) | (with_reducible refine Pair.drewN ?_ _) | (with_reducible refine Pair.drew ?_) | (with_reducible refine Pair.alloc ?_ _) | (with_reducible refine Pair.on (by with_reducible assumption) ?_))))
              go_wp2_with fail
              go_meet
              exact ⟨D, K6, HDN.out, by omega⟩
            · rw [read_in hh ho]
              rw [ho] at q1
              simp only [errV_zero]
              obtain ⟨rfl, cj⟩ := qj x.a.toNat (by omega)
              go_wp2_with fail
              go_quiet (fail)
              go_wp2_with fail
              go_quiet (fail)
              go_wp2_with fail
              go_meet
              exact ⟨D, by (repeat' (first | (with_reducible assumption) | (with_reducible exact Hid.out (by with_reducible assumption)) | (with_reducible refine Pair.drewN ?_ _) | (with_reducible refine Pair.drew ?_) | (with_reducible refine Pair.alloc ?_ _) | (with_reducible refine Pair.on (by with_reducible assumption) ?_))), HDN.out, by omega⟩
        · have e3 : (x.kind == 3) = false := by simpa using hk3
          by_cases hk4 : x.kind = 4
          · have e4 : (x.kind == 4) = true := by simpa using hk4
            clear hk3 hk4
            obtain ⟨x0, x1, x2, x3, xl⟩ := X4.out.cells
            go_wp2_with fail
            refine (fuse_c p g cap D x.n x.a _ K4.out.one.disk hgd.2.2.1 hgd.2.2.2 hgd.2.1.1 hgd.2.1.2).mono ?_
            rintro e w5 ⟨rfl, d5, c5⟩
            have K5 := Lib.hid (K4.out.stepD d5 c5)
            have X5 := Lib.hid (X4.out.kept c5 (by have := RAt.lt K4.out.two; omega) (by have := K4.out.one.disk.lt; have := RAt.lt K4.out.two; omega))
            clear K4 X4 d5 c5 x0 x1 x2 x3 xl
            obtain ⟨x0, x1, x2, x3, xl⟩ := X5.out.cells
            go_wp2_with fail
            refine (rfuse_c q o _ _ _ _ _ x.n x.a _ K5.out.two hgd.2.2.1 hgd.2.2.2 hgd.2.1.1 hgd.2.1.2).mono ?_
            rintro e w6 ⟨rfl, r6, c6⟩
            have K6 : Hid (Pair w1 w6 p g cap (D.setFuse x.n x.a) q o (rsOf (D.setFuse x.n x.a))) := Lib.hid (K5.out.stepR (by rw [rs_fuse]; exact r6) c6); clear K5 r6 c6
            go_wp2_with fail
            go_meet
            exact ⟨_, K6.out, by rw [n_same (fuse_bs D _ _)]; exact HDN.out, by rw [fuse_wr]; omega⟩
          · have e4 : (x.kind == 4) = false := by simpa using hk4
            by_cases hk5 : x.kind = 5
            · have e5 : (x.kind == 5) = true := by simpa using hk5
              clear hk3 hk4 hk5
              obtain ⟨x0, x1, x2, x3, xl⟩ := X4.out.cells
              go_wp2_with fail
              refine (come_c p g cap D _ K4.out.one.disk).mono ?_
              rintro e w5 ⟨rfl, d5, c5⟩
              have K5 := Lib.hid (K4.out.stepD d5 c5); clear K4 d5 c5
              go_wp2_with fail
              refine (rcome_c q o _ _ _ _ _ _ K5.out.two).mono ?_
              rintro e w6 ⟨rfl, r6, c6⟩
              have K6 : Hid (Pair w1 w6 p g cap D.come q o (rsOf D.come)) := Lib.hid (K5.out.stepR (by rw [rs_come]; exact r6) c6); clear K5 r6 c6
              go_wp2_with fail
              go_meet
              exact ⟨D.come, K6.out, by rw [n_same (come_len D)]; exact HDN.out, by rw [come_wr]; omega⟩
            · have e5 : (x.kind == 5) = false := by simpa using hk5
              clear hk3 hk4 hk5
              obtain ⟨x0, x1, x2, x3, xl⟩ := X4.out.cells
              obtain ⟨M, D', hMD⟩ : ∃ M D', D.write x.a (fullB x.b) = (M, D') := ⟨_, _, rfl⟩
              have hle := write_le D x.a (fullB x.b)
              have hnn := write_n D x.a (fullB x.b) K4.out.one.disk.ok.torn
              have hokD := Lib.hid K4.out.one.disk.ok
              rw [hMD] at hle hnn
              have hM14 : M ≤ 14 := hle.1
              have hwD : Hid (D'.wr ≤ D.wr + 1) := Lib.hid hle.2
              have hnD : Hid (D'.n = D.n) := Lib.hid hnn
              clear hle hnn
              have HMD := Lib.hid hMD; clear hMD
              have HW1 : Hid (∀ W : World, Pair w1 W p g cap D q o (rsOf D) → Calls Tryd.prog 16 #[.pointer (some ⟨p, 0, none⟩), .int .i64 x.a, .string (strB (fullB x.b))] W fun e w' => e = .returned (errV s M) ∧ Pair w1 w' p g cap D' q o (rsOf D) ∧ Chg p g W w') := Lib.hid fun W h =>
                (write_c s p g cap D x.a _ W (h.sent HS.out) h.one.disk (by show 64 ≤ _; omega) (by omega)).mono fun e w' ⟨h1, h2, h3⟩ => by
                  have hm : D.write x.a (strB (fullB x.b)).data.toList = (M, D') := HMD.out
                  rw [hm] at h1 h2
                  exact ⟨h1, h.stepD h2 h3, h3⟩
              have HW2 : Hid (∀ W : World, Pair w1 W p g cap D' q o (rsOf D) → Calls Tryd.prog 18 #[.pointer (some ⟨q, 0, none⟩), .int .i64 x.a, .string (strB (fullB x.b))] W fun e w' => e = .returned (.int .i64 (M : Int)) ∧ Pair w1 w' p g cap D' q o (rsOf D') ∧ Chg q o W w') := Lib.hid fun W h =>
                (rwrite_c q o D x.a _ W h.two hokD.out (by rw [HDN.out]; exact hk12) (by show 64 ≤ _; omega) (by omega)).mono fun e w' ⟨h1, h2, h3⟩ => by
                  have hm : D.write x.a (strB (fullB x.b)).data.toList = (M, D') := HMD.out
                  rw [hm] at h1 h2
                  exact ⟨h1, h.stepR h2 h3, h3⟩
              have HW3 : Hid (∀ W : World, Pair w1 W p g cap D' q o (rsOf D') → Calls Tryd.prog 16 #[.pointer (some ⟨p, 0, none⟩), .int .i64 x.a, .string ⟨#[115, 104, 111, 114, 116]⟩] W fun e w' => e = .returned (errV s 1) ∧ W = w') := Lib.hid fun W h =>
                write_bad s p g cap D' x.a ⟨#[115, 104, 111, 114, 116]⟩ W (h.sent HS.out) h.one.disk (by decide) (.inr (by decide))
              have HSa : Hid (∀ W : World, Pair w1 W p g cap D' q o (rsOf D) → Sent s W) := Lib.hid fun W h => h.sent HS.out
              have HSb : Hid (∀ W : World, Pair w1 W p g cap D' q o (rsOf D') → Sent s W) := Lib.hid fun W h => h.sent HS.out
              have HX : Hid (∀ W : World, ActBBlk W U x → W.cell? ⟨U, 1, none⟩ = some (.int .i64 x.a) ∧ W.cell? ⟨U, 3, none⟩ = some (.int .u8 (x.b.toNat : Int))) := Lib.hid fun W h => ⟨h.cells.2.1, h.cells.2.2.2.1⟩
              have hpU : U ≠ p := by have := K4.out.one.disk.lt; have := RAt.lt K4.out.two; omega
              have hgU : U ≠ g := by have := K4.out.one.disk.lt; have := RAt.lt K4.out.two; omega
              have hqU : U ≠ q := by have := RAt.lt K4.out.two; omega
              have hoU : U ≠ o := by omega
              have hne1 : ((M : Int) != (M : Int)) = false := bne_self_eq_false _
              have hne2 : (!(M : Int) == (M : Int)) = false := by rw [beq_self_eq_true]; rfl
              have k4 := K4.out
              have x4 := X4.out
              clear K4 X4 x0 x1 x2 x3 xl
              go_wp2_with fail
              go_region_held3 (fun W => W.cell? ⟨U, 1, none⟩ = some (.int .i64 x.a) ∧ W.cell? ⟨U, 3, none⟩ = some (.int .u8 (x.b.toNat : Int)))
                (exact HX.out _ (by (repeat' (first | (with_reducible assumption) | (with_reducible exact Hid.out (by with_reducible assumption)) | (with_reducible refine ActBBlk.drewN ?_ _) | (with_reducible refine ActBBlk.drew ?_) | (with_reducible refine ActBBlk.alloc ?_ _) | (with_reducible refine ActBBlk.on (by with_reducible assumption) ?_)))))
                (first
                  | (go_at_call 17; (with_reducible refine (full_c x.b _).mono ?_); rintro e w5 ⟨rfl, b5⟩)
                  | (go_at_call 16; (with_reducible refine (HW1.out _ (by (repeat' (first | (with_reducible assumption) | (with_reducible exact Hid.out (by with_reducible assumption)) | (with_reducible refine Pair.drewN ?_ _) | (with_reducible refine Pair.drew ?_) | (with_reducible refine Pair.alloc ?_ _) | (with_reducible refine Pair.on (by with_reducible assumption) ?_))))).mono ?_); rintro e w6 ⟨rfl, k6, c6⟩; have x6 : ActBBlk w6 U x := ActBBlk.kept (by (repeat' (first | (with_reducible assumption) | (with_reducible exact Hid.out (by with_reducible assumption)) | (with_reducible refine ActBBlk.drewN ?_ _) | (with_reducible refine ActBBlk.drew ?_) | (with_reducible refine ActBBlk.alloc ?_ _) | (with_reducible refine ActBBlk.on (by with_reducible assumption) ?_)))) c6 hpU hgU; clear c6)
                  | (go_at_call 11; (with_reducible refine (kind_errV s M _ (HSa.out _ (by (repeat' (first | (with_reducible assumption) | (with_reducible exact Hid.out (by with_reducible assumption)) | (with_reducible refine Pair.drewN ?_ _) | (with_reducible refine Pair.drew ?_) | (with_reducible refine Pair.alloc ?_ _) | (with_reducible refine Pair.on (by with_reducible assumption) ?_))))) hM14).mono ?_); rintro e w7 ⟨rfl, b7⟩)
                  | (go_at_call 18; (with_reducible refine (HW2.out _ (by (repeat' (first | (with_reducible assumption) | (with_reducible exact Hid.out (by with_reducible assumption)) | (with_reducible refine Pair.drewN ?_ _) | (with_reducible refine Pair.drew ?_) | (with_reducible refine Pair.alloc ?_ _) | (with_reducible refine Pair.on (by with_reducible assumption) ?_))))).mono ?_); rintro e w8 ⟨rfl, k8, c8⟩; have x8 : ActBBlk w8 U x := ActBBlk.kept (by (repeat' (first | (with_reducible assumption) | (with_reducible exact Hid.out (by with_reducible assumption)) | (with_reducible refine ActBBlk.drewN ?_ _) | (with_reducible refine ActBBlk.drew ?_) | (with_reducible refine ActBBlk.alloc ?_ _) | (with_reducible refine ActBBlk.on (by with_reducible assumption) ?_)))) c8 hqU hoU; clear c8)
                  | (go_at_call 16; (with_reducible refine (HW3.out _ (by (repeat' (first | (with_reducible assumption) | (with_reducible exact Hid.out (by with_reducible assumption)) | (with_reducible refine Pair.drewN ?_ _) | (with_reducible refine Pair.drew ?_) | (with_reducible refine Pair.alloc ?_ _) | (with_reducible refine Pair.on (by with_reducible assumption) ?_))))).mono ?_); rintro e w9 ⟨rfl, rfl⟩)
                  | (go_at_call 11; (with_reducible refine (kind_errV s 1 _ (HSb.out _ (by (repeat' (first | (with_reducible assumption) | (with_reducible exact Hid.out (by with_reducible assumption)) | (with_reducible refine Pair.drewN ?_ _) | (with_reducible refine Pair.drew ?_) | (with_reducible refine Pair.alloc ?_ _) | (with_reducible refine Pair.on (by with_reducible assumption) ?_))))) (by omega)).mono ?_); rintro e wA ⟨rfl, bA⟩))
              all_goals go_wp2_with fail
              all_goals go_meet
              all_goals exact ⟨D', by (repeat' (first | (with_reducible assumption) | (with_reducible exact Hid.out (by with_reducible assumption)) | (with_reducible refine Pair.drewN ?_ _) | (with_reducible refine Pair.drew ?_) | (with_reducible refine Pair.alloc ?_ _) | (with_reducible refine Pair.on (by with_reducible assumption) ?_))), by rw [hnD.out]; exact HDN.out, by have := hwD.out; omega⟩
      case rest =>
        obtain ⟨D2, hP2, hn2, hw2⟩ := hcut
        obtain ⟨A6, cap6, q0, q1, q4, qj⟩ := rview hP2.two
        have HN2 := Lib.hid hn2
        have HW2 := Lib.hid hw2
        have HI : Hid (∀ W : World, Pair w1 W p g cap D2 q o (rsOf D2) → Calls Tryd.prog 22 #[.pointer (some ⟨q, 0, none⟩)] W fun e w' => e = .returned (.string (strB D2.bs)) ∧ W = w') := Lib.hid fun W h => by
          have := rimage_c q o _ _ _ _ _ W h.two (by show D2.blks.length ≤ 12; rw [blks_len, HN2.out]; exact hk12) (blks_64 D2)
          rwa [show (rsOf D2).ls.flatten = D2.bs from blks_flat h.one.disk.ok] at this
        clear hn2 hw2 qj
        go_wp2_with fail
        go_region_held3 (fun W => W.cell? ⟨q, 0, none⟩ = some (.slice A6 D2.n cap6) ∧ W.cell? ⟨q, 1, none⟩ = some (.bool D2.on) ∧ W.cell? ⟨q, 4, none⟩ = some (.int .i64 (D2.wr : Int)))
          (first | assumption | exact ⟨q0, q1, q4⟩)
          (first
            | (go_at_call 19; (refine (ison_c p g cap D2 _ (DiskAt.of (w := w1) (q := q) (o := o) (R := rsOf D2) (by (repeat' (first | (with_reducible assumption) | (with_reducible exact Hid.out (by with_reducible assumption)) | (with_reducible refine Pair.drewN ?_ _) | (with_reducible refine Pair.drew ?_) | (with_reducible refine Pair.alloc ?_ _) | (with_reducible refine Pair.on (by with_reducible assumption) ?_)))))).mono ?_); rintro e w5 ⟨rfl, rfl⟩)
            | (go_at_call 20; (refine (writes_c p g cap D2 _ (DiskAt.of (w := w1) (q := q) (o := o) (R := rsOf D2) (by (repeat' (first | (with_reducible assumption) | (with_reducible exact Hid.out (by with_reducible assumption)) | (with_reducible refine Pair.drewN ?_ _) | (with_reducible refine Pair.drew ?_) | (with_reducible refine Pair.alloc ?_ _) | (with_reducible refine Pair.on (by with_reducible assumption) ?_)))))).mono ?_); rintro e w5 ⟨rfl, rfl⟩)
            | (go_at_call 21; (refine (image_c p g cap D2 _ (DiskAt.of (w := w1) (q := q) (o := o) (R := rsOf D2) (by (repeat' (first | (with_reducible assumption) | (with_reducible exact Hid.out (by with_reducible assumption)) | (with_reducible refine Pair.drewN ?_ _) | (with_reducible refine Pair.drew ?_) | (with_reducible refine Pair.alloc ?_ _) | (with_reducible refine Pair.on (by with_reducible assumption) ?_)))))).mono ?_); rintro e w5 ⟨rfl, rfl⟩)
            | (go_at_call 23; (refine (len_c p g cap D2 _ (DiskAt.of (w := w1) (q := q) (o := o) (R := rsOf D2) (by (repeat' (first | (with_reducible assumption) | (with_reducible exact Hid.out (by with_reducible assumption)) | (with_reducible refine Pair.drewN ?_ _) | (with_reducible refine Pair.drew ?_) | (with_reducible refine Pair.alloc ?_ _) | (with_reducible refine Pair.on (by with_reducible assumption) ?_)))))).mono ?_); rintro e w5 ⟨rfl, rfl⟩)
            | (go_at_call 22; (refine (HI.out _ (by (repeat' (first | (with_reducible assumption) | (with_reducible exact Hid.out (by with_reducible assumption)) | (with_reducible refine Pair.drewN ?_ _) | (with_reducible refine Pair.drew ?_) | (with_reducible refine Pair.alloc ?_ _) | (with_reducible refine Pair.on (by with_reducible assumption) ?_))))).mono ?_); rintro e w5 ⟨rfl, rfl⟩))
        all_goals go_wp2_with fail
        all_goals go_roundw
        case rel => exact ⟨i + 1, by omega, by omega, by go_num, ⟨D2, by (repeat' (first | (with_reducible assumption) | (with_reducible exact Hid.out (by with_reducible assumption)) | (with_reducible refine Pair.drewN ?_ _) | (with_reducible refine Pair.drew ?_) | (with_reducible refine Pair.alloc ?_ _) | (with_reducible refine Pair.on (by with_reducible assumption) ?_))), HN2.out, by have := HW2.out; omega⟩⟩
        case measure => simp [intOf]; omega
    · have KB : Hid (Below w1.heap.size w1 wr) := Lib.hid KR.out.one.below
      have HSW : Hid (Sent s wr) := Lib.hid (KR.out.sent HS.out)
      clear KR
      by_cases h6 : i < xs.length
      · have h60 : ¬ (i : Int) < 60 := by omega
        have hi1 : (i : Int) < (xs.length : Int) := by omega
        go_wp2_with fail
        refine (nil_fuse _ _ _).mono ?_
        rintro e w4 ⟨rfl, rfl⟩
        go_wp2_with fail
        refine (nil_come _).mono ?_
        rintro e w4 ⟨rfl, rfl⟩
        go_wp2_with fail
        refine (nil_read s 0 _ HSW.out).mono ?_
        rintro e w4 ⟨rfl, nd, e4⟩
        have HS4 : Hid (Sent s w4) := Lib.hid (by rw [e4]; exact HSW.out.below (B := wr.heap.size) (below_drewN (Below.refl _ _) nd) (Nat.le_refl _))
        have K4 : Hid (Below w.heap.size w w4) := Lib.hid (by rw [e4]; exact below_drewN (hb1.trans (KB.out.mono hb1.size)) nd)
        clear e4
        go_wp2_with fail
        refine (kind_errV s 2 _ HS4.out (by omega)).mono ?_
        rintro e w5 ⟨rfl, b5⟩
        have HS5 := Lib.hid (HS4.out.below b5 (Nat.le_refl _))
        have K5 := Lib.hid (K4.out.trans (b5.mono K4.out.size))
        clear b5
        go_wp2_with fail
        refine (full_c 1 _).mono ?_
        rintro e w6 ⟨rfl, b6⟩
        have HS6 := Lib.hid (HS5.out.below b6 (Nat.le_refl _))
        have K6 := Lib.hid (K5.out.trans (b6.mono K5.out.size))
        clear b6
        go_wp2_with fail
        refine (nil_write s 0 _ _ HS6.out).mono ?_
        rintro e w7 ⟨rfl, rfl⟩
        go_wp2_with fail
        refine (kind_errV s 2 _ HS6.out (by omega)).mono ?_
        rintro e w8 ⟨rfl, b8⟩
        have K8 := Lib.hid (K6.out.trans (b8.mono K6.out.size))
        clear b8
        go_wp2_with fail
        refine (nil_len _).mono ?_
        rintro e w9 ⟨rfl, rfl⟩
        go_wp2_with fail
        refine (nil_ison _).mono ?_
        rintro e w9 ⟨rfl, rfl⟩
        go_wp2_with fail
        refine (nil_writes _).mono ?_
        rintro e w9 ⟨rfl, rfl⟩
        go_wp2_with fail
        refine (nil_image _).mono ?_
        rintro e w9 ⟨rfl, rfl⟩
        go_wp2_with fail
        go_ret
        exact ⟨rfl, K8.out⟩
      · have hi1 : ¬ (i : Int) < (xs.length : Int) := by omega
        go_wp2_with fail
        refine (nil_fuse _ _ _).mono ?_
        rintro e w4 ⟨rfl, rfl⟩
        go_wp2_with fail
        refine (nil_come _).mono ?_
        rintro e w4 ⟨rfl, rfl⟩
        go_wp2_with fail
        refine (nil_read s 0 _ HSW.out).mono ?_
        rintro e w4 ⟨rfl, nd, e4⟩
        have HS4 : Hid (Sent s w4) := Lib.hid (by rw [e4]; exact HSW.out.below (B := wr.heap.size) (below_drewN (Below.refl _ _) nd) (Nat.le_refl _))
        have K4 : Hid (Below w.heap.size w w4) := Lib.hid (by rw [e4]; exact below_drewN (hb1.trans (KB.out.mono hb1.size)) nd)
        clear e4
        go_wp2_with fail
        refine (kind_errV s 2 _ HS4.out (by omega)).mono ?_
        rintro e w5 ⟨rfl, b5⟩
        have HS5 := Lib.hid (HS4.out.below b5 (Nat.le_refl _))
        have K5 := Lib.hid (K4.out.trans (b5.mono K4.out.size))
        clear b5
        go_wp2_with fail
        refine (full_c 1 _).mono ?_
        rintro e w6 ⟨rfl, b6⟩
        have HS6 := Lib.hid (HS5.out.below b6 (Nat.le_refl _))
        have K6 := Lib.hid (K5.out.trans (b6.mono K5.out.size))
        clear b6
        go_wp2_with fail
        refine (nil_write s 0 _ _ HS6.out).mono ?_
        rintro e w7 ⟨rfl, rfl⟩
        go_wp2_with fail
        refine (kind_errV s 2 _ HS6.out (by omega)).mono ?_
        rintro e w8 ⟨rfl, b8⟩
        have K8 := Lib.hid (K6.out.trans (b8.mono K6.out.size))
        clear b8
        go_wp2_with fail
        refine (nil_len _).mono ?_
        rintro e w9 ⟨rfl, rfl⟩
        go_wp2_with fail
        refine (nil_ison _).mono ?_
        rintro e w9 ⟨rfl, rfl⟩
        go_wp2_with fail
        refine (nil_writes _).mono ?_
        rintro e w9 ⟨rfl, rfl⟩
        go_wp2_with fail
        refine (nil_image _).mono ?_
        rintro e w9 ⟨rfl, rfl⟩
        go_wp2_with fail
        go_ret
        exact ⟨rfl, K8.out⟩

set_option maxHeartbeats 1600000 in
set_option maxRecDepth 100000 in
theorem exact_long (s : Nat → Addr) (T : ByteArray) (A : Option Addr) (c n : Nat) (w : World) (hs : Sent s w) (hT : T.size ≤ 9223372036854775807) (hl : 768 < T.size) :
    Calls Tryd.prog 3 #[.string T, .slice A n c] w fun e w' => e = .returned (.bool true) ∧ Below w.heap.size w w' := by
  go_enter Tryd.func3, Tryd.ntmps3
  go_wp2_with fail
  refine (awake_c s _ hs).mono ?_
  rintro e w1 ⟨rfl, hb1⟩
  go_wp2_with fail
  go_ret
  exact ⟨rfl, by (repeat' (first | (with_reducible exact Below.refl _ _) | (with_reducible refine below_drewN ?_ _) | (with_reducible refine Below.drew ?_) | (with_reducible refine Below.alloc ?_ ?_ _) | (with_reducible refine Below.setCell ?_ ?_ _) | (with_reducible refine Below.trans ?_ (Below.mono (by with_reducible assumption) ?_)) | omega | (simp only [World.size_alloc, World.size_setCell, World.size_drew, Go.Proofs.YthlpfedcmiiibaaDoor.World.size_drewN] at *; omega) | (with_reducible refine Below.size (B := 0) ?_)))⟩
theorem exact_any (s : Nat → Addr) (T : ByteArray) (A : Option Addr) (c : Nat) (xs : List ActBD) (w : World) (hs : Sent s w) (hT : T.size ≤ 9223372036854775807) (hA : ActBRow w w.heap.size A xs) (hG : ∀ x ∈ xs, GoodActB x) (hl : xs.length ≤ 9223372036854775807) :
    Calls Tryd.prog 3 #[.string T, .slice A xs.length c] w fun e w' => e = .returned (.bool true) ∧ Below w.heap.size w w' := by
  by_cases h : T.size ≤ 768
  · exact exact_walk s T A c xs w hs h hA hG hl
  · exact exact_long s T A c _ w hs hT (by omega)
end Go.Proofs.YthlpfedcmiiibaaDoor
