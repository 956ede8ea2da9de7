/- The walk of the law FrameExact: whatever the arguments, it returns true. Conditions: the sentinels and the type's variable lie as the program's text lays them, the row reads as a list. -/
import Derived.Test.YtbiofjdlfppfoaaDoorFrOw
import Derived.Test.YtbiofjdlfppfoaaDoorFrSz
import Derived.Test.YtbiofjdlfppfoaaDoorFrBk
import Derived.Test.YtbiofjdlfppfoaaDoorFrAt
import Derived.Test.YtbiofjdlfppfoaaDoorFrV
namespace Go.Proofs.YtbiofjdlfppfoaaDoor
open Go Go.RowKit

/-- What a round of the first loop begins with. -/
def X1 (w1 : World) (n : Nat) (i : Value) (wr : World) : Prop := ∃ j : Nat, i = .int .i64 j ∧ j ≤ n ∧ wr = w1
/-- What a round of the second loop begins with. -/
def X2 (w : World) (gx gy : Nat) (F : List (List UInt8)) (i : Value) (wr : World) : Prop :=
  ∃ j : Nat, i = .int .i64 j ∧ j ≤ F.length ∧ RowV wr gx (strVs F) ∧ SRow wr wr.heap.size (some ⟨gy, 0, none⟩) (F.map bst) ∧ Below w.heap.size w wr
theorem X2.drew {w wr : World} {gx gy : Nat} {F : List (List UInt8)} {i : Value} (h : X2 w gx gy F i wr) : X2 w gx gy F i wr.drew := by
  obtain ⟨j, h1, h2, h3, h4, h5⟩ := h
  exact ⟨j, h1, h2, h3, h4, h5.drew⟩
theorem X2.drewN {w wr : World} {gx gy : Nat} {F : List (List UInt8)} {i : Value} (h : X2 w gx gy F i wr) (n : Nat) : X2 w gx gy F i (wr.drewN n) := by
  obtain ⟨j, h1, h2, h3, h4, h5⟩ := h
  exact ⟨j, h1, h2, h3, h4, below_drewN h5 n⟩

/-- What Read of the reference returns, whatever the row. -/
theorem rread_c (B c : Nat) (A : Option Addr) (l : List ByteArray) (w : World) (hl : l.length ≤ 9223372036854775807) (h : SRow w B A l) (hB : B ≤ w.heap.size) :
    Calls Tryd.prog 14 #[.slice A l.length c] w fun e w' => RReadV e (readF (rows l)) ∧ Below w.heap.size w w' := by
  rw [← readP_eq]
  cases hi : l[0]? with
  | none =>
    have e : readP (rows l) = .error 0 := by unfold readP; rw [rows_get, hi]; rfl
    rw [e]
    refine (rread_none B c A l w hl h fun z hz => by rw [hi] at hz; cases hz).mono ?_
    rintro e' w' ⟨h1, rfl⟩
    exact ⟨h1, Below.refl _ _⟩
  | some z =>
    have hrow : (rows l)[0]? = some z.data.toList := by rw [rows_get, hi]; rfl
    by_cases hz : z.size = 64
    · by_cases hbad : seqOf z.data.toList < 1 ∨ 2147483647 < seqOf z.data.toList ∨ idxOf z.data.toList ≠ 0 ∨ cntOf z.data.toList < 1 ∨ 108 < cntOf z.data.toList
      · have e : readP (rows l) = .error 0 := by
          unfold readP; rw [hrow]
          simp only []
          rw [if_neg (by rw [size_len]; omega), if_pos hbad]
        rw [e]
        refine (rread_begins B c A l z _ _ _ w hl h hi hz rfl rfl rfl hbad).mono ?_
        rintro e' w' ⟨h1, rfl⟩
        exact ⟨h1, Below.refl _ _⟩
      · rw [readP_eq]
        exact rread_loop B c A l z _ _ w hl h hB hi hz rfl (by omega) rfl (by omega)
    · have e : readP (rows l) = .error 0 := by
        unfold readP; rw [hrow]
        simp only []
        rw [if_pos (by rw [size_len]; exact hz)]
      rw [e]
      refine (rread_none B c A l w hl h fun z' hz' => by rw [hi] at hz'; cases hz'; exact hz).mono ?_
      rintro e' w' ⟨h1, rfl⟩
      exact ⟨h1, Below.refl _ _⟩

set_option maxHeartbeats 6400000 in
set_option maxRecDepth 100000 in
theorem exact_any (s : Nat → Addr) (q : Int) (d : ByteArray) (A : Option Addr) (c : Nat) (xs : List ByteArray) (w : World) (hs : Sent s w) (hy : ETy w) (hd : d.size ≤ 9223372036854775807) (_q1 : -9223372036854775808 ≤ q) (_q2 : q ≤ 9223372036854775807)
    (hA : SRow w w.heap.size A xs) (hl : xs.length ≤ 9223372036854775807) (hc : xs.length ≤ c) :
    Calls Tryd.prog 3 #[.int .i64 q, .string d, .slice A xs.length c] w fun e w' => e = .returned (.bool true) ∧ Below w.heap.size w w' := by
  by_cases hbig : 7000 < d.size
  · have h1i : (7000 : Int) < (d.size : Int) := by omega
    go_enter Tryd.func3, Tryd.ntmps3
    go_wp2_with fail
    refine (awake_c s _ hs).mono ?_
    rintro e w1 ⟨rfl, b1⟩
    go_wp2_with fail
    go_ret
    exact ⟨rfl, b1⟩
  by_cases hmany : 20 < xs.length
  · have h1i : ¬ (7000 : Int) < (d.size : Int) := by omega
    have h2i : (20 : Int) < (xs.length : Int) := by omega
    go_enter Tryd.func3, Tryd.ntmps3
    go_wp2_with fail
    refine (awake_c s _ hs).mono ?_
    rintro e w1 ⟨rfl, b1⟩
    go_wp2_with fail
    go_ret
    exact ⟨rfl, b1⟩
  have h1i : ¬ (7000 : Int) < (d.size : Int) := by omega
  have h2i : ¬ (20 : Int) < (xs.length : Int) := by omega
  have HRD : Hid (∀ W, Below w.heap.size w W → _) := Lib.hid fun W (hb : Below w.heap.size w W) => read_c s w.heap.size c A xs W (hs.below hb (Nat.le_refl _)) hl hc (hA.below hb (Nat.le_refl _)) hb.size
  have HRR : Hid (∀ W, Below w.heap.size w W → _) := Lib.hid fun W (hb : Below w.heap.size w W) => rread_c w.heap.size c A xs W hl (hA.below hb (Nat.le_refl _)) hb.size
  have HS : Hid (∀ W, Below w.heap.size w W → Sent s W) := Lib.hid fun W hb => hs.below hb (Nat.le_refl _)
  have HY : Hid (∀ W, Below w.heap.size w W → ETy W) := Lib.hid fun W hb => hy.below hb (Nat.le_refl _)
  have HSA := Lib.hid hA
  have SX := Lib.hid fun W => sizeS_c d W (by omega)
  have SY := Lib.hid fun W => rsize_c d W (by omega)
  clear hA hy
  go_enter Tryd.func3, Tryd.ntmps3
  go_wp2_with fail
  refine (awake_c s _ hs).mono ?_
  rintro e w1 ⟨rfl, b1⟩
  clear hs
  have B1 := Lib.hid b1
  have HSA1 := Lib.hid (HSA.out.below b1 (Nat.le_refl _))
  clear b1
  have HST : Hid (X1 w1 xs.length (.int .i64 0) w1) := Lib.hid ⟨0, rfl, Nat.zero_le _, rfl⟩
  go_wp2_with fail
  go_loopw [7] (fun i wr => X1 w1 xs.length i wr) (fun i _ => xs.length - (intOf i).toNat)
  case atStart => exact HST.out
  case round =>
    obtain ⟨j, rfl, hj, rfl⟩ := hrel
    clear HST
    by_cases hjn : j < xs.length
    · obtain ⟨x, hxj⟩ : ∃ x, xs[j]? = some x := ⟨_, List.getElem?_eq_getElem hjn⟩
      obtain ⟨a, rfl, hal, hcx⟩ := HSA1.out.cell hxj
      have ji : (j : Int) < (xs.length : Int) := by omega
      have j0 : (0 : Int) ≤ (j : Int) := by omega
      have HN : Hid (X1 wr xs.length (.int .i64 ((j : Int) + 1)) wr) := Lib.hid ⟨j + 1, ret_v (by omega), hjn, rfl⟩
      clear hxj HRD HRR HS HY SX SY
      by_cases hx : 100 < x.size
      · have hxi : (100 : Int) < (x.size : Int) := by omega
        go_wp2_with fail
        go_ret
        exact ⟨rfl, B1.out⟩
      · have hxi : ¬ (100 : Int) < (x.size : Int) := by omega
        go_wp2_with fail
        go_roundw
        case rel => exact HN.out
        case measure => simp [intOf]; omega
    · have jn : ¬ (j : Int) < (xs.length : Int) := by omega
      by_cases hbad : q < 1 ∨ 2147483647 < q ∨ 6000 < d.size
      · have HB := Lib.hid (blocks_bad s q d wr (HS.out _ B1.out) hd hbad)
        have HR := Lib.hid fun W => rblocks_bad q d W hd hbad
        go_wp2_with fail
        refine HB.out.mono ?_
        rintro e w2 ⟨rfl, b2⟩
        have B2 : Hid (Below w.heap.size w w2) := Lib.hid (B1.out.trans (b2.mono B1.out.size))
        have hg := (HS.out _ B2.out).cell 0 (by omega)
        simp only [gnum, List.getD_cons_zero] at hg
        clear b2
        go_wp2_with fail
        refine (HR.out _).mono ?_
        rintro e w3 ⟨rfl, rfl⟩
        clear HB HR hbad
        go_wp2_with (first | (go_at_call 10; (with_reducible refine (is_sent s 0 0 _ (HS.out _ B2.out) (by omega) (by omega)).mono ?_); rintro e w5 ⟨rfl, rfl⟩) | (go_at_call 11; (with_reducible refine (SX.out _).mono ?_); rintro e w5 ⟨rfl, rfl⟩) | (go_at_call 12; (with_reducible refine (SY.out _).mono ?_); rintro e w5 ⟨rfl, rfl⟩))
        go_loopw [12] (fun i wr => i = .int .i64 0 ∧ wr = w2) (fun _ _ => 0)
        case atStart => exact ⟨rfl, rfl⟩
        case round =>
          obtain ⟨rfl, rfl⟩ := hrel
          go_wp2_with fail
          refine (HRD.out _ B2.out).mono ?_
          rintro e w8 ⟨h8, b8⟩
          have B8 : Hid (Below w.heap.size w w8) := Lib.hid ((B2.out).trans (b8.mono (B2.out).size))
          clear b8
          cases hrf : readF (rows xs) with
          | error k =>
            rw [hrf] at h8
            obtain ⟨ev, rfl, hv⟩ := h8
            have HV := Lib.hid hv; clear hv
            go_wp2_with fail
            refine (HRR.out _ B8.out).mono ?_
            rintro e w9 ⟨h9, b9⟩
            have B9 : Hid (Below w.heap.size w w9) := Lib.hid (B8.out.trans (b9.mono B8.out.size))
            have HV9 := Lib.hid (HV.out.below b9 (Nat.le_refl _))
            clear b9
            rw [hrf] at h9
            obtain rfl := h9
            clear hrf
            go_wp2_with fail
            refine (at_fault s k ev _ (HS.out _ B9.out) (HY.out _ B9.out) HV9.out).mono ?_
            rintro e w10 ⟨rfl, b10⟩
            have B10 : Hid (Below w.heap.size w w10) := Lib.hid (B9.out.trans (b10.mono B9.out.size))
            clear b10
            go_wp2_with fail
            go_ret
            exact ⟨rfl, B10.out⟩
          | ok r =>
            obtain ⟨dd, sq, nn⟩ := r
            rw [hrf] at h8
            obtain rfl := h8
            obtain ⟨DD, hDD⟩ : ∃ DD, bst dd = DD := ⟨_, rfl⟩
            rw [hDD]
            go_wp2_with fail
            refine (HRR.out _ B8.out).mono ?_
            rintro e w9 ⟨h9, b9⟩
            have B9 : Hid (Below w.heap.size w w9) := Lib.hid (B8.out.trans (b9.mono B8.out.size))
            clear b9
            rw [hrf] at h9
            obtain rfl := h9
            rw [hDD]
            clear hrf hDD
            go_wp2_with fail
            refine (at_nil _).mono ?_
            rintro e w10 ⟨rfl, b10⟩
            have B10 : Hid (Below w.heap.size w w10) := Lib.hid (B9.out.trans (b10.mono B9.out.size))
            clear b10
            go_wp2_with fail
            go_ret
            exact ⟨rfl, B10.out⟩
      · obtain ⟨k, rfl⟩ : ∃ k : Nat, q = (k : Int) := ⟨q.toNat, by omega⟩
        obtain ⟨F, hF⟩ : ∃ F, framesF k d.data.toList = F := ⟨_, rfl⟩
        have lF : F.length = nblk d.size := by rw [← hF, framesF_len, size_len]
        have nF : 1 ≤ F.length ∧ F.length ≤ 108 := by rw [lF]; unfold nblk; omega
        have hbo := blocks_ok k d wr (by omega) (by omega) (by omega)
        have hro := fun W => rblocks_ok k d W (by omega) (by omega) (by omega)
        rw [hF, ← lF] at hbo
        simp only [hF, ← lF] at hro
        have HB := Lib.hid hbo
        have HR := Lib.hid hro
        clear hbo hro hF lF hbad
        go_wp2_with fail
        refine HB.out.mono ?_
        rintro e w2 ⟨⟨gx, rfl, rx, hgx⟩, b2⟩
        have B2 : Hid (Below w.heap.size w w2) := Lib.hid (B1.out.trans (b2.mono B1.out.size))
        have RX := Lib.hid rx
        clear b2 rx
        go_wp2_with fail
        refine (HR.out _).mono ?_
        rintro e w3 ⟨⟨v, base, rfl, ho⟩, b3⟩
        have B3 : Hid (Below w.heap.size w w3) := Lib.hid (B2.out.trans (b3.mono B2.out.size))
        have RX3 := Lib.hid (RX.out.below b3 RX.out.lt)
        obtain ⟨gy, cap, rfl, hcap, hsy, hny⟩ := own_srow ho (by omega)
        clear b3 ho HB HR
        have HST : Hid (X2 w gx gy F (.int .i64 0) w3) := Lib.hid ⟨0, rfl, Nat.zero_le _, RX3.out, hsy, B3.out⟩
        clear hsy hny hcap RX3 RX
        go_wp2_with (first | (go_at_call 11; (with_reducible refine (SX.out _).mono ?_); rintro e w5 ⟨rfl, rfl⟩) | (go_at_call 12; (with_reducible refine (SY.out _).mono ?_); rintro e w5 ⟨rfl, rfl⟩))
        go_loopw [12] (fun i wr => X2 w gx gy F i wr) (fun i _ => F.length - (intOf i).toNat)
        case atStart => exact HST.out
        case round =>
          obtain ⟨t, rfl, ht, hx, hsy, hb⟩ := hrel
          clear HST
          by_cases htn : t < F.length
          · obtain ⟨x, hxt⟩ : ∃ x, F[t]? = some x := ⟨_, List.getElem?_eq_getElem htn⟩
            have cx := hx.cell (j := t) (v := .string (bst x)) (by rw [strVs_get, hxt]; rfl)
            obtain ⟨a2, e2, l2, cy⟩ := hsy.cell (i := t) (z := bst x) (by rw [List.getElem?_map, hxt]; rfl)
            cases e2
            rw [adr0] at cy
            have ti : (t : Int) < (F.length : Int) := by omega
            have t0 : (0 : Int) ≤ (t : Int) := by omega
            obtain ⟨S, hS⟩ : ∃ S, bst x = S := ⟨_, rfl⟩
            rw [hS] at cx cy
            have HN : Hid (X2 w gx gy F (.int .i64 ((t : Int) + 1)) wr) := Lib.hid ⟨t + 1, ret_v (by omega), htn, hx, hsy, hb⟩
            clear hx hsy hb hS hxt HRD HRR HS HY SX SY
            go_wp2_with fail
            go_region
            all_goals go_wp2_with fail
            all_goals go_roundw
            all_goals first
              | (simp [intOf]; omega)
              | (repeat' (first | (with_reducible exact HN.out) | (with_reducible refine X2.drew ?_) | (with_reducible refine X2.drewN ?_ _)))
          · obtain rfl : t = F.length := by omega
            have HBB := Lib.hid hb
            clear hx hsy hb
            go_wp2_with fail
            refine (HRD.out _ HBB.out).mono ?_
            rintro e w8 ⟨h8, b8⟩
            have B8 : Hid (Below w.heap.size w w8) := Lib.hid ((HBB.out).trans (b8.mono (HBB.out).size))
            clear b8
            cases hrf : readF (rows xs) with
            | error k =>
              rw [hrf] at h8
              obtain ⟨ev, rfl, hv⟩ := h8
              have HV := Lib.hid hv; clear hv
              go_wp2_with fail
              refine (HRR.out _ B8.out).mono ?_
              rintro e w9 ⟨h9, b9⟩
              have B9 : Hid (Below w.heap.size w w9) := Lib.hid (B8.out.trans (b9.mono B8.out.size))
              have HV9 := Lib.hid (HV.out.below b9 (Nat.le_refl _))
              clear b9
              rw [hrf] at h9
              obtain rfl := h9
              clear hrf
              go_wp2_with fail
              refine (at_fault s k ev _ (HS.out _ B9.out) (HY.out _ B9.out) HV9.out).mono ?_
              rintro e w10 ⟨rfl, b10⟩
              have B10 : Hid (Below w.heap.size w w10) := Lib.hid (B9.out.trans (b10.mono B9.out.size))
              clear b10
              go_wp2_with fail
              go_ret
              exact ⟨rfl, B10.out⟩
            | ok r =>
              obtain ⟨dd, sq, nn⟩ := r
              rw [hrf] at h8
              obtain rfl := h8
              obtain ⟨DD, hDD⟩ : ∃ DD, bst dd = DD := ⟨_, rfl⟩
              rw [hDD]
              go_wp2_with fail
              refine (HRR.out _ B8.out).mono ?_
              rintro e w9 ⟨h9, b9⟩
              have B9 : Hid (Below w.heap.size w w9) := Lib.hid (B8.out.trans (b9.mono B8.out.size))
              clear b9
              rw [hrf] at h9
              obtain rfl := h9
              rw [hDD]
              clear hrf hDD
              go_wp2_with fail
              refine (at_nil _).mono ?_
              rintro e w10 ⟨rfl, b10⟩
              have B10 : Hid (Below w.heap.size w w10) := Lib.hid (B9.out.trans (b10.mono B9.out.size))
              clear b10
              go_wp2_with fail
              go_ret
              exact ⟨rfl, B10.out⟩
end Go.Proofs.YtbiofjdlfppfoaaDoor
