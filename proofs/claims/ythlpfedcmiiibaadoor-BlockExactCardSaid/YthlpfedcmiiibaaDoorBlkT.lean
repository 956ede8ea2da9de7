/- The walk of the law BlockTears: whatever the arguments, it returns true. Condition: the sentinels lie as the program's text lays them. -/
import Derived.Test.YthlpfedcmiiibaaDoorBlkG
import Derived.Test.YthlpfedcmiiibaaDoorBlkB
namespace Go.Proofs.YthlpfedcmiiibaaDoor
open Go Go.RowKit

theorem block_addB (a : Addr) (n : Nat) : (a.add n).block = a.block := by unfold Addr.add; split <;> rfl
theorem bytes_ext {p q : ByteArray} (h : p.data.toList = q.data.toList) : p = q := by
  obtain ⟨⟨l⟩⟩ := p; obtain ⟨⟨m⟩⟩ := q
  have h2 : l = m := h
  rw [h2]
theorem cat_is (x y : List UInt8) (k : Nat) : (strB x).extract 0 k ++ (strB y).extract k y.length = strB (x.take k ++ y.drop k) := by
  apply bytes_ext
  rw [ByteArray.data_append, Array.toList_append, extract_take, ByteArray.data_extract, Array.toList_extract, List.extract_eq_take_drop]
  show x.take k ++ (y.drop k).take (y.length - k) = x.take k ++ y.drop k
  rw [show (y.drop k).take (y.length - k) = y.drop k from List.take_of_length_le (by simp)]
/-- A row of bytes that came in. -/
def BRow (w : World) (B : Nat) (A : Option Addr) (zs : List UInt8) : Prop := 0 < zs.length → ∃ a, A = some a ∧ a.block < B ∧ ∀ i z, zs[i]? = some z → w.cell? (a.add i) = some (.int .u8 (z.toNat : Int))
/-- The strings of the first ten blocks. -/
def rowOf (d : DS) : List Value := (List.range 10).map fun j => .string (strB (d.blk j))
theorem rowOf_len (d : DS) : (rowOf d).length = 10 := by simp [rowOf]
theorem rowOf_get (d : DS) (j : Nat) (h : j < 10) : (rowOf d)[j]? = some (.string (strB (d.blk j))) := by simp [rowOf, h]
theorem rowOf_set {d d' : DS} {a : Nat} {x : List UInt8} (h : ∀ j, j ≠ a → d'.blk j = d.blk j) (hx : d'.blk a = x) : rowOf d' = (rowOf d).set a (.string (strB x)) := by
  apply List.ext_getElem?
  intro j
  rw [List.getElem?_set]
  by_cases hj : j < 10
  · rw [rowOf_get d' j hj]
    by_cases e : a = j
    · subst e; rw [if_pos rfl, if_pos (by rw [rowOf_len]; exact hj), hx]
    · rw [if_neg e, rowOf_get d j hj, h j (fun h => e h.symm)]
  · have h1 : (rowOf d')[j]? = none := List.getElem?_eq_none (by rw [rowOf_len]; omega)
    have h2 : (rowOf d)[j]? = none := List.getElem?_eq_none (by rw [rowOf_len]; omega)
    rw [h1, h2]
    split
    · rw [if_neg (by rw [rowOf_len]; omega)]
    · rfl
/-- The law's own row at block q. -/
def WasAt (w : World) (q : Nat) (l : List Value) : Prop := w.heap[q]? = some (.cells l.toArray 47 (0, 0))
theorem WasAt.on {w w' : World} {q : Nat} {l : List Value} (hb : Below w.heap.size w w') (h : WasAt w q l) : WasAt w' q l := (hb.block q (lt_of_block h)).trans h
theorem WasAt.drewN {w : World} {q : Nat} {l : List Value} (h : WasAt w q l) (n : Nat) : WasAt (w.drewN n) q l := h
theorem WasAt.drew {w : World} {q : Nat} {l : List Value} (h : WasAt w q l) : WasAt w.drew q l := h
theorem WasAt.kept {w w' : World} {q p g : Nat} {l : List Value} (h : WasAt w q l) (hc : Chg p g w w') (h1 : q ≠ p) (h2 : q ≠ g) : WasAt w' q l := (hc.block q (lt_of_block h) h1 h2).trans h
theorem WasAt.set {w : World} {q : Nat} {l : List Value} (h : WasAt w q l) (j : Nat) (v : Value) : WasAt (w.setCell ⟨q, j, none⟩ v) q (l.set j v) := by
  have := set_cells (j := j) (x := v) h
  rwa [List.setIfInBounds_toArray] at this
theorem WasAt.cell {w : World} {q j : Nat} {l : List Value} {v : Value} (h : WasAt w q l) (hj : l[j]? = some v) : w.cell? ⟨q, j, none⟩ = some v := (cell_of_heap h j).trans (by simpa using hj)
theorem WasAt.free {w : World} {q : Nat} {l : List Value} (h : WasAt w q l) (j : Nat) : w.frozen? ⟨q, j, none⟩ = false := frozen_of_heap h j
theorem Carry.setOther {w wk : World} {p g cap q : Nat} {d : DS} (h : Carry w wk p g cap d) (hq : p < q) (j : Nat) (v : Value) : Carry w (wk.setCell ⟨q, j, none⟩ v) p g cap d :=
  have h1 := h.disk.lt
  have h2 := h.low
  ⟨h.disk.same (Below.heap_setCell _ ⟨q, j, none⟩ _ p (by show p ≠ q; omega)) (Below.heap_setCell _ ⟨q, j, none⟩ _ g (by show g ≠ q; omega)), h.below.setCell (by show _ ≤ q; omega) _, h.low⟩

def fillS (i : Nat) : List Value := List.replicate i (.string (strB (fullB 0))) ++ List.replicate (10 - i) (.string ⟨#[]⟩)
theorem fill_get (i : Nat) (h : i < 10) : (fillS i)[i]? = some (.string ⟨#[]⟩) := by
  unfold fillS
  rw [List.getElem?_append_right (by simp), List.getElem?_replicate, if_pos (by simp; omega)]
theorem fill_set (i : Nat) (h : i < 10) : (fillS i).set i (.string (strB (fullB 0))) = fillS (i + 1) := by
  unfold fillS
  rw [List.set_append_right _ _ (by simp)]
  simp only [List.length_replicate, Nat.sub_self]
  rw [show 10 - i = (10 - (i + 1)) + 1 by omega, List.replicate_succ, List.set_cons_zero, List.replicate_succ']
  simp
def T0 : DS := newD (List.replicate (64 * 10) 0)
theorem fill_all : fillS 10 = rowOf T0 := by
  unfold fillS rowOf
  have h : ∀ j, j ∈ List.range 10 → (Value.string (strB (T0.blk j))) = .string (strB (fullB 0)) := fun j hj => by
    rw [T0, rep_blk 10 j (by have := List.mem_range.1 hj; omega)]
  rw [List.map_congr_left h]
  rfl
/-- What the first loop carries. -/
def FRel (w w' : World) (p g cap q i : Nat) : Prop := Carry w w' p g cap T0 ∧ WasAt w' q (fillS i)

/-- What the second loop carries of the disk: i writes were made, n are to succeed, the one behind them lays k bytes. -/
structure TInv (n k : Nat) (D : DS) (i : Nat) : Prop where
  len : D.bs.length = 640
  torn : D.torn = k
  pre : i ≤ n → D.on = true ∧ D.fuse = ((n - i : Nat) : Int) ∧ D.wr = i
  post : n < i → D.on = false ∧ D.wr = n
theorem TInv.start (n k : Nat) (hk : k < 65) : TInv n k (T0.setFuse (n : Int) (k : Int)) 0 := by
  have e : clampI (k : Int) 64 = k := by unfold clampI; omega
  exact ⟨by show (List.replicate (64 * 10) (0 : UInt8)).length = 640; rw [List.length_replicate], e, fun _ => ⟨rfl, by show (n : Int) = _; simp, rfl⟩, fun h => absurd h (by omega)⟩
theorem TInv.has {n k i a : Nat} {D : DS} (h : TInv n k D i) (ha : a < 10) : D.has (a : Int) = true := by
  rw [DS.has_iff]; unfold DS.n; rw [h.len]; omega
theorem TInv.wr {n k i : Nat} {D : DS} (h : TInv n k D i) : D.wr ≤ n := by
  by_cases hi : i ≤ n
  · rw [(h.pre hi).2.2]; exact hi
  · rw [(h.post (by omega)).2]; exact Nat.le_refl _
theorem TInv.good {n k i a : Nat} {D : DS} (h : TInv n k D i) (ha : a < 10) (hi : i < n) (b : UInt8) :
    D.write (a : Int) (fullB b) = (0, D.wrote (a : Int) (fullB b)) ∧ TInv n k (D.wrote (a : Int) (fullB b)) (i + 1) ∧ rowOf (D.wrote (a : Int) (fullB b)) = (rowOf D).set a (.string (strB (fullB b))) := by
  obtain ⟨h1, h2, h3⟩ := h.pre (by omega)
  have hl : (D.wrote (a : Int) (fullB b)).bs = splice D.bs (64 * a) (fullB b) := rfl
  have h64 := h.len
  have hf := fullB_len b
  refine ⟨write_whole (h.has ha) hf h1 (by rw [h2]; omega), ⟨?_, h.torn, fun hi' => ⟨h1, ?_, ?_⟩, fun hi' => absurd hi' (by omega)⟩, ?_⟩
  · rw [hl, len_splice (by omega)]; exact h64
  · show (if 0 < D.fuse then D.fuse - 1 else D.fuse) = _
    rw [h2, if_pos (by omega)]; omega
  · show D.wr + 1 = i + 1
    rw [h3]
  · exact rowOf_set (fun j hj => blk_other hl (by omega) (by omega) hj) (blk_all hl hf (by omega))
theorem TInv.tear {n k i a : Nat} {D : DS} (h : TInv n k D i) (ha : a < 10) (hi : i = n) (hk : k < 65) (b : UInt8) :
    D.write (a : Int) (fullB b) = (14, D.torn1 (a : Int) (fullB b)) ∧ TInv n k (D.torn1 (a : Int) (fullB b)) (i + 1) ∧ rowOf (D.torn1 (a : Int) (fullB b)) = (rowOf D).set a (.string (strB ((fullB b).take k ++ (D.blk a).drop k))) := by
  obtain ⟨h1, h2, h3⟩ := h.pre (by omega)
  have hf := fullB_len b
  have hl : (D.torn1 (a : Int) (fullB b)).bs = splice D.bs (64 * a) ((fullB b).take k) := by
    show splice D.bs (64 * a) ((fullB b).take D.torn) = _
    rw [h.torn]
  have h64 := h.len
  have htl : ((fullB b).take k).length = k := by simp; omega
  refine ⟨write_torn (h.has ha) hf h1 (by rw [h2]; omega), ⟨?_, h.torn, fun hi' => absurd hi' (by omega), fun _ => ⟨rfl, by show D.wr = n; rw [h3, hi]⟩⟩, ?_⟩
  · rw [hl, len_splice (by omega)]; exact h64
  · refine rowOf_set (fun j hj => blk_other hl (by omega) (by omega) hj) ?_
    rw [blk_same hl (by omega) (by omega), htl]
theorem TInv.off {n k i a : Nat} {D : DS} (h : TInv n k D i) (ha : a < 10) (hi : n < i) (b : UInt8) : D.write (a : Int) (fullB b) = (14, D) ∧ TInv n k D (i + 1) :=
  ⟨write_off (h.has ha) (fullB_len b) (h.post hi).1, ⟨h.len, h.torn, fun hi' => absurd hi' (by omega), fun _ => h.post hi⟩⟩
/-- What the second loop begins a round with. -/
def TRel (w w' : World) (p g cap q n k i : Nat) : Prop := ∃ D, Carry w w' p g cap D ∧ WasAt w' q (rowOf D) ∧ TInv n k D i

theorem come_blk (d : DS) (j : Nat) : d.come.blk j = d.blk j := by unfold DS.come; split <;> rfl
theorem come_on (d : DS) : d.come.on = true := by unfold DS.come; split <;> simp_all
theorem come_len (d : DS) : d.come.bs = d.bs := by unfold DS.come; split <;> rfl
theorem come_wr (d : DS) : d.come.wr = d.wr := by unfold DS.come; split <;> rfl
theorem come_has (d : DS) (i : Int) : d.come.has i = d.has i := by unfold DS.has DS.n; rw [come_len]
theorem TInv.read {n k i a : Nat} {D : DS} (h : TInv n k D i) (ha : a < 10) : D.come.read (a : Int) = (0, D.blk a) := by
  rw [read_in (by rw [come_has]; exact h.has ha) (come_on D), Int.toNat_natCast, come_blk]
theorem TInv.count {n k i : Nat} {D : DS} (h : TInv n k D i) : D.wr = min n i := by
  by_cases hi : i ≤ n
  · rw [(h.pre hi).2.2]; omega
  · rw [(h.post (by omega)).2]; omega
theorem TRel.drew {w w' : World} {p g cap q n k i : Nat} (h : TRel w w' p g cap q n k i) : TRel w w'.drew p g cap q n k i := by
  obtain ⟨D, h1, h2, h3⟩ := h; exact ⟨D, h1.drew, h2.drew, h3⟩
theorem TRel.drewN {w w' : World} {p g cap q n k i : Nat} (h : TRel w w' p g cap q n k i) (m : Nat) : TRel w (w'.drewN m) p g cap q n k i := by
  obtain ⟨D, h1, h2, h3⟩ := h; exact ⟨D, h1.drewN m, h2.drewN m, h3⟩
theorem TRel.torn {w wk : World} {p g cap q n k i a : Nat} {D : DS} {b : UInt8} (hpq : p < q) (h1 : Carry w wk p g cap (D.torn1 (a : Int) (fullB b))) (h2 : WasAt wk q (rowOf D)) (h3 : TInv n k (D.torn1 (a : Int) (fullB b)) (i + 1))
    (h4 : rowOf (D.torn1 (a : Int) (fullB b)) = (rowOf D).set a (.string (strB ((fullB b).take k ++ (D.blk a).drop k)))) :
    TRel w (wk.setCell ⟨q, a, none⟩ (.string ((strB (fullB b)).extract 0 k ++ (strB (D.blk a)).extract k (D.blk a).length))) p g cap q n k (i + 1) :=
  ⟨_, h1.setOther hpq a _, by rw [h4, cat_is]; exact h2.set a _, h3⟩

set_option maxHeartbeats 3200000 in
set_option maxRecDepth 100000 in
theorem tears_walk (s : Nat → Addr) (A : Option Addr) (c : Nat) (zs : List UInt8) (F T : Int) (w : World) (hs : Sent s w) (hA : BRow w w.heap.size A zs) (hl : zs.length ≤ 30) :
    Calls Tryd.prog 4 #[.slice A zs.length c, .int .i64 F, .int .i64 T] w fun e w' => e = .returned (.bool true) ∧ Below w.heap.size w w' := by
  have hl30 : (zs.length : Int) ≤ 30 := by omega
  go_enter Tryd.func4, Tryd.ntmps4
  go_wp2_with fail
  refine (awake_c s _ hs).mono ?_
  rintro e w1 ⟨rfl, hb1⟩
  have HS := Lib.hid (hs.below hb1 (Nat.le_refl _)); clear hs
  go_wp2_with fail
  refine (new_c 10 _ (by omega) (by omega)).mono ?_
  rintro e w2 ⟨p, g, cap, rfl, d2, b2, g2⟩
  rw [show clampI 10 4096 = 10 by decide] at d2
  have K2 : Hid (FRel w1 (w2.alloc (.cells (fillS 0).toArray 47)) p g cap w2.heap.size 0) := Lib.hid ⟨⟨d2.alloc _, b2.alloc b2.size _, g2⟩, heap_alloc_new _ _⟩
  have hpq : p < w2.heap.size := d2.lt.1
  clear d2 b2 g2
  go_wp2_with fail
  obtain ⟨q, hqq⟩ : ∃ q, q = w2.heap.size := ⟨_, rfl⟩
  rw [← hqq] at K2 hpq ⊢
  clear hqq
  go_loopw [9] (fun u wr => ∃ i : Nat, i ≤ 10 ∧ u = .int .i64 (i : Int) ∧ FRel w1 wr p g cap q i) (fun u _ => 10 - (intOf u).toNat)
  case atStart => exact ⟨0, by omega, rfl, K2.out⟩
  case round =>
    obtain ⟨i, hi, rfl, hr⟩ := hrel
    have KR := Lib.hid hr; clear hr K2
    by_cases h10 : i < 10
    · have hi0 : (0 : Int) ≤ (i : Int) := by omega
      have hi1 : (i : Int) < 10 := by omega
      go_wp2_with fail
      refine (full_c 0 _).mono ?_
      rintro e w3 ⟨rfl, b3⟩
      have hw3 : WasAt w3 q (fillS i) := WasAt.on b3 KR.out.2
      have hc3 := hw3.cell (fill_get i h10)
      have hf3 := hw3.free i
      have hN : Hid (FRel w1 (w3.setCell ⟨q, i, none⟩ (.string (strB (fullB 0)))) p g cap q (i + 1)) := Lib.hid ⟨(KR.out.1.on b3).setOther hpq i _, by have := hw3.set i (.string (strB (fullB 0))); rwa [fill_set i h10] at this⟩
      clear KR hw3 b3
      go_wp2_with fail
      go_roundw
      case rel => exact ⟨i + 1, by omega, by go_num, hN.out⟩
      case measure => simp [intOf]; omega
    · obtain rfl : i = 10 := by omega
      have K3 : Hid (Carry w1 wr p g cap T0) := Lib.hid KR.out.1
      have W3 : Hid (WasAt wr q (rowOf T0)) := Lib.hid (by have := KR.out.2; rwa [fill_all] at this)
      clear KR hi h10
      obtain ⟨n, hn31, hn⟩ := mod_k F 31 (by omega) (by omega)
      obtain ⟨k, hk65, hk⟩ := mod_k T 65 (by omega) (by omega)
      have HN : Hid (wrap64 ((IntKind.u64.wrap F).tmod 31) = (n : Int)) := Lib.hid hn; clear hn
      have HK : Hid (wrap64 ((IntKind.u64.wrap T).tmod 65) = (k : Int)) := Lib.hid hk; clear hk
      go_wp2_with fail
      simp only [HN.out, HK.out]
      refine (fuse_c p g cap T0 (n : Int) (k : Int) _ K3.out.disk (by omega) (by omega) (by omega) (by omega)).mono ?_
      rintro e w4 ⟨rfl, d4, c4⟩
      have hqg : g < p := K3.out.disk.lt.2
      have K4 : Hid (TRel w1 w4 p g cap q n k 0) := Lib.hid ⟨_, K3.out.step d4 c4, by have := W3.out.kept c4 (by omega) (by omega); exact this, TInv.start n k hk65⟩
      clear K3 W3 d4 c4 HN HK
      go_wp2_with fail
      go_loopw [12] (fun u wr => ∃ i : Nat, i ≤ zs.length ∧ u = .int .i64 (i : Int) ∧ TRel w1 wr p g cap q n k i) (fun u _ => zs.length - (intOf u).toNat)
      case atStart => exact ⟨0, by omega, rfl, K4.out⟩
      case round =>
        obtain ⟨i, hi, rfl, D, hr⟩ := hrel
        have KR := Lib.hid hr; clear hr K4
        have hi0 : (0 : Int) ≤ (i : Int) := by omega
        by_cases hlt : i < zs.length
        · have hi1 : (i : Int) < (zs.length : Int) := by omega
          obtain ⟨ad, rfl, hab, hac⟩ := hA (by omega)
          obtain ⟨b, hb⟩ : ∃ b, zs[i]? = some b := ⟨_, List.getElem?_eq_getElem hlt⟩
          have HC : Hid (∀ W : World, Below w1.heap.size w1 W → W.cell? (ad.add i) = some (.int .u8 (b.toNat : Int))) := Lib.hid fun W h =>
            ((hb1.trans (h.mono hb1.size)).cell (by rw [block_addB]; exact hab)).trans (hac i b hb)
          have hcell := HC.out wr KR.out.1.below
          clear hac hb
          obtain ⟨a, ha⟩ : ∃ a, a = b.toNat % 10 := ⟨_, rfl⟩
          have ha10 : a < 10 := by omega
          have haI : Hid ((b.toNat : Int) % 10 = (a : Int)) := Lib.hid (by omega)
          clear ha
          go_wp2_with fail
          simp only [haI.out]
          refine (full_c b _).mono ?_
          rintro e w5 ⟨rfl, b5⟩
          have K5 : Hid (Carry w1 w5 p g cap D) := Lib.hid (KR.out.1.on b5)
          have W5 : Hid (WasAt w5 q (rowOf D)) := Lib.hid (WasAt.on b5 KR.out.2.1)
          have TI : Hid (TInv n k D i) := Lib.hid KR.out.2.2
          clear KR b5 hcell
          have hwr := TI.out.wr
          have HBL : Hid ((D.blk a).length = 64) := Lib.hid (by have := DS.blk_len (TI.out.has ha10); rwa [Int.toNat_natCast] at this)
          go_wp2_with fail
          refine (write_c s p g cap D (a : Int) _ _ (K5.out.sent HS.out) K5.out.disk (by show 64 ≤ _; omega) (by omega)).mono ?_
          rintro e w6 ⟨rfl, d6, c6⟩
          have ha0 : (0 : Int) ≤ (a : Int) := by omega
          have ha9 : (a : Int) < 10 := by omega
          rcases Nat.lt_trichotomy i n with hin | hin | hin
          · obtain ⟨g1, g2, g3⟩ := TI.out.good ha10 hin b
            have e1 : D.write (a : Int) (strB (fullB b)).data.toList = (0, D.wrote (a : Int) (fullB b)) := g1
            rw [e1] at d6
            rw [e1]
            simp only [errV_zero]
            have K6 : Hid (Carry w1 w6 p g cap (D.wrote (a : Int) (fullB b))) := Lib.hid (K5.out.step d6 c6)
            have W6 : Hid (WasAt w6 q (rowOf D)) := Lib.hid (W5.out.kept c6 (by omega) (by omega))
            have T6 := Lib.hid g2
            have R6 := Lib.hid g3
            clear K5 W5 TI d6 c6 g1 g2 g3 e1
            have hinI : (i : Int) < (n : Int) := by omega
            have hcell := HC.out w6 K6.out.below
            go_wp2_with fail
            refine (full_c b _).mono ?_
            rintro e w7 ⟨rfl, b7⟩
            have w7' : WasAt w7 q (rowOf D) := WasAt.on b7 W6.out
            have hca := w7'.cell (rowOf_get D a ha10)
            have hfa := w7'.free a
            have hN : Hid (TRel w1 (w7.setCell ⟨q, a, none⟩ (.string (strB (fullB b)))) p g cap q n k (i + 1)) := Lib.hid ⟨_, (K6.out.on b7).setOther hpq a _, by rw [R6.out]; exact w7'.set a _, T6.out⟩
            clear K6 W6 T6 R6 b7 w7' hcell
            go_wp2_with fail
            go_roundw
            case rel => exact ⟨i + 1, by omega, by go_num, hN.out⟩
            case measure => simp [intOf]; omega
          · obtain ⟨g1, g2, g3⟩ := TI.out.tear ha10 hin hk65 b
            have e1 : D.write (a : Int) (strB (fullB b)).data.toList = (14, D.torn1 (a : Int) (fullB b)) := g1
            rw [e1] at d6
            rw [e1]
            simp only
            have K6 : Hid (Carry w1 w6 p g cap (D.torn1 (a : Int) (fullB b))) := Lib.hid (K5.out.step d6 c6)
            have W6 : Hid (WasAt w6 q (rowOf D)) := Lib.hid (W5.out.kept c6 (by omega) (by omega))
            have T6 := Lib.hid g2
            have R6 := Lib.hid g3
            clear K5 W5 TI d6 c6 g1 g2 g3 e1
            have hinI : ¬ (i : Int) < (n : Int) := by omega
            have hieq : ((i : Int) == (n : Int)) = true := by rw [hin]; exact beq_self_eq_true _
            have HIN := Lib.hid hin; clear hin
            go_wp2_with fail
            refine (kind_errV s 14 _ (K6.out.sent HS.out) (by omega)).mono ?_
            rintro e w7 ⟨rfl, b7⟩
            have K7 := Lib.hid (K6.out.on b7)
            have W7 : Hid (WasAt w7 q (rowOf D)) := Lib.hid (WasAt.on b7 W6.out)
            clear K6 W6 b7
            go_wp2_with fail
            refine (ison_c p g cap _ _ K7.out.disk).mono ?_
            rintro e w8 ⟨rfl, rfl⟩
            rw [show (D.torn1 (a : Int) (fullB b)).on = false from rfl]
            have hcell := HC.out w7 K7.out.below
            have hca := W7.out.cell (rowOf_get D a ha10)
            have hfa := W7.out.free a
            have hk0 : (0 : Int) ≤ (k : Int) := by omega
            have hfl : Hid ((fullB b).length = 64) := Lib.hid (fullB_len b)
            have hdl : Hid ((D.blk a).length = 64) := Lib.hid HBL.out
            have hq1 : ¬ 9223372036854775807 < min k (fullB b).length + ((D.blk a).length - k) := by have := hdl.out; omega
            have hq2 : ¬ 9223372036854775807 < k + ((D.blk a).length - k) := by have := hdl.out; omega
            have hk1 : (k : Int) ≤ ((fullB b).length : Int) := by have := hfl.out; omega
            have hk2 : (k : Int) ≤ ((D.blk a).length : Int) := by have := hdl.out; omega
            go_wp2_with fail
            have w70 := W7.out
            have k70 := K7.out
            clear W7 K7
            go_region_with (go_at_call 17; (refine (full_c b _).mono ?_); rintro e w8 ⟨rfl, b8⟩; have w80 : WasAt w8 q (rowOf D) := WasAt.on b8 (by (repeat' (first | (with_reducible assumption) | (with_reducible exact Hid.out (by with_reducible assumption)) | (with_reducible refine WasAt.drewN ?_ _) | (with_reducible refine WasAt.drew ?_)))); have k80 : Carry w1 w8 p g cap (D.torn1 (a : Int) (fullB b)) := Carry.on (by (repeat' (first | (with_reducible assumption) | (with_reducible exact Hid.out (by with_reducible assumption)) | (with_reducible refine Carry.drewN ?_ _) | (with_reducible refine Carry.drew ?_)))) b8; have hca8 : w8.cell? ⟨q, a, none⟩ = some (.string (strB (D.blk a))) := w80.cell (rowOf_get D a ha10); have hfa8 : w8.frozen? ⟨q, a, none⟩ = false := w80.free a; have R8 : Hid (TRel w1 (w8.setCell ⟨q, a, none⟩ (.string ((strB (fullB b)).extract 0 k ++ (strB (D.blk a)).extract k (D.blk a).length))) p g cap q n k (i + 1)) := Lib.hid (TRel.torn hpq k80 w80 T6.out R6.out); clear b8 k80 w80)
            all_goals go_wp2_with fail
            all_goals go_roundw
            all_goals first
              | (refine ⟨i + 1, by omega, by go_num, ?_⟩; repeat' (first | exact R8.out | refine TRel.drew ?_ | refine TRel.drewN ?_ _))
              | (simp [intOf]; omega)
          · obtain ⟨g1, g2⟩ := TI.out.off ha10 hin b
            have e1 : D.write (a : Int) (strB (fullB b)).data.toList = (14, D) := g1
            have hoff := (TI.out.post hin).1
            rw [e1] at d6
            rw [e1]
            simp only
            have K6 : Hid (Carry w1 w6 p g cap D) := Lib.hid (K5.out.step d6 c6)
            have W6 : Hid (WasAt w6 q (rowOf D)) := Lib.hid (W5.out.kept c6 (by omega) (by omega))
            have T6 := Lib.hid g2
            clear K5 W5 TI d6 c6 g1 g2 e1
            have hinI : ¬ (i : Int) < (n : Int) := by omega
            have hieq : ((i : Int) == (n : Int)) = false := by rw [beq_eq_false_iff_ne]; omega
            have HO := Lib.hid hoff; clear hoff
            go_wp2_with fail
            refine (kind_errV s 14 _ (K6.out.sent HS.out) (by omega)).mono ?_
            rintro e w7 ⟨rfl, b7⟩
            have K7 := Lib.hid (K6.out.on b7)
            have W7 : Hid (WasAt w7 q (rowOf D)) := Lib.hid (WasAt.on b7 W6.out)
            clear K6 W6 b7
            go_wp2_with fail
            refine (ison_c p g cap _ _ K7.out.disk).mono ?_
            rintro e w8 ⟨rfl, rfl⟩
            rw [HO.out]
            go_wp2_with fail
            go_roundw
            case rel => exact ⟨i + 1, by omega, by go_num, ⟨D, K7.out, W7.out, T6.out⟩⟩
            case measure => simp [intOf]; omega
        · obtain rfl : i = zs.length := by omega
          go_wp2_with fail
          refine (come_c p g cap D _ KR.out.1.disk).mono ?_
          rintro e w5 ⟨rfl, d5, c5⟩
          have TI : Hid (TInv n k D zs.length) := Lib.hid KR.out.2.2
          have K5 : Hid (Carry w1 w5 p g cap D.come ∧ WasAt w5 q (rowOf D)) := Lib.hid ⟨KR.out.1.step d5 c5, KR.out.2.1.kept c5 (by omega) (by omega)⟩
          clear KR d5 c5 hi hlt hi0
          go_wp2_with fail
          go_loopw [15] (fun u wr => ∃ j : Nat, j ≤ 10 ∧ u = .int .i64 (j : Int) ∧ Carry w1 wr p g cap D.come ∧ WasAt wr q (rowOf D)) (fun u _ => 10 - (intOf u).toNat)
          case atStart => exact ⟨0, by omega, rfl, K5.out.1, K5.out.2⟩
          case round =>
            obtain ⟨j, hj, rfl, k5, w50⟩ := hrel
            have K6 := Lib.hid k5; clear k5 K5
            have W6 := Lib.hid w50; clear w50
            have hj0 : (0 : Int) ≤ (j : Int) := by omega
            by_cases hj10 : j < 10
            · have hj1 : (j : Int) < 10 := by omega
              go_wp2_with fail
              refine (read_c s p g cap _ (j : Int) _ (K6.out.sent HS.out) K6.out.disk).mono ?_
              rw [TI.out.read hj10]
              rintro e w7 ⟨rfl, nd, rfl⟩
              have K7 := Lib.hid (K6.out.drewN nd)
              have W7 := Lib.hid (W6.out.drewN nd)
              clear K6 W6
              have hca := W7.out.cell (rowOf_get D j hj10)
              simp only [errV_zero]
              go_wp2_with fail
              go_roundw
              case rel => exact ⟨j + 1, by omega, by go_num, K7.out, W7.out⟩
              case measure => simp [intOf]; omega
            · obtain rfl : j = 10 := by omega
              have hwr : Hid (D.come.wr = min n zs.length) := Lib.hid (by rw [come_wr]; exact TI.out.count)
              have hbl : D.come.bs.length = 640 := by rw [come_len]; exact TI.out.len
              clear W6 TI
              go_wp2_with fail
              refine (writes_c p g cap _ _ K6.out.disk).mono ?_
              rintro e w7 ⟨rfl, rfl⟩
              rcases Nat.lt_trichotomy n zs.length with hm | hm | hm
              · rw [hwr.out, show min n zs.length = n by omega]
                have hmI : (n : Int) < (zs.length : Int) := by omega
                go_wp2_with fail
                refine (image_c p g cap _ _ K6.out.disk).mono ?_
                rintro e w8 ⟨rfl, rfl⟩
                go_wp2_with fail
                go_ret
                exact ⟨rfl, hb1.trans (K6.out.below.mono hb1.size)⟩
              · rw [hwr.out, show min n zs.length = n by omega]
                have hmI : ¬ (zs.length : Int) < (n : Int) := by omega
                have hmI2 : ¬ (n : Int) < (zs.length : Int) := by omega
                go_wp2_with fail
                refine (image_c p g cap _ _ K6.out.disk).mono ?_
                rintro e w8 ⟨rfl, rfl⟩
                go_wp2_with fail
                go_ret
                exact ⟨rfl, hb1.trans (K6.out.below.mono hb1.size)⟩
              · rw [hwr.out, show min n zs.length = zs.length by omega]
                have hmI : (zs.length : Int) < (n : Int) := by omega
                go_wp2_with fail
                refine (image_c p g cap _ _ K6.out.disk).mono ?_
                rintro e w8 ⟨rfl, rfl⟩
                go_wp2_with fail
                go_ret
                exact ⟨rfl, hb1.trans (K6.out.below.mono hb1.size)⟩

set_option maxHeartbeats 1600000 in
set_option maxRecDepth 100000 in
theorem tears_long (s : Nat → Addr) (A : Option Addr) (c : Nat) (zs : List UInt8) (F T : Int) (w : World) (hs : Sent s w) (hz : zs.length ≤ 9223372036854775807) (hl : 30 < zs.length) :
    Calls Tryd.prog 4 #[.slice A zs.length c, .int .i64 F, .int .i64 T] w fun e w' => e = .returned (.bool true) ∧ Below w.heap.size w w' := by
  have hl30 : (30 : Int) < (zs.length : Int) := by omega
  go_enter Tryd.func4, Tryd.ntmps4
  go_wp2_with fail
  refine (awake_c s _ hs).mono ?_
  rintro e w1 ⟨rfl, hb1⟩
  go_wp2_with fail
  go_ret
  exact ⟨rfl, by (repeat' (first | (with_reducible exact Below.refl _ _) | (with_reducible refine below_drewN ?_ _) | (with_reducible refine Below.drew ?_) | (with_reducible refine Below.alloc ?_ ?_ _) | (with_reducible refine Below.setCell ?_ ?_ _) | (with_reducible refine Below.trans ?_ (Below.mono (by with_reducible assumption) ?_)) | omega | (simp only [World.size_alloc, World.size_setCell, World.size_drew, Go.Proofs.YthlpfedcmiiibaaDoor.World.size_drewN] at *; omega) | (with_reducible refine Below.size (B := 0) ?_)))⟩
theorem tears_any (s : Nat → Addr) (A : Option Addr) (c : Nat) (zs : List UInt8) (F T : Int) (w : World) (hs : Sent s w) (hA : BRow w w.heap.size A zs) (hz : zs.length ≤ 9223372036854775807) :
    Calls Tryd.prog 4 #[.slice A zs.length c, .int .i64 F, .int .i64 T] w fun e w' => e = .returned (.bool true) ∧ Below w.heap.size w w' := by
  by_cases hl : zs.length ≤ 30
  · exact tears_walk s A c zs F T w hs hA hl
  · exact tears_long s A c zs F T w hs hz (by omega)
end Go.Proofs.YthlpfedcmiiibaaDoor
