/- The contract of the reference's reading of a store's blocks. No conditions but that they lie in memory. -/
import Derived.Test.YtaibmdjcppeopaaGreatDoorLgY
import Derived.Test.YtaibmdjcppeopaaGreatDoorShM
import Derived.Deep.RegionHeld3
namespace Go.Proofs.YtaibmdjcppeopaaGreatDoor
open Go Go.RowKit

/-- What the reference has of a store's areas behind i of them: text, number, area. -/
def stR (z : Nat) (l : List (List UInt8)) : Nat → List UInt8 × Nat × Int
  | 0 => ([], 0, -1)
  | i + 1 =>
    match snapF ((l.drop (z * i)).take z) with
    | (q, t) => if 0 < q ∧ ((stR z l i).2.2 < 0 ∨ (stR z l i).2.1 < q) then (t, q, (i : Int)) else stR z l i
theorem stR_selF {z N nx : Nat} {l : List (List UInt8)} {T : List UInt8} (hz : 0 < z) (h : selF z (snapF (l.take z)) (snapF ((l.drop z).take z)) = (N, T, nx)) : (stR z l 2).1 = T ∧ (stR z l 2).2.1 = N ∧ (((stR z l 2).2.2 = 0) ↔ nx = z) ∧ (nx ≠ z → (stR z l 2).2.2 ≠ 0 ∧ nx = 0) := by
  have hzB := fun hh => snapF_zero (l := (l.drop z).take z) hh
  simp only [stR, Nat.mul_zero, List.drop_zero, Nat.mul_one]
  unfold selF at h
  generalize hA : snapF (l.take z) = A at h ⊢
  generalize hB : snapF ((l.drop z).take z) = B at h hzB ⊢
  obtain ⟨a, ta⟩ := A
  obtain ⟨b, tb⟩ := B
  simp only [] at h hzB ⊢
  by_cases h1 : a < b
  · rw [if_pos h1] at h
    simp only [Prod.mk.injEq] at h
    obtain ⟨rfl, rfl, rfl⟩ := h
    by_cases h2 : 0 < a
    · simp [h2, h1, show 0 < b by omega]; omega
    · simp [h2, show 0 < b by omega]; omega
  · rw [if_neg h1] at h
    by_cases h2 : 0 < a
    · rw [if_pos h2] at h
      simp only [Prod.mk.injEq] at h
      obtain ⟨rfl, rfl, rfl⟩ := h
      simp [h2, h1]
    · rw [if_neg h2] at h
      simp only [Prod.mk.injEq] at h
      obtain ⟨rfl, rfl, rfl⟩ := h
      simp [h2, show ¬ 0 < b by omega]; omega

theorem stR_err {z i k : Nat} {l : List (List UInt8)} (h : readF ((l.drop (z * i)).take z) = .error k) : stR z l (i + 1) = stR z l i := by
  rw [stR, snapF_err h]; simp
theorem stR_old {z i q n : Nat} {l : List (List UInt8)} {t : List UInt8} (h : readF ((l.drop (z * i)).take z) = .ok (t, q, n)) (ho : ¬ ((stR z l i).2.2 < 0 ∨ (stR z l i).2.1 < q)) : stR z l (i + 1) = stR z l i := by
  rw [stR, snapF_ok h]
  simp only []
  rw [if_neg fun hh => ho hh.2]
theorem stR_new {z i q n : Nat} {l : List (List UInt8)} {t : List UInt8} (h : readF ((l.drop (z * i)).take z) = .ok (t, q, n)) (ho : (stR z l i).2.2 < 0 ∨ (stR z l i).2.1 < q) : stR z l (i + 1) = (t, q, (i : Int)) := by
  rw [stR, snapF_ok h]
  simp only []
  rw [if_pos ⟨(readF_is h).1, ho⟩]

/-- The cells of the reference's store while it reads. -/
def rsV (t : List UInt8) (q : Nat) (a : Int) : Array Value := #[.string (bst t), .int .i64 (q : Int), .int .i64 a, .slice none 0 0, .int .i64 0]
def ZeroS (W : World) (r : Nat) : Prop := W.heap[r]? = some (.cells #[.string ⟨#[]⟩, .int .i64 0, .int .i64 0, .slice none 0 0, .int .i64 0] 34 (0, 0))
theorem ZeroS.on {W W' : World} {B r : Nat} (h : ZeroS W r) (hb : Below B W W') (hr : r < B) : ZeroS W' r := (hb.block r hr).trans h
theorem ZeroS.set {W : World} {r k i : Nat} (h : ZeroS W r) (hr : r ≠ k) (v : Value) : ZeroS (W.setCell ⟨k, i, none⟩ v) r := (Below.heap_setCell W ⟨k, i, none⟩ v r hr).trans h
def RsRel (w : World) (z k : Nat) (l : List (List UInt8)) (i : Value) (wr : World) : Prop :=
  ∃ j : Nat, i = .int .i64 (j : Int) ∧ j ≤ 2 ∧ ZeroS wr w.heap.size ∧ wr.heap[k]? = some (.cells (rsV (stR z l j).1 (stR z l j).2.1 (stR z l j).2.2) 34 (0, 0)) ∧ Below w.heap.size w wr

theorem own_le {w : World} {B B' n : Nat} {v : Value} {xs : List Value} (h : w.ownsRow B' 9 1 v n xs) (hB : B ≤ B') : w.ownsRow B 9 1 v n xs := by
  refine ⟨h.1, ?_⟩
  rcases h.2 with h | ⟨g, cap, cur, e, hb, rest⟩
  · exact .inl h
  · exact .inr ⟨g, cap, cur, e, Nat.le_trans hB hb, rest⟩
/-- The reference's store lies at k, its number is q. -/
def RsB (W : World) (k q : Nat) : Prop := ∃ t a u n, W.heap[k]? = some (.cells #[t, .int .i64 (q : Int), a, u, n] 34 (0, 0))
theorem RsB.cell {W : World} {k q : Nat} (h : RsB W k q) : W.cell? ⟨k, 1, none⟩ = some (.int .i64 (q : Int)) := by obtain ⟨_, _, _, _, h⟩ := h; exact cell_of_heap h 1
theorem RsB.set3 {W : World} {k q : Nat} (h : RsB W k q) (v : Value) : RsB (W.setCell ⟨k, 3, none⟩ v) k q := by obtain ⟨t, a, u, n, h⟩ := h; exact ⟨t, a, v, n, by rw [set_cells h]; rfl⟩
theorem RsB.set4 {W : World} {k q : Nat} (h : RsB W k q) (v : Value) : RsB (W.setCell ⟨k, 4, none⟩ v) k q := by obtain ⟨t, a, u, n, h⟩ := h; exact ⟨t, a, u, v, by rw [set_cells h]; rfl⟩
theorem RsB.drewN {W : World} {k q : Nat} (h : RsB W k q) (n : Nat) : RsB (W.drewN n) k q := h
theorem RsB.drew {W : World} {k q : Nat} (h : RsB W k q) : RsB W.drew k q := h

set_option maxHeartbeats 6400000 in
set_option maxRecDepth 100000 in
theorem rst_c (gb c z N nx : Nat) (F : List (List UInt8)) (T : List UInt8) (w : World) (h : SRow w w.heap.size (some ⟨gb, 0, none⟩) (F.map bst)) (hz : 0 < z) (hz2 : z ≤ 108) (hF : 2 * z < F.length) (hF2 : F.length ≤ 5000) (hc : F.length ≤ c)
    (hqb : N ≤ 2147483647) (ht : selF z (snapF (F.take z)) (snapF ((F.drop z).take z)) = (N, T, nx)) :
    Calls Tryz.prog 9 #[.slice (some ⟨gb, 0, none⟩) F.length c, .int .i64 (z : Int)] w fun e w' => (∃ (rs : List (List UInt8)) (u : Value) (a : Int), e = .returned (.agg #[.string (bst T), .int .i64 (N : Int), .int .i64 a, u, .int .i64 ((layR N rs).length : Int)]) ∧ (a = 0 ↔ nx = z) ∧ Follows (F.drop (2 * z)) N rs ∧ w'.ownsRow w.heap.size 9 1 u rs.length (strVs rs) ∧ u ≠ .slice none 0 0) ∧ Below w.heap.size w w' := by
  have HR := Lib.hid h
  clear h
  go_enter Tryz.func9, Tryz.ntmps9
  go_wp2_with fail
  have HST : Hid (∀ W, Below w.heap.size w W → ZeroS W w.heap.size → W.heap[w.heap.size + 1]? = some (.cells (rsV [] 0 (-1)) 34 (0, 0)) → RsRel w z (w.heap.size + 1) F (.int .i64 0) W) := Lib.hid fun W hW hz hk => ⟨0, rfl, by omega, hz, hk, hW⟩
  go_loopw [6] (fun i wr => RsRel w z (w.heap.size + 1) F i wr) (fun i _ => 2 - (intOf i).toNat)
  case atStart =>
    refine HST.out _ (by (repeat' (first | (with_reducible exact Below.refl _ _) | (with_reducible refine below_drewN ?_ _) | (with_reducible refine Below.drew ?_) | (with_reducible refine Below.alloc ?_ ?_ _) | (with_reducible refine Below.setCell ?_ ?_ _) | (with_reducible refine Below.trans ?_ (Below.mono (by with_reducible assumption) ?_)) | omega | (simp only [World.size_alloc] at *; omega) | (with_reducible refine Below.size (B := 0) ?_)))) (show ZeroS _ _ from (Below.heap_alloc _ _ w.heap.size (by rw [World.size_alloc]; omega)).trans (heap_alloc_new w _)) ?_
    have h := heap_alloc_new (w.alloc (.cells #[.string ⟨#[]⟩, .int .i64 0, .int .i64 0, .slice none 0 0, .int .i64 0] 34)) (.cells #[.string ⟨#[]⟩, .int .i64 0, .int .i64 (-1), .slice none 0 0, .int .i64 0] 34)
    rw [World.size_alloc] at h
    exact h
  case round =>
    obtain ⟨j, rfl, hj, hzs, hk, hb⟩ := hrel
    have HZS := Lib.hid hzs
    have hkz := lt_of_block hzs
    clear hzs
    clear HST
    have c0 := cell_of_heap hk 0
    have c1 := cell_of_heap hk 1
    have c2 := cell_of_heap hk 2
    have c3 := cell_of_heap hk 3
    have c4 := cell_of_heap hk 4
    have f0 := frozen_of_heap hk 0
    have f1 := frozen_of_heap hk 1
    have f2 := frozen_of_heap hk 2
    have f3 := frozen_of_heap hk 3
    have f4 := frozen_of_heap hk 4
    obtain ⟨X, hX⟩ : ∃ X, stR z F j = X := ⟨_, rfl⟩
    rw [hX] at hk c0 c1 c2 c3 c4
    obtain ⟨t, q, ar⟩ := X
    have hs1 := ((HR.out.below hb (Nat.le_refl _)).at_end (n := z * j) (by rw [List.length_map]; have := Nat.mul_le_mul_left z hj; omega)).take z
    rw [← List.map_drop, ← List.map_take, Nat.zero_add] at hs1
    rcases (by omega : j = 0 ∨ j = 1 ∨ j = 2) with rfl | rfl | rfl
    · rw [show ((0 : Nat) : Int) = 0 from rfl]
      rw [Nat.mul_zero] at hs1
      have hrd := rread_c w.heap.size c (some ⟨gb, 0, none⟩) _ wr (by rw [List.length_map, List.length_take]; omega) hs1 hb.size
      rw [rows_bst, List.length_map, List.length_take, List.length_drop, show min z (F.length - 0) = z by omega] at hrd
      have HH := Lib.hid hk; have HB := Lib.hid hb; have HX := Lib.hid hX
      cases hres : readF ((F.drop 0).take z) with
      | error kk =>
        rw [hres] at hrd
        have HRD := Lib.hid hrd
        have hn : RsRel w z (w.heap.size + 1) F (.int .i64 1) = RsRel w z (w.heap.size + 1) F (.int .i64 ((1 : Nat) : Int)) := rfl
        have hst : stR z F 1 = (t, q, ar) := (stR_err (l := F) (z := z) (i := 0) (k := kk) (by rw [Nat.mul_zero]; exact hres)).trans hX
        have HST := Lib.hid hst
        have hk0 : (0 : Int) ≤ (kk : Int) := by omega
        have hk1 : ¬ (kk : Int) < 0 := by omega
        clear hrd hs1 hk hb hX hres hst hn ht
        go_wp2_with fail
        refine (HRD.out).mono ?_
        rintro e w3 ⟨he, b3⟩
        have he : e = _ := he
        subst he
        have HB3 : Hid (Below w.heap.size w w3) := Lib.hid (HB.out.trans (b3.mono HB.out.size))
        have HZ3 : Hid (ZeroS w3 w.heap.size) := Lib.hid (HZS.out.on b3 hkz)
        have hk3 : w3.heap[w.heap.size + 1]? = some (.cells (rsV t q ar) 34 (0, 0)) := (b3.block _ (lt_of_block HH.out)).trans HH.out
        have HK3 := Lib.hid hk3
        clear b3 hk3
        go_wp2_with fail
        go_roundw
        case rel => exact ⟨1, rfl, by omega, HZ3.out, by rw [HST.out]; exact HK3.out, HB3.out⟩
        case measure => simp [intOf]
      | ok r =>
        obtain ⟨x, qs, nn⟩ := r
        rw [hres] at hrd
        have HRD := Lib.hid hrd
        by_cases hup : ar < 0 ∨ q < qs
        · have hst : stR z F 1 = (x, qs, ((0 : Nat) : Int)) := stR_new (l := F) (z := z) (i := 0) (n := nn) (by rw [Nat.mul_zero]; exact hres) (by rw [hX]; exact hup)
          have HST := Lib.hid hst
          clear hst ht hs1 hrd hk hb hX hres
          by_cases har : ar < 0
          · clear hup
            go_wp2_with fail
            refine (HRD.out).mono ?_
            rintro e w3 ⟨he, b3⟩
            have he : e = _ := he
            subst he
            have HB3 : Hid (Below w.heap.size w w3) := Lib.hid (HB.out.trans (b3.mono HB.out.size))
            have HZ3 : Hid (ZeroS w3 w.heap.size) := Lib.hid (HZS.out.on b3 hkz)
            have hk3 : w3.heap[w.heap.size + 1]? = some (.cells (rsV t q ar) 34 (0, 0)) := (b3.block _ (lt_of_block HH.out)).trans HH.out
            have HK3 := Lib.hid hk3
            have c0 : w3.cell? ⟨w.heap.size + 1, 0, none⟩ = some (.string (bst t)) := cell_of_heap hk3 0
            have c1 : w3.cell? ⟨w.heap.size + 1, 1, none⟩ = some (.int .i64 (q : Int)) := cell_of_heap hk3 1
            have c2 : w3.cell? ⟨w.heap.size + 1, 2, none⟩ = some (.int .i64 ar) := cell_of_heap hk3 2
            have f0 := frozen_of_heap hk3 0
            have f1 := frozen_of_heap hk3 1
            have f2 := frozen_of_heap hk3 2
            clear b3 hk3
            go_wp2_with fail
            go_roundw
            case rel => exact ⟨1, rfl, by omega, ((HZ3.out.set (by omega) _).set (by omega) _).set (by omega) _, by rw [HST.out, set_cells (set_cells (set_cells HK3.out))]; rfl, by have := HB3.out; (repeat' (first | (with_reducible exact Below.refl _ _) | (with_reducible refine below_drewN ?_ _) | (with_reducible refine Below.drew ?_) | (with_reducible refine Below.alloc ?_ ?_ _) | (with_reducible refine Below.setCell ?_ ?_ _) | (with_reducible refine Below.trans ?_ (Below.mono (by with_reducible assumption) ?_)) | omega | (simp only at *; omega) | (with_reducible refine Below.size (B := 0) ?_)))⟩
            case measure => simp [intOf]
          · have hqq : (q : Int) < (qs : Int) := by omega
            clear hup
            go_wp2_with fail
            refine (HRD.out).mono ?_
            rintro e w3 ⟨he, b3⟩
            have he : e = _ := he
            subst he
            have HB3 : Hid (Below w.heap.size w w3) := Lib.hid (HB.out.trans (b3.mono HB.out.size))
            have HZ3 : Hid (ZeroS w3 w.heap.size) := Lib.hid (HZS.out.on b3 hkz)
            have hk3 : w3.heap[w.heap.size + 1]? = some (.cells (rsV t q ar) 34 (0, 0)) := (b3.block _ (lt_of_block HH.out)).trans HH.out
            have HK3 := Lib.hid hk3
            have c0 : w3.cell? ⟨w.heap.size + 1, 0, none⟩ = some (.string (bst t)) := cell_of_heap hk3 0
            have c1 : w3.cell? ⟨w.heap.size + 1, 1, none⟩ = some (.int .i64 (q : Int)) := cell_of_heap hk3 1
            have c2 : w3.cell? ⟨w.heap.size + 1, 2, none⟩ = some (.int .i64 ar) := cell_of_heap hk3 2
            have f0 := frozen_of_heap hk3 0
            have f1 := frozen_of_heap hk3 1
            have f2 := frozen_of_heap hk3 2
            clear b3 hk3
            go_wp2_with fail
            go_roundw
            case rel => exact ⟨1, rfl, by omega, ((HZ3.out.set (by omega) _).set (by omega) _).set (by omega) _, by rw [HST.out, set_cells (set_cells (set_cells HK3.out))]; rfl, by have := HB3.out; (repeat' (first | (with_reducible exact Below.refl _ _) | (with_reducible refine below_drewN ?_ _) | (with_reducible refine Below.drew ?_) | (with_reducible refine Below.alloc ?_ ?_ _) | (with_reducible refine Below.setCell ?_ ?_ _) | (with_reducible refine Below.trans ?_ (Below.mono (by with_reducible assumption) ?_)) | omega | (simp only at *; omega) | (with_reducible refine Below.size (B := 0) ?_)))⟩
            case measure => simp [intOf]
        · have hst : stR z F 1 = (t, q, ar) := (stR_old (l := F) (z := z) (i := 0) (n := nn) (by rw [Nat.mul_zero]; exact hres) (by rw [hX]; exact hup)).trans hX
          have HST := Lib.hid hst
          have har : ¬ ar < 0 := fun h => hup (.inl h)
          have hqq : ¬ (q : Int) < (qs : Int) := fun h => hup (.inr (by omega))
          clear hup hst ht hs1 hrd hk hb hX hres
          go_wp2_with fail
          refine (HRD.out).mono ?_
          rintro e w3 ⟨he, b3⟩
          have he : e = _ := he
          subst he
          have HB3 : Hid (Below w.heap.size w w3) := Lib.hid (HB.out.trans (b3.mono HB.out.size))
          have HZ3 : Hid (ZeroS w3 w.heap.size) := Lib.hid (HZS.out.on b3 hkz)
          have hk3 : w3.heap[w.heap.size + 1]? = some (.cells (rsV t q ar) 34 (0, 0)) := (b3.block _ (lt_of_block HH.out)).trans HH.out
          have HK3 := Lib.hid hk3
          have c0 : w3.cell? ⟨w.heap.size + 1, 0, none⟩ = some (.string (bst t)) := cell_of_heap hk3 0
          have c1 : w3.cell? ⟨w.heap.size + 1, 1, none⟩ = some (.int .i64 (q : Int)) := cell_of_heap hk3 1
          have c2 : w3.cell? ⟨w.heap.size + 1, 2, none⟩ = some (.int .i64 ar) := cell_of_heap hk3 2
          have f0 := frozen_of_heap hk3 0
          have f1 := frozen_of_heap hk3 1
          have f2 := frozen_of_heap hk3 2
          clear b3 hk3
          go_wp2_with fail
          go_roundw
          case rel => exact ⟨1, rfl, by omega, HZ3.out, by rw [HST.out]; exact HK3.out, HB3.out⟩
          case measure => simp [intOf]
    · rw [show ((1 : Nat) : Int) = 1 from rfl]
      rw [Nat.mul_one] at hs1
      have hrd := rread_c w.heap.size (c - z) (some ⟨gb, z, none⟩) _ wr (by rw [List.length_map, List.length_take]; omega) hs1 hb.size
      rw [rows_bst, List.length_map, List.length_take, List.length_drop, show min z (F.length - z) = z by omega] at hrd
      have HH := Lib.hid hk; have HB := Lib.hid hb; have HX := Lib.hid hX
      cases hres : readF ((F.drop z).take z) with
      | error kk =>
        rw [hres] at hrd
        have HRD := Lib.hid hrd
        have hn : RsRel w z (w.heap.size + 1) F (.int .i64 2) = RsRel w z (w.heap.size + 1) F (.int .i64 ((2 : Nat) : Int)) := rfl
        have hst : stR z F 2 = (t, q, ar) := (stR_err (l := F) (z := z) (i := 1) (k := kk) (by rw [Nat.mul_one]; exact hres)).trans hX
        have HST := Lib.hid hst
        have hk0 : (0 : Int) ≤ (kk : Int) := by omega
        have hk1 : ¬ (kk : Int) < 0 := by omega
        clear hrd hs1 hk hb hX hres hst hn ht
        go_wp2_with fail
        refine (HRD.out).mono ?_
        rintro e w3 ⟨he, b3⟩
        have he : e = _ := he
        subst he
        have HB3 : Hid (Below w.heap.size w w3) := Lib.hid (HB.out.trans (b3.mono HB.out.size))
        have HZ3 : Hid (ZeroS w3 w.heap.size) := Lib.hid (HZS.out.on b3 hkz)
        have hk3 : w3.heap[w.heap.size + 1]? = some (.cells (rsV t q ar) 34 (0, 0)) := (b3.block _ (lt_of_block HH.out)).trans HH.out
        have HK3 := Lib.hid hk3
        clear b3 hk3
        go_wp2_with fail
        go_roundw
        case rel => exact ⟨2, rfl, by omega, HZ3.out, by rw [HST.out]; exact HK3.out, HB3.out⟩
        case measure => simp [intOf]
      | ok r =>
        obtain ⟨x, qs, nn⟩ := r
        rw [hres] at hrd
        have HRD := Lib.hid hrd
        by_cases hup : ar < 0 ∨ q < qs
        · have hst : stR z F 2 = (x, qs, ((1 : Nat) : Int)) := stR_new (l := F) (z := z) (i := 1) (n := nn) (by rw [Nat.mul_one]; exact hres) (by rw [hX]; exact hup)
          have HST := Lib.hid hst
          clear hst ht hs1 hrd hk hb hX hres
          by_cases har : ar < 0
          · clear hup
            go_wp2_with fail
            refine (HRD.out).mono ?_
            rintro e w3 ⟨he, b3⟩
            have he : e = _ := he
            subst he
            have HB3 : Hid (Below w.heap.size w w3) := Lib.hid (HB.out.trans (b3.mono HB.out.size))
            have HZ3 : Hid (ZeroS w3 w.heap.size) := Lib.hid (HZS.out.on b3 hkz)
            have hk3 : w3.heap[w.heap.size + 1]? = some (.cells (rsV t q ar) 34 (0, 0)) := (b3.block _ (lt_of_block HH.out)).trans HH.out
            have HK3 := Lib.hid hk3
            have c0 : w3.cell? ⟨w.heap.size + 1, 0, none⟩ = some (.string (bst t)) := cell_of_heap hk3 0
            have c1 : w3.cell? ⟨w.heap.size + 1, 1, none⟩ = some (.int .i64 (q : Int)) := cell_of_heap hk3 1
            have c2 : w3.cell? ⟨w.heap.size + 1, 2, none⟩ = some (.int .i64 ar) := cell_of_heap hk3 2
            have f0 := frozen_of_heap hk3 0
            have f1 := frozen_of_heap hk3 1
            have f2 := frozen_of_heap hk3 2
            clear b3 hk3
            go_wp2_with fail
            go_roundw
            case rel => exact ⟨2, rfl, by omega, ((HZ3.out.set (by omega) _).set (by omega) _).set (by omega) _, by rw [HST.out, set_cells (set_cells (set_cells HK3.out))]; rfl, by have := HB3.out; (repeat' (first | (with_reducible exact Below.refl _ _) | (with_reducible refine below_drewN ?_ _) | (with_reducible refine Below.drew ?_) | (with_reducible refine Below.alloc ?_ ?_ _) | (with_reducible refine Below.setCell ?_ ?_ _) | (with_reducible refine Below.trans ?_ (Below.mono (by with_reducible assumption) ?_)) | omega | (simp only at *; omega) | (with_reducible refine Below.size (B := 0) ?_)))⟩
            case measure => simp [intOf]
          · have hqq : (q : Int) < (qs : Int) := by omega
            clear hup
            go_wp2_with fail
            refine (HRD.out).mono ?_
            rintro e w3 ⟨he, b3⟩
            have he : e = _ := he
            subst he
            have HB3 : Hid (Below w.heap.size w w3) := Lib.hid (HB.out.trans (b3.mono HB.out.size))
            have HZ3 : Hid (ZeroS w3 w.heap.size) := Lib.hid (HZS.out.on b3 hkz)
            have hk3 : w3.heap[w.heap.size + 1]? = some (.cells (rsV t q ar) 34 (0, 0)) := (b3.block _ (lt_of_block HH.out)).trans HH.out
            have HK3 := Lib.hid hk3
            have c0 : w3.cell? ⟨w.heap.size + 1, 0, none⟩ = some (.string (bst t)) := cell_of_heap hk3 0
            have c1 : w3.cell? ⟨w.heap.size + 1, 1, none⟩ = some (.int .i64 (q : Int)) := cell_of_heap hk3 1
            have c2 : w3.cell? ⟨w.heap.size + 1, 2, none⟩ = some (.int .i64 ar) := cell_of_heap hk3 2
            have f0 := frozen_of_heap hk3 0
            have f1 := frozen_of_heap hk3 1
            have f2 := frozen_of_heap hk3 2
            clear b3 hk3
            go_wp2_with fail
            go_roundw
            case rel => exact ⟨2, rfl, by omega, ((HZ3.out.set (by omega) _).set (by omega) _).set (by omega) _, by rw [HST.out, set_cells (set_cells (set_cells HK3.out))]; rfl, by have := HB3.out; (repeat' (first | (with_reducible exact Below.refl _ _) | (with_reducible refine below_drewN ?_ _) | (with_reducible refine Below.drew ?_) | (with_reducible refine Below.alloc ?_ ?_ _) | (with_reducible refine Below.setCell ?_ ?_ _) | (with_reducible refine Below.trans ?_ (Below.mono (by with_reducible assumption) ?_)) | omega | (simp only at *; omega) | (with_reducible refine Below.size (B := 0) ?_)))⟩
            case measure => simp [intOf]
        · have hst : stR z F 2 = (t, q, ar) := (stR_old (l := F) (z := z) (i := 1) (n := nn) (by rw [Nat.mul_one]; exact hres) (by rw [hX]; exact hup)).trans hX
          have HST := Lib.hid hst
          have har : ¬ ar < 0 := fun h => hup (.inl h)
          have hqq : ¬ (q : Int) < (qs : Int) := fun h => hup (.inr (by omega))
          clear hup hst ht hs1 hrd hk hb hX hres
          go_wp2_with fail
          refine (HRD.out).mono ?_
          rintro e w3 ⟨he, b3⟩
          have he : e = _ := he
          subst he
          have HB3 : Hid (Below w.heap.size w w3) := Lib.hid (HB.out.trans (b3.mono HB.out.size))
          have HZ3 : Hid (ZeroS w3 w.heap.size) := Lib.hid (HZS.out.on b3 hkz)
          have hk3 : w3.heap[w.heap.size + 1]? = some (.cells (rsV t q ar) 34 (0, 0)) := (b3.block _ (lt_of_block HH.out)).trans HH.out
          have HK3 := Lib.hid hk3
          have c0 : w3.cell? ⟨w.heap.size + 1, 0, none⟩ = some (.string (bst t)) := cell_of_heap hk3 0
          have c1 : w3.cell? ⟨w.heap.size + 1, 1, none⟩ = some (.int .i64 (q : Int)) := cell_of_heap hk3 1
          have c2 : w3.cell? ⟨w.heap.size + 1, 2, none⟩ = some (.int .i64 ar) := cell_of_heap hk3 2
          have f0 := frozen_of_heap hk3 0
          have f1 := frozen_of_heap hk3 1
          have f2 := frozen_of_heap hk3 2
          clear b3 hk3
          go_wp2_with fail
          go_roundw
          case rel => exact ⟨2, rfl, by omega, HZ3.out, by rw [HST.out]; exact HK3.out, HB3.out⟩
          case measure => simp [intOf]
    · rw [show ((2 : Nat) : Int) = 2 from rfl]
      obtain ⟨hT, hN2, harea, _⟩ := stR_selF hz ht
      rw [hX] at hT hN2 harea
      have hT : t = T := hT
      have hN2 : q = N := hN2
      subst hT; subst hN2
      obtain ⟨y, hy⟩ : ∃ y, 2 * z = y := ⟨_, rfl⟩
      have hwz : IntKind.i64.wrap (2 * (z : Int)) = (y : Int) := by rw [IntWalk.i64_in _ (by omega)]; omega
      have y0 : (0 : Int) ≤ (y : Int) := by omega
      have y1 : (y : Int) ≤ (F.length : Int) := by omega
      have y2 : (F.length : Int) ≤ (c : Int) := by omega
      have y3 : ¬ c = y := by omega
      have hs2 := (HR.out.below hb (Nat.le_refl _)).at_end (n := y) (by rw [List.length_map]; omega)
      rw [← List.map_drop, Nat.zero_add] at hs2
      have HC1 : Hid (∀ W, Below wr.heap.size wr W → RsB W (w.heap.size + 1) q) := Lib.hid fun W hW => ⟨_, _, _, _, (hW.block _ (lt_of_block hk)).trans hk⟩
      have e0 : RsB wr (w.heap.size + 1) q := ⟨_, _, _, _, hk⟩
      have HFC : Hid (∀ W, Below wr.heap.size wr W → W.cell? ⟨w.heap.size + 1, 3, none⟩ = some (.slice none 0 0) ∧ W.cell? ⟨w.heap.size + 1, 4, none⟩ = some (.int .i64 0) ∧ W.frozen? ⟨w.heap.size + 1, 3, none⟩ = false ∧ W.frozen? ⟨w.heap.size + 1, 4, none⟩ = false) := Lib.hid fun W hW => by
        have hkW := (hW.block _ (lt_of_block hk)).trans hk
        exact ⟨cell_of_heap hkW 3, cell_of_heap hkW 4, frozen_of_heap hkW 3, frozen_of_heap hkW 4⟩
      have HRL : Hid (∀ W, Same wr W → Calls Tryz.prog 30 #[.slice (some ⟨gb, y, none⟩) (F.length - y) (c - y), .int .i64 (q : Int)] W fun e w' => (∃ (rs : List (List UInt8)) (Au : Option Addr) (cu : Nat), e = .returned (.tuple #[.slice Au rs.length cu, .int .i64 ((layR q rs).length : Int)]) ∧ Follows (F.drop y) q rs ∧ w'.ownsRow wr.heap.size 9 1 (.slice Au rs.length cu) rs.length (strVs rs) ∧ Value.slice Au rs.length cu ≠ .slice none 0 0) ∧ Below wr.heap.size wr w') := Lib.hid fun W hW => by
        have h1 := rlog_c gb y (c - y) (F.drop y) q (q : Int) W rfl hqb ((hs2.mono hb.size).same hW |>.mono (Nat.le_of_eq hW.size.symm)) (by rw [List.length_drop]; omega) (by rw [List.length_drop]; omega)
        rw [List.length_drop, hW.size] at h1
        refine h1.mono ?_
        rintro e w' ⟨⟨rs, u, he, h4, h5, h6⟩, h3⟩
        obtain ⟨Au, cu, rfl⟩ := own_form h5
        exact ⟨⟨rs, Au, cu, he, h4, h5, h6⟩, (hW.below _).trans h3⟩
      have HSM := Lib.hid (Same.refl wr)
      have HH := Lib.hid hk; have HB := Lib.hid hb; have HY := Lib.hid hy; have HA := Lib.hid harea
      clear hs1 hs2 hk hb hX ht hy harea c0 c1 c2 c3 c4 f0 f1 f2 f3 f4
      go_wp2_with fail
      go_region_held3 (fun W => W.cell? ⟨w.heap.size + 1, 1, none⟩ = some (.int .i64 (q : Int)))
        (exact RsB.cell (by (repeat' (first | (with_reducible assumption) | (with_reducible refine RsB.drewN ?_ _) | (with_reducible refine RsB.drew ?_) | (with_reducible refine RsB.set3 ?_ _) | (with_reducible refine RsB.set4 ?_ _)))))
        (first
          | (go_at_call 30; (with_reducible refine (HRL.out _ (by (repeat' (first | (with_reducible assumption) | (with_reducible exact Hid.out (by with_reducible assumption)) | (with_reducible refine Same.thenN ?_ _) | (with_reducible refine Same.thenD ?_) | (with_reducible refine Same.refl _))))).mono ?_); rintro e w3 ⟨⟨rs, Au, cu, rfl, hfo, hown, hne⟩, hb⟩; have e1 : RsB w3 (w.heap.size + 1) q := HC1.out _ hb; have e3 : w3.cell? ⟨w.heap.size + 1, 3, none⟩ = some (.slice none 0 0) := (HFC.out _ hb).1; have e4 : w3.cell? ⟨w.heap.size + 1, 4, none⟩ = some (.int .i64 0) := (HFC.out _ hb).2.1; have e5 : w3.frozen? ⟨w.heap.size + 1, 3, none⟩ = false := (HFC.out _ hb).2.2.1; have e6 : w3.frozen? ⟨w.heap.size + 1, 4, none⟩ = false := (HFC.out _ hb).2.2.2))
      obtain ⟨U, hU⟩ : ∃ U, (layR q rs).length = U := ⟨_, rfl⟩
      rw [hU]
      obtain ⟨w4, hw4⟩ : ∃ w4, (w3.setCell ⟨w.heap.size + 1, 3, none⟩ (.slice Au rs.length cu)).setCell ⟨w.heap.size + 1, 4, none⟩ (.int .i64 (U : Int)) = w4 := ⟨_, rfl⟩
      have hkr := lt_of_block HH.out
      have hk4 : w4.heap[w.heap.size + 1]? = some (.cells #[.string (bst t), .int .i64 (q : Int), .int .i64 ar, .slice Au rs.length cu, .int .i64 (U : Int)] 34 (0, 0)) := by
        rw [← hw4, set_cells (set_cells ((hb.block _ hkr).trans HH.out))]; rfl
      have hz4 : ZeroS w4 w.heap.size := by rw [← hw4]; exact ((HZS.out.on hb hkz).set (by omega) _).set (by omega) _
      have hb4 : Below w.heap.size w w4 := by
        rw [← hw4]
        exact ((HB.out.trans (hb.mono HB.out.size)).setCell (by show w.heap.size ≤ w.heap.size + 1; omega) _ |>.setCell (by show w.heap.size ≤ w.heap.size + 1; omega) _)
      have ho4 : w4.ownsRow wr.heap.size 9 1 (.slice Au rs.length cu) rs.length (strVs rs) := by
        rw [← hw4]
        exact own_same hown fun i hi => by
          have h1 := (hown.lt i hi).1
          exact (Below.heap_setCell _ ⟨_, 4, none⟩ _ i (by show i ≠ w.heap.size + 1; omega)).trans (Below.heap_setCell _ ⟨_, 3, none⟩ _ i (by show i ≠ w.heap.size + 1; omega))
      rw [hw4]
      have c0 : w4.cell? ⟨w.heap.size + 1, 0, none⟩ = some (.string (bst t)) := cell_of_heap hk4 0
      have c1 : w4.cell? ⟨w.heap.size + 1, 1, none⟩ = some (.int .i64 (q : Int)) := cell_of_heap hk4 1
      have c2 : w4.cell? ⟨w.heap.size + 1, 2, none⟩ = some (.int .i64 ar) := cell_of_heap hk4 2
      have c3 : w4.cell? ⟨w.heap.size + 1, 3, none⟩ = some (.slice Au rs.length cu) := cell_of_heap hk4 3
      have c4 : w4.cell? ⟨w.heap.size + 1, 4, none⟩ = some (.int .i64 (U : Int)) := cell_of_heap hk4 4
      have z0 : w4.cell? ⟨w.heap.size, 0, none⟩ = some (.string ⟨#[]⟩) := cell_of_heap hz4 0
      have z1 : w4.cell? ⟨w.heap.size, 1, none⟩ = some (.int .i64 0) := cell_of_heap hz4 1
      have z2 : w4.cell? ⟨w.heap.size, 2, none⟩ = some (.int .i64 0) := cell_of_heap hz4 2
      have z3 : w4.cell? ⟨w.heap.size, 3, none⟩ = some (.slice none 0 0) := cell_of_heap hz4 3
      have z4 : w4.cell? ⟨w.heap.size, 4, none⟩ = some (.int .i64 0) := cell_of_heap hz4 4
      have g0 := frozen_of_heap hz4 0
      have g1 := frozen_of_heap hz4 1
      have g2 := frozen_of_heap hz4 2
      have g3 := frozen_of_heap hz4 3
      have g4 := frozen_of_heap hz4 4
      have HO4 := Lib.hid ho4; have HB4 := Lib.hid hb4; have HZ4 := Lib.hid hz4; have HUE := Lib.hid hU
      clear hk4 hz4 hb4 ho4 hw4 hown hb e1 e3 e4 e5 e6 hU e0
      go_wp2_with fail
      obtain ⟨w5, hw5⟩ : ∃ w5, ((((w4.setCell ⟨w.heap.size, 0, none⟩ (.string (bst t))).setCell ⟨w.heap.size, 1, none⟩ (.int .i64 (q : Int))).setCell ⟨w.heap.size, 2, none⟩ (.int .i64 ar)).setCell ⟨w.heap.size, 3, none⟩ (.slice Au rs.length cu)).setCell ⟨w.heap.size, 4, none⟩ (.int .i64 (U : Int)) = w5 := ⟨_, rfl⟩
      have hk5 : w5.heap[w.heap.size]? = some (.cells #[.string (bst t), .int .i64 (q : Int), .int .i64 ar, .slice Au rs.length cu, .int .i64 (U : Int)] 34 (0, 0)) := by
        rw [← hw5, set_cells (set_cells (set_cells (set_cells (set_cells HZ4.out))))]; rfl
      have ho5 : w5.ownsRow w.heap.size 9 1 (.slice Au rs.length cu) rs.length (strVs rs) := own_le (by
        rw [← hw5]
        exact own_same HO4.out fun i hi => by
          have h1 := (HO4.out.lt i hi).1
          exact (Below.heap_setCell _ ⟨_, 4, none⟩ _ i (by show i ≠ w.heap.size; omega)).trans ((Below.heap_setCell _ ⟨_, 3, none⟩ _ i (by show i ≠ w.heap.size; omega)).trans ((Below.heap_setCell _ ⟨_, 2, none⟩ _ i (by show i ≠ w.heap.size; omega)).trans ((Below.heap_setCell _ ⟨_, 1, none⟩ _ i (by show i ≠ w.heap.size; omega)).trans (Below.heap_setCell _ ⟨_, 0, none⟩ _ i (by show i ≠ w.heap.size; omega)))))) HB.out.size
      have hb5 : Below w.heap.size w w5 := by
        rw [← hw5]
        exact ((((HB4.out.setCell (Nat.le_refl _) _).setCell (Nat.le_refl _) _).setCell (Nat.le_refl _) _).setCell (Nat.le_refl _) _).setCell (Nat.le_refl _) _
      rw [hw5]
      have e0 : w5.cell? ⟨w.heap.size, 0, none⟩ = some (.string (bst t)) := cell_of_heap hk5 0
      have e1 : w5.cell? ⟨w.heap.size, 1, none⟩ = some (.int .i64 (q : Int)) := cell_of_heap hk5 1
      have e2 : w5.cell? ⟨w.heap.size, 2, none⟩ = some (.int .i64 ar) := cell_of_heap hk5 2
      have e3 : w5.cell? ⟨w.heap.size, 3, none⟩ = some (.slice Au rs.length cu) := cell_of_heap hk5 3
      have e4 : w5.cell? ⟨w.heap.size, 4, none⟩ = some (.int .i64 (U : Int)) := cell_of_heap hk5 4
      refine bodyPost_ret (v := .agg #[.string (bst t), .int .i64 (q : Int), .int .i64 ar, .slice Au rs.length cu, .int .i64 (U : Int)]) (by simp [results, Tryz.results9, go_sem, e0, e1, e2, e3, e4]) rfl ⟨⟨rs, _, ar, by rw [HUE.out], HA.out, ?_, ho5, hne⟩, hb5⟩
      rw [HY.out]; exact hfo
end Go.Proofs.YtaibmdjcppeopaaGreatDoor

/- The contract of the reference's blocks of a store that was opened. No conditions but that they lie in memory. -/
namespace Go.Proofs.YtaibmdjcppeopaaGreatDoor
open Go Go.RowKit

/-- What a round of the filling begins with. -/
def ImRel (w : World) (F : List (List UInt8)) (y : Nat) (v i : Value) (wr : World) : Prop :=
  ∃ (j : Nat) (u : Value), u = v ∧ i = .int .i64 ((y + j : Nat) : Int) ∧ y + j ≤ F.length ∧ wr.ownsRow w.heap.size 9 1 u (y + j) (strVs (F.take y ++ List.replicate j zeroF)) ∧ u ≠ .slice none 0 0 ∧ Below w.heap.size w wr

set_option maxHeartbeats 6400000 in
set_option maxRecDepth 100000 in
theorem rimg_c (gb c z U : Nat) (F : List (List UInt8)) (t : ByteArray) (q ar : Int) (Au : Option Addr) (nu cu : Nat) (w : World) (h : SRow w w.heap.size (some ⟨gb, 0, none⟩) (F.map bst)) (hz2 : z ≤ 108) (hF : 2 * z + U ≤ F.length) (hF0 : 0 < F.length) (hF2 : F.length ≤ 5000) (hc : F.length ≤ c) :
    Calls Tryz.prog 10 #[.agg #[.string t, .int .i64 q, .int .i64 ar, .slice Au nu cu, .int .i64 (U : Int)], .slice (some ⟨gb, 0, none⟩) F.length c, .int .i64 (z : Int)] w fun e w' => (∃ v, e = .returned v ∧ w'.ownsRow w.heap.size 9 1 v F.length (strVs (F.take (2 * z + U) ++ List.replicate (F.length - (2 * z + U)) zeroF)) ∧ v ≠ .slice none 0 0) ∧ Below w.heap.size w w' := by
  obtain ⟨y, hy⟩ : ∃ y, 2 * z + U = y := ⟨_, rfl⟩
  rw [hy] at hF ⊢
  have hwz : IntKind.i64.wrap (2 * (z : Int) + (U : Int)) = (y : Int) := by rw [IntWalk.i64_in _ (by omega)]; omega
  have hwz0 : IntKind.i64.wrap (2 * (z : Int)) = 2 * (z : Int) := by rw [IntWalk.i64_in _ (by omega)]
  have hyi : 2 * (z : Int) + (U : Int) = (y : Int) := by omega
  have hmk : ∀ W : World, (Instr.makeSlice 51 (.int .i64 64) (.int .i64 64)).run Tryz.prog W = .ok (.slice (some ⟨W.heap.size, 0, none⟩) 64 64) (W.alloc (.cells (madeCells #[.int .u8 0] 64) 5)) := fun W => run_make_row' _ _ _ 1 Tryz.underlying51 Tryz.infoB rfl .i64 .i64 64 (by omega) (by omega) W
  have hcv : ∀ W : World, (convert 51 9 (.slice (some ⟨W.heap.size, 0, none⟩) 64 64)).run Tryz.prog (W.alloc (.cells (madeCells #[.int .u8 0] 64) 5)) = .ok (.string (bst zeroF)) (W.alloc (.cells (madeCells #[.int .u8 0] 64) 5)) := fun W =>
    conv_row (W.alloc (.cells (madeCells #[.int .u8 0] 64) 5)) W.heap.size 0 64 zeroF fun j hj => by
      rw [Nat.zero_add]; exact ((zeros_row W 64).2 j hj).1
  have hcv1 := hcv (w.alloc (.cells #[.string t, .int .i64 q, .int .i64 ar, .slice Au nu cu, .int .i64 (U : Int)] 34))
  rw [World.size_alloc] at hcv1
  have HR := Lib.hid h
  clear hcv
  have y0 : (0 : Int) ≤ (y : Int) := by omega
  have y1 : (y : Int) ≤ (F.length : Int) := by omega
  have y2 : (y : Int) ≤ (c : Int) := by omega
  clear h
  go_enter Tryz.func10, Tryz.ntmps10
  obtain ⟨ti, hti, hzz0, hzz1, hzz2⟩ := Tryz.infoSt
  have HMD : Hid (∀ W : World, w.heap.size ≤ W.heap.size → (W.alloc (.cells #[] 9)).ownsRow w.heap.size 9 1 (.slice (some ⟨W.heap.size, 0, none⟩) 0 0) 0 []) := Lib.hid fun W hW => World.ownsRow_made W #[] 0 hW (by unfold maxLen; omega) rfl
  have hmd := HMD.out ((w.alloc (.cells #[.string t, .int .i64 q, .int .i64 ar, .slice Au nu cu, .int .i64 (U : Int)] 34)).alloc (.cells (madeCells #[.int .u8 0] 64) 5)) (by rw [World.size_alloc, World.size_alloc]; omega)
  rw [World.size_alloc, World.size_alloc] at hmd
  have HMD1 := Lib.hid hmd
  clear hmd HMD
  have HCF : Hid (∀ W, Below w.heap.size w W → ∀ j u, (strVs (F.take y))[j]? = some u → W.cell? ((⟨gb, 0, none⟩ : Addr).add j) = some u) := Lib.hid fun W hW j u hu => by
    unfold strVs at hu
    rw [List.getElem?_map] at hu
    obtain ⟨x, hx, rfl⟩ := Option.map_eq_some_iff.1 hu
    obtain ⟨hxl, hxe⟩ := List.getElem?_eq_some_iff.1 hx
    rw [List.length_take] at hxl
    have hF0 : (F.map bst)[j]? = some (bst x) := by
      rw [List.getElem?_map, ← List.getElem?_take_of_lt (show j < y by omega), hx]; rfl
    obtain ⟨a, ha, _, ca⟩ := ((HR.out).below hW (Nat.le_refl _)).cell hF0
    rw [← Option.some.inj ha] at ca
    exact ca
  go_wp2_with (at_builtin; refine wpList_append_own_at _ rfl _ _ 22 rfl w.heap.size 9 ti _ 1 16 Tryz.underlying22 hti hzz0 hzz1 hzz2 rfl (by decide) _ 0 [] rfl (HMD1.out) ⟨gb, 0, none⟩ y c (strVs (F.take y)) rfl ?c0 ?c1 ?c2 ?c3 ?c4 ?c5 ?_)
  case c0 => rw [strVs_len, List.length_take, Nat.mul_one]; omega
  case c1 => exact HCF.out _ (by (repeat' (first | (with_reducible exact Below.refl _ _) | (with_reducible refine below_drewN ?_ _) | (with_reducible refine Below.drew ?_) | (with_reducible refine Below.alloc ?_ ?_ _) | (with_reducible refine Below.setCell ?_ ?_ _) | (with_reducible refine Below.trans ?_ (Below.mono (by with_reducible assumption) ?_)) | omega | (simp only [World.size_alloc] at *; omega) | (with_reducible refine Below.size (B := 0) ?_))))
  case c2 => exact strVs_one _
  case c3 => unfold maxLen; omega
  case c4 => omega
  case c5 => simp only [World.size_alloc]; omega
  intro u1 w5 o5 g5 hn5 _
  have hn5 : u1 ≠ .slice none 0 0 := by simpa using hn5
  have hcg := (ChgS.refl (fun i => i = w.heap.size + 1 + 1) _).grown g5 fun i hi => .inl (Option.some.inj hi).symm
  have hbx : w5.heap[w.heap.size]? = some (.cells #[.string t, .int .i64 q, .int .i64 ar, .slice Au nu cu, .int .i64 (U : Int)] 34 (0, 0)) := hcg.row ((Below.heap_alloc _ _ w.heap.size (by rw [World.size_alloc, World.size_alloc]; omega)).trans ((Below.heap_alloc _ _ w.heap.size (by rw [World.size_alloc]; omega)).trans (heap_alloc_new w _))) (by show ¬ w.heap.size = w.heap.size + 1 + 1; omega)
  have hb5 : Below w.heap.size w w5 := Below.trans (by (repeat' (first | (with_reducible exact Below.refl _ _) | (with_reducible refine below_drewN ?_ _) | (with_reducible refine Below.drew ?_) | (with_reducible refine Below.alloc ?_ ?_ _) | (with_reducible refine Below.setCell ?_ ?_ _) | (with_reducible refine Below.trans ?_ (Below.mono (by with_reducible assumption) ?_)) | omega | (simp only [World.size_alloc] at *; omega) | (with_reducible refine Below.size (B := 0) ?_)))) (hcg.below (fun k hk => by rw [hk]; omega) (by simp only [World.size_alloc]; omega))
  have d4 : w5.cell? ⟨w.heap.size, 4, none⟩ = some (.int .i64 (U : Int)) := cell_of_heap hbx 4
  have HO5 := Lib.hid o5; have HB5 := Lib.hid hb5
  have HST : Hid (ImRel w F y u1 (.int .i64 (y : Int)) w5) := Lib.hid ⟨0, u1, rfl, rfl, by omega, by rw [Nat.add_zero, List.replicate_zero, List.append_nil]; exact o5, hn5, hb5⟩
  clear o5 g5 hcg hbx hb5 HMD1 HO5 HB5
  go_wp2_with fail
  go_loopw [8, 9] (fun v i wr => ImRel w F y v i wr) (fun _ i _ => F.length - (intOf i).toNat)
  case atStart => exact HST.out
  case round =>
    obtain ⟨j, u, rfl, rfl, hj, hown, hne, hb⟩ := hrel
    clear HST d4
    obtain ⟨x, hx⟩ : ∃ x, y + j = x := ⟨_, rfl⟩
    rw [hx] at hj hown ⊢
    obtain ⟨Av, cv, rfl⟩ := own_form hown
    obtain ⟨L, hL⟩ : ∃ L, F.take y ++ List.replicate j zeroF = L := ⟨_, rfl⟩
    have hLl : L.length = x := by rw [← hL, List.length_append, List.length_take, List.length_replicate]; omega
    rw [hL] at hown
    have HL := Lib.hid hL; have HX := Lib.hid hx; have HB := Lib.hid hb; have HLL := Lib.hid hLl
    by_cases hxl : x < F.length
    · have hxi : (x : Int) < (F.length : Int) := by omega
      have HO : Hid (∀ o : Obj, (wr.alloc o).ownsRow w.heap.size 9 1 (.slice Av x cv) x (strVs L)) := Lib.hid fun o => hown.alloc o
      have hlt := hown.lt
      have HLT := Lib.hid hlt
      have hszr := hb.size
      clear hown hL hx hb hLl hlt
      go_wp2_with (at_builtin; refine wpList_append_own_at _ rfl _ _ 22 rfl w.heap.size 9 ti _ 1 16 Tryz.underlying22 hti hzz0 hzz1 hzz2 rfl (by decide) _ x (strVs L) rfl (HO.out _) ⟨_, 0, none⟩ 1 1 [.string (bst zeroF)] rfl rfl ?c1 ?c2 ?c3 ?c4 ?c5 ?_)
      case c1 => exact cell_one_new _ _ _
      case c2 => first | rfl | (intro u hu; simp at hu; subst hu; rfl)
      case c3 => unfold maxLen; omega
      case c4 => omega
      case c5 => first | omega | (rw [World.size_alloc]; omega)
      intro u' w6 o6 g6 hnil _
      have HN : Hid (ImRel w F y u' (.int .i64 ((x : Int) + 1)) w6) := Lib.hid (by
        have hc6 : ChgS (fun i => Value.ownBlock (.slice Av x cv) = some i) wr w6 := ((ChgS.refl _ wr).alloc _).grown g6 fun i hi => .inl hi
        have hx := HX.out
        refine ⟨j + 1, u', rfl, ret_v (by omega), by omega, ?_, fun h => ?_, HB.out.trans (hc6.below (fun i hi => (HLT.out i hi).1) hszr)⟩
        · rw [List.replicate_succ', ← List.append_assoc, HL.out, show y + (j + 1) = x + 1 by omega]
          unfold strVs at o6 ⊢
          rw [List.map_append]
          exact o6
        · first | exact hnil h | (have := hnil.1 h; simp at this))
      clear o6 g6 hnil HO
      go_wp2_with fail
      go_roundw
      case rel => exact HN.out
      case measure => simp [intOf]; omega
    · have hxi : ¬ (x : Int) < (F.length : Int) := by omega
      have hxe : x = F.length := by omega
      have HXE := Lib.hid hxe
      have HO := Lib.hid hown
      clear hown hL hx hb hLl hxe
      go_wp2_with fail
      go_ret
      have hx := HX.out
      refine ⟨⟨_, rfl, ?_, hne⟩, HB.out⟩
      have h1 := HO.out
      rw [← HL.out, show j = F.length - y by have := HXE.out; omega] at h1
      rw [← HXE.out]
      rw [HXE.out] at h1 ⊢
      exact h1
end Go.Proofs.YtaibmdjcppeopaaGreatDoor

/- The contract of the reference's blocks behind a kept state. No conditions but that they lie in memory. -/
namespace Go.Proofs.YtaibmdjcppeopaaGreatDoor
open Go Go.RowKit

/-- The block i behind a Keep into the area at a. -/
def keepR (F : List (List UInt8)) (z a : Nat) (Bs : List (List UInt8)) (i : Nat) : List UInt8 :=
  if 2 * z ≤ i then zeroF else if a ≤ i ∧ i < a + z then Bs.getD (i - a) zeroF else F.getD i zeroF
def KpRel (w : World) (F : List (List UInt8)) (z a : Nat) (Bs : List (List UInt8)) (v i : Value) (wr : World) : Prop :=
  ∃ (j : Nat) (u : Value), u = v ∧ i = .int .i64 (j : Int) ∧ j ≤ F.length ∧ wr.ownsRow w.heap.size 9 1 u j (strVs ((List.range j).map (keepR F z a Bs))) ∧ u ≠ .slice none 0 0 ∧ Below w.heap.size w wr
theorem getD_out {l : List (List UInt8)} {i : Nat} {d : List UInt8} (h : l.length ≤ i) : l.getD i d = d := by rw [List.getD_eq_getElem?_getD, List.getElem?_eq_none h]; rfl
theorem own_rows {w : World} {base n : Nat} {A : Option Addr} {m c : Nat} {F : List (List UInt8)} (h : w.ownsRow base 9 1 (.slice A m c) n (strVs F)) : SRow w w.heap.size A (F.map bst) := fun h0 => by
  have hn : 0 < n := by
    have h1 := h.1
    rw [strVs_len, Nat.mul_one] at h1
    rw [List.length_map] at h0
    omega
  obtain ⟨gb, c', hbl, _, hsr, _⟩ := own_srow h hn
  simp only [Value.slice.injEq] at hbl
  obtain ⟨rfl, _, _⟩ := hbl
  exact hsr h0

set_option maxHeartbeats 12800000 in
set_option maxRecDepth 100000 in
theorem rkeep_c (A : Option Addr) (c z a N : Nat) (F Bs : List (List UInt8)) (t X : ByteArray) (q : Nat) (ar : Int) (Au : Option Addr) (nu cu U : Nat) (w : World) (h : SRow w w.heap.size A (F.map bst)) (hz : 0 < z) (hz2 : z ≤ 108) (hF2 : F.length ≤ 5000) (_hc : F.length ≤ c)
    (hto : ar = 0 ↔ a = z) (ha : a = 0 ∨ a = z) (hX : X.size ≤ 6000) (hq : q + nu + 1 ≤ 2147483647) (hBs : framesF (q + nu + 1) X.data.toList = Bs) (hN : Bs.length = N) :
    Calls Tryz.prog 19 #[.agg #[.string t, .int .i64 (q : Int), .int .i64 ar, .slice Au nu cu, .int .i64 (U : Int)], .slice A F.length c, .int .i64 (z : Int), .string X] w fun e w' => (∃ v, e = .returned v ∧ w'.ownsRow w.heap.size 9 1 v F.length (strVs ((List.range F.length).map (keepR F z a Bs))) ∧ v ≠ .slice none 0 0) ∧ Below w.heap.size w w' := by
  have hblk : ∀ (x : Int) (W : World), x = ((q + nu + 1 : Nat) : Int) → Calls Tryz.prog 21 #[.int .i64 x, .string X] W fun e w' => (∃ (Ab : Option Addr) (cb base : Nat), e = .returned (.tuple #[.slice Ab N cb, .bool true]) ∧ w'.ownsRow base 9 1 (.slice Ab N cb) N (strVs Bs)) ∧ Below W.heap.size W w' := fun x W hx => by
    subst hx
    refine (rblocks_ok (q + nu + 1) X W (by omega) hq hX).mono ?_
    rintro e w' ⟨⟨v, base, rfl, ob⟩, hb⟩
    have hNN : nblk X.size = N := by rw [← hN, ← hBs, framesF_len, size_len]
    rw [hNN, hBs] at ob
    obtain ⟨Ab, cb, rfl⟩ := own_form ob
    exact ⟨⟨Ab, cb, base, rfl, ob⟩, hb⟩
  have hmk : ∀ W : World, (Instr.makeSlice 51 (.int .i64 64) (.int .i64 64)).run Tryz.prog W = .ok (.slice (some ⟨W.heap.size, 0, none⟩) 64 64) (W.alloc (.cells (madeCells #[.int .u8 0] 64) 5)) := fun W => run_make_row' _ _ _ 1 Tryz.underlying51 Tryz.infoB rfl .i64 .i64 64 (by omega) (by omega) W
  have hcv : ∀ W : World, (convert 51 9 (.slice (some ⟨W.heap.size, 0, none⟩) 64 64)).run Tryz.prog (W.alloc (.cells (madeCells #[.int .u8 0] 64) 5)) = .ok (.string (bst zeroF)) (W.alloc (.cells (madeCells #[.int .u8 0] 64) 5)) := fun W =>
    conv_row (W.alloc (.cells (madeCells #[.int .u8 0] 64) 5)) W.heap.size 0 64 zeroF fun j hj => by
      rw [Nat.zero_add]; exact ((zeros_row W 64).2 j hj).1
  have hcv1 := hcv (w.alloc (.cells #[.string t, .int .i64 (q : Int), .int .i64 ar, .slice Au nu cu, .int .i64 (U : Int)] 34))
  rw [World.size_alloc] at hcv1
  have HBS := Lib.hid hBs; have HNN := Lib.hid hN
  have hBl : Bs.length = N := hN
  clear hcv hBs hN
  rcases ha with ha | ha
  · subst ha
    have har1 : ¬ ar = 0 := fun h => by have := hto.1 h; omega
    clear hto
    have HBK := Lib.hid hblk; have HR := Lib.hid h
    clear hblk h
    go_enter Tryz.func19, Tryz.ntmps19
    go_wp2_with fail
    refine (HBK.out _ _ (by omega)).mono ?_
    rintro e w3 ⟨⟨Ab, cb, bas, rfl, ob⟩, b3⟩
    have HB3 : Hid (Below w.heap.size w w3) := Lib.hid (Below.trans (by (repeat' (first | (with_reducible exact Below.refl _ _) | (with_reducible refine below_drewN ?_ _) | (with_reducible refine Below.drew ?_) | (with_reducible refine Below.alloc ?_ ?_ _) | (with_reducible refine Below.setCell ?_ ?_ _) | (with_reducible refine Below.trans ?_ (Below.mono (by with_reducible assumption) ?_)) | omega | (simp only [World.size_alloc] at *; omega) | (with_reducible refine Below.size (B := 0) ?_)))) (b3.mono (by simp only [World.size_alloc]; omega)))
    have HSB0 := own_rows ob
    have HR3 := Lib.hid ((HR.out.below HB3.out (Nat.le_refl _)).mono HB3.out.size)
    have HSB := Lib.hid HSB0
    obtain ⟨ti, hti, hzz0, hzz1, hzz2⟩ := Tryz.infoSt
    have HST : Hid (KpRel w3 F z 0 Bs (.slice (some ⟨w3.heap.size, 0, none⟩) 0 0) (.int .i64 0) (w3.alloc (.cells #[] 9))) := Lib.hid ⟨0, _, rfl, rfl, by omega, World.ownsRow_made w3 #[] 0 (Nat.le_refl _) (by unfold maxLen; omega) rfl, by simp, (Below.refl _ _).alloc (Nat.le_refl _) _⟩
    clear b3 ob HSB0 HR HBK
    go_wp2_with fail
    go_loopw [13, 14] (fun v i wr => KpRel w3 F z 0 Bs v i wr) (fun _ i _ => F.length - (intOf i).toNat)
    case atStart => exact HST.out
    case round =>
      obtain ⟨j, u, rfl, rfl, hj, hown, hne, hb⟩ := hrel
      clear HST
      obtain ⟨Av, cv, rfl⟩ := own_form hown
      obtain ⟨L, hL⟩ : ∃ L, (List.range j).map (keepR F z 0 Bs) = L := ⟨_, rfl⟩
      have hLl : L.length = j := by rw [← hL, List.length_map, List.length_range]
      rw [hL] at hown
      have HL := Lib.hid hL; have HB := Lib.hid hb; have HLL := Lib.hid hLl
      by_cases hjl : j < F.length
      · have hji : (j : Int) < (F.length : Int) := by omega
        have HO : Hid (∀ o : Obj, (wr.alloc o).ownsRow w3.heap.size 9 1 (.slice Av j cv) j (strVs L)) := Lib.hid fun o => hown.alloc o
        have hlt := hown.lt
        have HLT := Lib.hid hlt
        have hszr := hb.size
        by_cases h1 : 2 * z ≤ j
        · have k1 : 2 * (z : Int) ≤ (j : Int) := by omega
          have HK : Hid (keepR F z 0 Bs j = zeroF) := Lib.hid (by unfold keepR; rw [if_pos h1])
          clear hown hL hb hLl hlt
          go_wp2_with (at_builtin; refine wpList_append_own_at _ rfl _ _ 22 rfl w3.heap.size 9 ti _ 1 16 Tryz.underlying22 hti hzz0 hzz1 hzz2 rfl (by decide) _ j (strVs L) rfl (HO.out _) ⟨_, 0, none⟩ 1 1 [.string (bst zeroF)] rfl rfl ?c1w1 ?c2w1 ?c3w1 ?c4w1 ?c5w1 ?_)
          case c1w1 => exact cell_one_new _ _ _
          case c2w1 => first | rfl | (intro u hu; simp at hu; subst hu; rfl)
          case c3w1 => unfold maxLen; omega
          case c4w1 => omega
          case c5w1 => first | omega | (rw [World.size_alloc]; omega)
          intro u' w6 o6 g6 hnil _
          have HN : Hid (KpRel w3 F z 0 Bs u' (.int .i64 ((j : Int) + 1)) w6) := Lib.hid (by
            have hc6 : ChgS (fun i => Value.ownBlock (.slice Av j cv) = some i) wr w6 := ((ChgS.refl _ wr).alloc _).grown g6 fun i hi => .inl hi
            refine ⟨j + 1, u', rfl, ret_v (by omega), by omega, ?_, fun h => ?_, HB.out.trans (hc6.below (fun i hi => (HLT.out i hi).1) hszr)⟩
            · rw [List.range_succ, List.map_append, List.map_singleton, HL.out, HK.out]
              unfold strVs at o6 ⊢
              rw [List.map_append]
              exact o6
            · first | exact hnil h | (have := hnil.1 h; simp at this))
          clear o6 g6 hnil HO
          go_wp2_with fail
          go_roundw
          case rel => exact HN.out
          case measure => simp [intOf]; omega
        have k1 : ¬ 2 * (z : Int) ≤ (j : Int) := by omega
        by_cases h2 : j < z
        · have k2 : (0 : Int) ≤ (j : Int) := by omega
          have k3 : (j : Int) < (z : Int) := by omega
          by_cases h3 : N ≤ j
          · have k4 : (N : Int) ≤ (j : Int) := by omega
            have HK : Hid (keepR F z 0 Bs j = zeroF) := Lib.hid (by unfold keepR; rw [if_neg h1, if_pos ⟨Nat.zero_le _, by omega⟩, Nat.sub_zero, getD_out (by omega)])
            clear hown hL hb hLl hlt
            go_wp2_with (at_builtin; refine wpList_append_own_at _ rfl _ _ 22 rfl w3.heap.size 9 ti _ 1 16 Tryz.underlying22 hti hzz0 hzz1 hzz2 rfl (by decide) _ j (strVs L) rfl (HO.out _) ⟨_, 0, none⟩ 1 1 [.string (bst zeroF)] rfl rfl ?c1w2 ?c2w2 ?c3w2 ?c4w2 ?c5w2 ?_)
            case c2w2 => first | rfl | (intro u hu; simp at hu; subst hu; rfl)
            case c3w2 => unfold maxLen; omega
            case c4w2 => omega
            case c5w2 => first | omega | (rw [World.size_alloc]; omega)
            intro u' w6 o6 g6 hnil _
            have HN : Hid (KpRel w3 F z 0 Bs u' (.int .i64 ((j : Int) + 1)) w6) := Lib.hid (by
              have hc6 : ChgS (fun i => Value.ownBlock (.slice Av j cv) = some i) wr w6 := ((ChgS.refl _ wr).alloc _).grown g6 fun i hi => .inl hi
              refine ⟨j + 1, u', rfl, ret_v (by omega), by omega, ?_, fun h => ?_, HB.out.trans (hc6.below (fun i hi => (HLT.out i hi).1) hszr)⟩
              · rw [List.range_succ, List.map_append, List.map_singleton, HL.out, HK.out]
                unfold strVs at o6 ⊢
                rw [List.map_append]
                exact o6
              · first | exact hnil h | (have := hnil.1 h; simp at this))
            clear o6 g6 hnil HO
            go_wp2_with fail
            go_roundw
            case rel => exact HN.out
            case measure => simp [intOf]; omega
          · obtain ⟨bb, hbb⟩ : ∃ bb, Bs[j]? = some bb := ⟨_, List.getElem?_eq_getElem (by omega)⟩
            have hbg : Bs.getD j zeroF = bb := by rw [List.getD_eq_getElem?_getD, hbb]; rfl
            have k4 : ¬ (N : Int) ≤ (j : Int) := by omega
            have k5 : (j : Int) < (N : Int) := by omega
            have HK : Hid (keepR F z 0 Bs j = bb) := Lib.hid (by unfold keepR; rw [if_neg h1, if_pos ⟨Nat.zero_le _, by omega⟩, Nat.sub_zero, hbg])
            obtain ⟨a2, ha2, _, ca2⟩ := (HSB.out.below hb (Nat.le_refl _)).cell (i := j) (z := bst bb) (by rw [List.getElem?_map, hbb]; rfl)
            subst ha2
            clear hbb hbg
            clear hown hL hb hLl hlt
            go_wp2_with (at_builtin; refine wpList_append_own_at _ rfl _ _ 22 rfl w3.heap.size 9 ti _ 1 16 Tryz.underlying22 hti hzz0 hzz1 hzz2 rfl (by decide) _ j (strVs L) rfl (HO.out _) ⟨_, 0, none⟩ 1 1 [.string (bst bb)] rfl rfl ?c1w3 ?c2w3 ?c3w3 ?c4w3 ?c5w3 ?_)
            case c2w3 => first | rfl | (intro u hu; simp at hu; subst hu; rfl)
            case c3w3 => unfold maxLen; omega
            case c4w3 => omega
            case c5w3 => first | omega | (rw [World.size_alloc]; omega)
            intro u' w6 o6 g6 hnil _
            have HN : Hid (KpRel w3 F z 0 Bs u' (.int .i64 ((j : Int) + 1)) w6) := Lib.hid (by
              have hc6 : ChgS (fun i => Value.ownBlock (.slice Av j cv) = some i) wr w6 := ((ChgS.refl _ wr).alloc _).grown g6 fun i hi => .inl hi
              refine ⟨j + 1, u', rfl, ret_v (by omega), by omega, ?_, fun h => ?_, HB.out.trans (hc6.below (fun i hi => (HLT.out i hi).1) hszr)⟩
              · rw [List.range_succ, List.map_append, List.map_singleton, HL.out, HK.out]
                unfold strVs at o6 ⊢
                rw [List.map_append]
                exact o6
              · first | exact hnil h | (have := hnil.1 h; simp at this))
            clear o6 g6 hnil HO
            go_wp2_with fail
            go_roundw
            case rel => exact HN.out
            case measure => simp [intOf]; omega
        · obtain ⟨bb, hbb⟩ : ∃ bb, F[j]? = some bb := ⟨_, List.getElem?_eq_getElem hjl⟩
          have hbg : F.getD j zeroF = bb := by rw [List.getD_eq_getElem?_getD, hbb]; rfl
          have k2 : (0 : Int) ≤ (j : Int) := by omega
          have k3 : ¬ (j : Int) < (z : Int) := by omega
          have HK : Hid (keepR F z 0 Bs j = bb) := Lib.hid (by unfold keepR; rw [if_neg h1, if_neg (by omega), hbg])
          obtain ⟨a2, ha2, _, ca2⟩ := (HR3.out.below hb (Nat.le_refl _)).cell (i := j) (z := bst bb) (by rw [List.getElem?_map, hbb]; rfl)
          subst ha2
          clear hbb hbg
          clear hown hL hb hLl hlt
          go_wp2_with (at_builtin; refine wpList_append_own_at _ rfl _ _ 22 rfl w3.heap.size 9 ti _ 1 16 Tryz.underlying22 hti hzz0 hzz1 hzz2 rfl (by decide) _ j (strVs L) rfl (HO.out _) ⟨_, 0, none⟩ 1 1 [.string (bst bb)] rfl rfl ?c1w4 ?c2w4 ?c3w4 ?c4w4 ?c5w4 ?_)
          case c2w4 => first | rfl | (intro u hu; simp at hu; subst hu; rfl)
          case c3w4 => unfold maxLen; omega
          case c4w4 => omega
          case c5w4 => first | omega | (rw [World.size_alloc]; omega)
          intro u' w6 o6 g6 hnil _
          have HN : Hid (KpRel w3 F z 0 Bs u' (.int .i64 ((j : Int) + 1)) w6) := Lib.hid (by
            have hc6 : ChgS (fun i => Value.ownBlock (.slice Av j cv) = some i) wr w6 := ((ChgS.refl _ wr).alloc _).grown g6 fun i hi => .inl hi
            refine ⟨j + 1, u', rfl, ret_v (by omega), by omega, ?_, fun h => ?_, HB.out.trans (hc6.below (fun i hi => (HLT.out i hi).1) hszr)⟩
            · rw [List.range_succ, List.map_append, List.map_singleton, HL.out, HK.out]
              unfold strVs at o6 ⊢
              rw [List.map_append]
              exact o6
            · first | exact hnil h | (have := hnil.1 h; simp at this))
          clear o6 g6 hnil HO
          go_wp2_with fail
          go_roundw
          case rel => exact HN.out
          case measure => simp [intOf]; omega
      · have hji : ¬ (j : Int) < (F.length : Int) := by omega
        have hje : j = F.length := by omega
        have HJE := Lib.hid hje
        have HO := Lib.hid hown
        clear hown hL hb hLl hje
        go_wp2_with fail
        go_ret
        refine ⟨⟨_, rfl, ?_, hne⟩, HB3.out.trans (HB.out.mono HB3.out.size)⟩
        have h1 := own_le HO.out HB3.out.size
        rw [← HL.out, HJE.out] at h1
        rw [HJE.out]
        exact h1
  · have ha2 : z = a := ha.symm
    subst ha2
    have har1 : ar = 0 := hto.2 rfl
    subst har1
    clear hto
    have HBK := Lib.hid hblk; have HR := Lib.hid h
    clear hblk h
    go_enter Tryz.func19, Tryz.ntmps19
    go_wp2_with fail
    refine (HBK.out _ _ (by omega)).mono ?_
    rintro e w3 ⟨⟨Ab, cb, bas, rfl, ob⟩, b3⟩
    have HB3 : Hid (Below w.heap.size w w3) := Lib.hid (Below.trans (by (repeat' (first | (with_reducible exact Below.refl _ _) | (with_reducible refine below_drewN ?_ _) | (with_reducible refine Below.drew ?_) | (with_reducible refine Below.alloc ?_ ?_ _) | (with_reducible refine Below.setCell ?_ ?_ _) | (with_reducible refine Below.trans ?_ (Below.mono (by with_reducible assumption) ?_)) | omega | (simp only [World.size_alloc] at *; omega) | (with_reducible refine Below.size (B := 0) ?_)))) (b3.mono (by simp only [World.size_alloc]; omega)))
    have HSB0 := own_rows ob
    have HR3 := Lib.hid ((HR.out.below HB3.out (Nat.le_refl _)).mono HB3.out.size)
    have HSB := Lib.hid HSB0
    obtain ⟨ti, hti, hzz0, hzz1, hzz2⟩ := Tryz.infoSt
    have HST : Hid (KpRel w3 F z z Bs (.slice (some ⟨w3.heap.size, 0, none⟩) 0 0) (.int .i64 0) (w3.alloc (.cells #[] 9))) := Lib.hid ⟨0, _, rfl, rfl, by omega, World.ownsRow_made w3 #[] 0 (Nat.le_refl _) (by unfold maxLen; omega) rfl, by simp, (Below.refl _ _).alloc (Nat.le_refl _) _⟩
    clear b3 ob HSB0 HR HBK
    go_wp2_with fail
    go_loopw [13, 14] (fun v i wr => KpRel w3 F z z Bs v i wr) (fun _ i _ => F.length - (intOf i).toNat)
    case atStart => exact HST.out
    case round =>
      obtain ⟨j, u, rfl, rfl, hj, hown, hne, hb⟩ := hrel
      clear HST
      obtain ⟨Av, cv, rfl⟩ := own_form hown
      obtain ⟨L, hL⟩ : ∃ L, (List.range j).map (keepR F z z Bs) = L := ⟨_, rfl⟩
      have hLl : L.length = j := by rw [← hL, List.length_map, List.length_range]
      rw [hL] at hown
      have HL := Lib.hid hL; have HB := Lib.hid hb; have HLL := Lib.hid hLl
      by_cases hjl : j < F.length
      · have hji : (j : Int) < (F.length : Int) := by omega
        have HO : Hid (∀ o : Obj, (wr.alloc o).ownsRow w3.heap.size 9 1 (.slice Av j cv) j (strVs L)) := Lib.hid fun o => hown.alloc o
        have hlt := hown.lt
        have HLT := Lib.hid hlt
        have hszr := hb.size
        by_cases h1 : 2 * z ≤ j
        · have k1 : 2 * (z : Int) ≤ (j : Int) := by omega
          have HK : Hid (keepR F z z Bs j = zeroF) := Lib.hid (by unfold keepR; rw [if_pos h1])
          clear hown hL hb hLl hlt
          go_wp2_with (at_builtin; refine wpList_append_own_at _ rfl _ _ 22 rfl w3.heap.size 9 ti _ 1 16 Tryz.underlying22 hti hzz0 hzz1 hzz2 rfl (by decide) _ j (strVs L) rfl (HO.out _) ⟨_, 0, none⟩ 1 1 [.string (bst zeroF)] rfl rfl ?c1w5 ?c2w5 ?c3w5 ?c4w5 ?c5w5 ?_)
          case c1w5 => exact cell_one_new _ _ _
          case c2w5 => first | rfl | (intro u hu; simp at hu; subst hu; rfl)
          case c3w5 => unfold maxLen; omega
          case c4w5 => omega
          case c5w5 => first | omega | (rw [World.size_alloc]; omega)
          intro u' w6 o6 g6 hnil _
          have HN : Hid (KpRel w3 F z z Bs u' (.int .i64 ((j : Int) + 1)) w6) := Lib.hid (by
            have hc6 : ChgS (fun i => Value.ownBlock (.slice Av j cv) = some i) wr w6 := ((ChgS.refl _ wr).alloc _).grown g6 fun i hi => .inl hi
            refine ⟨j + 1, u', rfl, ret_v (by omega), by omega, ?_, fun h => ?_, HB.out.trans (hc6.below (fun i hi => (HLT.out i hi).1) hszr)⟩
            · rw [List.range_succ, List.map_append, List.map_singleton, HL.out, HK.out]
              unfold strVs at o6 ⊢
              rw [List.map_append]
              exact o6
            · first | exact hnil h | (have := hnil.1 h; simp at this))
          clear o6 g6 hnil HO
          go_wp2_with fail
          go_roundw
          case rel => exact HN.out
          case measure => simp [intOf]; omega
        have k1 : ¬ 2 * (z : Int) ≤ (j : Int) := by omega
        by_cases h2 : z ≤ j
        · obtain ⟨kk, hkk⟩ : ∃ kk, j - z = kk := ⟨_, rfl⟩
          have kz : (j : Int) - (z : Int) = (kk : Int) := by omega
          have k2 : (0 : Int) ≤ (kk : Int) := by omega
          have k3 : (kk : Int) < (z : Int) := by omega
          by_cases h3 : N ≤ kk
          · have k4 : (N : Int) ≤ (kk : Int) := by omega
            have HK : Hid (keepR F z z Bs j = zeroF) := Lib.hid (by unfold keepR; rw [if_neg h1, if_pos ⟨h2, by omega⟩, getD_out (by omega)])
            clear hown hL hb hLl hlt
            go_wp2_with (at_builtin; refine wpList_append_own_at _ rfl _ _ 22 rfl w3.heap.size 9 ti _ 1 16 Tryz.underlying22 hti hzz0 hzz1 hzz2 rfl (by decide) _ j (strVs L) rfl (HO.out _) ⟨_, 0, none⟩ 1 1 [.string (bst zeroF)] rfl rfl ?c1w6 ?c2w6 ?c3w6 ?c4w6 ?c5w6 ?_)
            case c2w6 => first | rfl | (intro u hu; simp at hu; subst hu; rfl)
            case c3w6 => unfold maxLen; omega
            case c4w6 => omega
            case c5w6 => first | omega | (rw [World.size_alloc]; omega)
            intro u' w6 o6 g6 hnil _
            have HN : Hid (KpRel w3 F z z Bs u' (.int .i64 ((j : Int) + 1)) w6) := Lib.hid (by
              have hc6 : ChgS (fun i => Value.ownBlock (.slice Av j cv) = some i) wr w6 := ((ChgS.refl _ wr).alloc _).grown g6 fun i hi => .inl hi
              refine ⟨j + 1, u', rfl, ret_v (by omega), by omega, ?_, fun h => ?_, HB.out.trans (hc6.below (fun i hi => (HLT.out i hi).1) hszr)⟩
              · rw [List.range_succ, List.map_append, List.map_singleton, HL.out, HK.out]
                unfold strVs at o6 ⊢
                rw [List.map_append]
                exact o6
              · first | exact hnil h | (have := hnil.1 h; simp at this))
            clear o6 g6 hnil HO
            go_wp2_with fail
            go_roundw
            case rel => exact HN.out
            case measure => simp [intOf]; omega
          · obtain ⟨bb, hbb⟩ : ∃ bb, Bs[kk]? = some bb := ⟨_, List.getElem?_eq_getElem (by omega)⟩
            have hbg : Bs.getD kk zeroF = bb := by rw [List.getD_eq_getElem?_getD, hbb]; rfl
            have k4 : ¬ (N : Int) ≤ (kk : Int) := by omega
            have k5 : (kk : Int) < (N : Int) := by omega
            have HK : Hid (keepR F z z Bs j = bb) := Lib.hid (by unfold keepR; rw [if_neg h1, if_pos ⟨h2, by omega⟩, hkk, hbg])
            obtain ⟨a2, ha2, _, ca2⟩ := (HSB.out.below hb (Nat.le_refl _)).cell (i := kk) (z := bst bb) (by rw [List.getElem?_map, hbb]; rfl)
            subst ha2
            clear hbb hbg
            clear hown hL hb hLl hlt
            go_wp2_with (at_builtin; refine wpList_append_own_at _ rfl _ _ 22 rfl w3.heap.size 9 ti _ 1 16 Tryz.underlying22 hti hzz0 hzz1 hzz2 rfl (by decide) _ j (strVs L) rfl (HO.out _) ⟨_, 0, none⟩ 1 1 [.string (bst bb)] rfl rfl ?c1w7 ?c2w7 ?c3w7 ?c4w7 ?c5w7 ?_)
            case c2w7 => first | rfl | (intro u hu; simp at hu; subst hu; rfl)
            case c3w7 => unfold maxLen; omega
            case c4w7 => omega
            case c5w7 => first | omega | (rw [World.size_alloc]; omega)
            intro u' w6 o6 g6 hnil _
            have HN : Hid (KpRel w3 F z z Bs u' (.int .i64 ((j : Int) + 1)) w6) := Lib.hid (by
              have hc6 : ChgS (fun i => Value.ownBlock (.slice Av j cv) = some i) wr w6 := ((ChgS.refl _ wr).alloc _).grown g6 fun i hi => .inl hi
              refine ⟨j + 1, u', rfl, ret_v (by omega), by omega, ?_, fun h => ?_, HB.out.trans (hc6.below (fun i hi => (HLT.out i hi).1) hszr)⟩
              · rw [List.range_succ, List.map_append, List.map_singleton, HL.out, HK.out]
                unfold strVs at o6 ⊢
                rw [List.map_append]
                exact o6
              · first | exact hnil h | (have := hnil.1 h; simp at this))
            clear o6 g6 hnil HO
            go_wp2_with fail
            go_roundw
            case rel => exact HN.out
            case measure => simp [intOf]; omega
        · obtain ⟨bb, hbb⟩ : ∃ bb, F[j]? = some bb := ⟨_, List.getElem?_eq_getElem hjl⟩
          have hbg : F.getD j zeroF = bb := by rw [List.getD_eq_getElem?_getD, hbb]; rfl
          have k2 : ¬ (0 : Int) ≤ (j : Int) - (z : Int) := by omega
          have k0 : (0 : Int) ≤ (j : Int) := by omega
          have HK : Hid (keepR F z z Bs j = bb) := Lib.hid (by unfold keepR; rw [if_neg h1, if_neg (by omega), hbg])
          obtain ⟨a2, ha2, _, ca2⟩ := (HR3.out.below hb (Nat.le_refl _)).cell (i := j) (z := bst bb) (by rw [List.getElem?_map, hbb]; rfl)
          subst ha2
          clear hbb hbg
          clear hown hL hb hLl hlt
          go_wp2_with (at_builtin; refine wpList_append_own_at _ rfl _ _ 22 rfl w3.heap.size 9 ti _ 1 16 Tryz.underlying22 hti hzz0 hzz1 hzz2 rfl (by decide) _ j (strVs L) rfl (HO.out _) ⟨_, 0, none⟩ 1 1 [.string (bst bb)] rfl rfl ?c1w8 ?c2w8 ?c3w8 ?c4w8 ?c5w8 ?_)
          case c2w8 => first | rfl | (intro u hu; simp at hu; subst hu; rfl)
          case c3w8 => unfold maxLen; omega
          case c4w8 => omega
          case c5w8 => first | omega | (rw [World.size_alloc]; omega)
          intro u' w6 o6 g6 hnil _
          have HN : Hid (KpRel w3 F z z Bs u' (.int .i64 ((j : Int) + 1)) w6) := Lib.hid (by
            have hc6 : ChgS (fun i => Value.ownBlock (.slice Av j cv) = some i) wr w6 := ((ChgS.refl _ wr).alloc _).grown g6 fun i hi => .inl hi
            refine ⟨j + 1, u', rfl, ret_v (by omega), by omega, ?_, fun h => ?_, HB.out.trans (hc6.below (fun i hi => (HLT.out i hi).1) hszr)⟩
            · rw [List.range_succ, List.map_append, List.map_singleton, HL.out, HK.out]
              unfold strVs at o6 ⊢
              rw [List.map_append]
              exact o6
            · first | exact hnil h | (have := hnil.1 h; simp at this))
          clear o6 g6 hnil HO
          go_wp2_with fail
          go_roundw
          case rel => exact HN.out
          case measure => simp [intOf]; omega
      · have hji : ¬ (j : Int) < (F.length : Int) := by omega
        have hje : j = F.length := by omega
        have HJE := Lib.hid hje
        have HO := Lib.hid hown
        clear hown hL hb hLl hje
        go_wp2_with fail
        go_ret
        refine ⟨⟨_, rfl, ?_, hne⟩, HB3.out.trans (HB.out.mono HB3.out.size)⟩
        have h1 := own_le HO.out HB3.out.size
        rw [← HL.out, HJE.out] at h1
        rw [HJE.out]
        exact h1
end Go.Proofs.YtaibmdjcppeopaaGreatDoor
