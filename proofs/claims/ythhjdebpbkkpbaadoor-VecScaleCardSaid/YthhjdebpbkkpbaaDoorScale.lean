/- The walk of the law VecScale: whatever the vector and the number, it returns true. Condition: the package variables lie as the program's text lays them. -/
import Derived.Test.YthhjdebpbkkpbaaDoorOrder
import Derived.Laws.OwnMore
import Derived.Laws.AppendOwn
import Derived.OwnWalk
namespace Go.Proofs.YthhjdebpbkkpbaaDoor
open Go Go.RowKit

theorem k_of (n : Int) : ∃ k : Nat, k ≤ 16 ∧ wrap64 ((IntKind.u64.wrap n).tmod 17) = (k : Int) := by
  have h0 : 0 ≤ IntKind.u64.wrap n := by
    rw [IntKind.wrap_u64]; omega
  generalize IntKind.u64.wrap n = m at h0
  rw [Int.tmod_eq_emod_of_nonneg h0]
  refine ⟨(m % 17).toNat, by omega, ?_⟩
  rw [IntWalk.wrap64_in _ ⟨by omega, by omega⟩]
  omega

/-- The cells of so many equal vectors. -/
def rowsV (v : V4) (j : Nat) : List Value := (List.replicate j [Value.int .i64 v.a, .int .i64 v.b, .int .i64 v.c, .int .i64 v.d]).flatten
theorem rowsV_succ (v : V4) (j : Nat) : rowsV v j ++ [Value.int .i64 v.a, .int .i64 v.b, .int .i64 v.c, .int .i64 v.d] = rowsV v (j + 1) := by
  unfold rowsV
  rw [List.replicate_succ', List.flatten_append]
  simp

theorem rowsV_get (v : V4) : ∀ (k i : Nat), i < k → (rowsV v k)[i * 4]? = some (.int .i64 v.a) ∧ (rowsV v k)[i * 4 + 1]? = some (.int .i64 v.b) ∧ (rowsV v k)[i * 4 + 2]? = some (.int .i64 v.c) ∧ (rowsV v k)[i * 4 + 3]? = some (.int .i64 v.d)
  | k + 1, 0, _ => by
    unfold rowsV
    rw [List.replicate_succ, List.flatten_cons]
    exact ⟨rfl, rfl, rfl, rfl⟩
  | k + 1, i + 1, h => by
    have ih := rowsV_get v k i (by omega)
    have e : ∀ r, (rowsV v (k + 1))[(i + 1) * 4 + r]? = (rowsV v k)[i * 4 + r]? := fun r => by
      unfold rowsV
      rw [List.replicate_succ, List.flatten_cons, List.getElem?_append_right (by simp; omega)]
      congr 1
      simp; omega
    exact ⟨(e 0).trans ih.1, (e 1).trans ih.2.1, (e 2).trans ih.2.2.1, (e 3).trans ih.2.2.2⟩
theorem add0_ (g j : Nat) : (⟨g, 0, none⟩ : Addr).add j = ⟨g, j, none⟩ := by
  unfold Addr.add; split
  · subst_vars; rfl
  · simp
theorem own_ge {w : World} {B : Nat} {e : TypeId} {size n : Nat} {v : Value} {xs : List Value} (h : w.ownsRow B e size v n xs) : ∀ k, v.ownBlock = some k → B ≤ k := by
  rcases h.2 with ⟨rfl, _⟩ | ⟨g, cap, cur, rfl, hg, _⟩
  · intro k hk; simp [Value.ownBlock] at hk
  · intro k hk
    simp [Value.ownBlock] at hk
    omega
theorem Vb.grown {w w' : World} {g : Nat} {x : V4} {row : Option Nat} (h : Vb w g x) (hg : w.grownBy w' row) (hr : ∀ k, row = some k → g < k) : Vb w' g x :=
  (hg.block g (lt_of_row h) (fun e => by have := hr g e.symm; omega)).trans h
theorem own_vrow {w : World} {B : Nat} {A : Option Addr} {c k : Nat} {v : V4} (h : w.ownsRow B 23 4 (.slice A k c) k (rowsV v k)) : VRow w w.heap.size A (List.replicate k v) := by
  rcases h.2 with ⟨hv, h0⟩ | ⟨g, cap, cur, hv, hg, hh, hnc, hc, hsz, ht⟩
  · subst h0; intro hn; simp at hn
  · simp only [Value.slice.injEq] at hv
    obtain ⟨rfl, _, rfl⟩ := hv
    intro _
    refine ⟨_, rfl, lt_of_row hh, fun i z hz => ?_⟩
    obtain ⟨hi, hzv⟩ := List.getElem?_eq_some_iff.1 hz
    rw [List.length_replicate] at hi
    rw [List.getElem_replicate] at hzv
    subst hzv
    have hcell : ∀ r u, (rowsV v k)[r]? = some u → w.cell? ⟨g, r, none⟩ = some u := by
      intro r u hu
      rw [← ht, List.getElem?_take] at hu
      split at hu
      · simpa [World.cell?, hh] using hu
      · cases hu
    obtain ⟨g0, g1, g2, g3⟩ := rowsV_get v k i hi
    rw [add0_]
    exact ⟨hcell _ _ g0, hcell _ _ g1, hcell _ _ g2, hcell _ _ g3⟩
theorem sum_n (s : Nat → Addr) (A : Option Addr) (n c : Nat) (zs : List V4) (w : World) (hs : Sent s w) (hn : zs.length = n) (hr : VRow w w.heap.size A zs) (hl : n ≤ 9223372036854775807) :
    Calls Tryd.prog 22 #[.slice A n c] w (SumPost s (sumR zs) w) := by
  subst hn; exact sum_any s A c zs w hs hr hl

/-- What a round of the law's own loop begins with. -/
def LRel (w : World) (v X : V4) (k B gx : Nat) (sl i : Value) (wr : World) : Prop :=
  ∃ (j : Nat) (A : Option Addr) (c : Nat), j ≤ k ∧ i = .int .i64 j ∧ sl = .slice A j c ∧ wr.ownsRow B 23 4 (.slice A j c) j (rowsV v j) ∧ Below w.heap.size w wr ∧ B ≤ wr.heap.size ∧ Vb wr w.heap.size v ∧ Vb wr gx X
theorem Tryd.infoV : (Tryd.prog.info? 23).map (fun i => (i.zero, i.size, i.bytes)) = some (some (.agg #[.int .i64 0, .int .i64 0, .int .i64 0, .int .i64 0]), 4, 32) := by kernel_rfl

set_option maxRecDepth 100000 in
set_option maxHeartbeats 3200000 in
theorem scale_ok_t (s : Nat → Addr) (v : V4) (n : Int) (w : World) (hs : Sent s w) (k : Nat) (hk : k ≤ 16) (ek : wrap64 ((IntKind.u64.wrap n).tmod 17) = (k : Int)) (X : V4) (hv : goodV v = true) (hsc : scaleR v k = (X, 0)) (hR : sumR (List.replicate k v) = (X, 0, 0)) (hF : fitsV v X = true) :
    Calls Tryd.prog 6 #[.agg #[.int .i64 v.a, .int .i64 v.b, .int .i64 v.c, .int .i64 v.d], .int .i64 n] w fun e w' => e = .returned (.bool true) ∧ Below w.heap.size w w' := by
  have hE := eqV
  have EK := Lib.hid ek; clear ek
  have HV := Lib.hid hv; clear hv
  have HSC := Lib.hid hsc; clear hsc
  have HR := Lib.hid hR; clear hR
  have HF := Lib.hid hF; clear hF
  go_enter Tryd.func6, Tryd.ntmps6
  go_wp2_with fail
  refine (awake_c s _ (hs.below (B := w.heap.size) (by (repeat' (first | (with_reducible exact Below.refl _ _) | (with_reducible refine below_drewN ?_ _) | (with_reducible refine Below.drew ?_) | (with_reducible refine Below.alloc ?_ ?_ _) | (with_reducible refine Below.setCell ?_ ?_ _) | (with_reducible refine Below.trans ?_ (Below.mono (by with_reducible assumption) ?_)) | omega | (simp only [World.size_alloc, World.size_setCell, World.size_drew, Go.Proofs.YthhjdebpbkkpbaaDoor.World.size_drewN] at *; omega) | (with_reducible refine Below.size (B := 0) ?_)))) (Nat.le_refl _))).mono ?_
  rintro e w1 ⟨rfl, hb1⟩
  have Va : Vb w1 w.heap.size v := (Vb.new w v).step0 hb1
  obtain ⟨a0, a1, a2, a3, af, al⟩ := Va.facts
  go_wp2_with fail
  rw [EK.out]
  refine (scale_c s v k _ (hs.below (B := w.heap.size) (by (repeat' (first | (with_reducible exact Below.refl _ _) | (with_reducible refine below_drewN ?_ _) | (with_reducible refine Below.drew ?_) | (with_reducible refine Below.alloc ?_ ?_ _) | (with_reducible refine Below.setCell ?_ ?_ _) | (with_reducible refine Below.trans ?_ (Below.mono (by with_reducible assumption) ?_)) | omega | (simp only [World.size_alloc, World.size_setCell, World.size_drew, Go.Proofs.YthhjdebpbkkpbaaDoor.World.size_drewN] at *; omega) | (with_reducible refine Below.size (B := 0) ?_)))) (Nat.le_refl _))).mono ?_
  rintro e w2 ⟨rfl, hb2⟩
  rw [HSC.out, show errV s 0 = .nilIface from rfl]
  simp only
  clear a0 a1 a2 a3 af al
  replace Va := Va.step0 hb2
  go_wp2_with fail
  have hgx : w.heap.size < w2.heap.size := lt_of_row Va
  have hww2 : w.heap.size + 1 ≤ w2.heap.size + 1 := by omega
  go_loopw [8, 9] (fun sl i wr => LRel w v X k (w2.heap.size + 1) w2.heap.size sl i wr) (fun _ i _ => k - (intOf i).toNat)
  case atStart =>
    refine ⟨0, _, 0, Nat.zero_le _, rfl, rfl, ⟨rfl, .inr ⟨w2.heap.size + 1, 0, #[], rfl, Nat.le_refl _, ?_, by omega, by unfold maxLen; omega, rfl, rfl⟩⟩, by (repeat' (first | (with_reducible exact Below.refl _ _) | (with_reducible refine below_drewN ?_ _) | (with_reducible refine Below.drew ?_) | (with_reducible refine Below.alloc ?_ ?_ _) | (with_reducible refine Below.setCell ?_ ?_ _) | (with_reducible refine Below.trans ?_ (Below.mono (by with_reducible assumption) ?_)) | omega | (simp only [World.size_alloc, World.size_setCell, World.size_drew, Go.Proofs.YthhjdebpbkkpbaaDoor.World.size_drewN] at *; omega) | (with_reducible refine Below.size (B := 0) ?_))), by simp, (Va.alloc _).alloc _, (Vb.new w2 X).alloc _⟩
    have := heap_alloc_new (w2.alloc (.cells #[.int .i64 X.a, .int .i64 X.b, .int .i64 X.c, .int .i64 X.d] 23)) (.cells #[] 23)
    rw [World.size_alloc] at this
    exact this
  case round =>
    obtain ⟨j, A, c, hj, rfl, rfl, hown, hb, hB, hva, hvx⟩ := hrel
    by_cases hlt : j < k
    · obtain ⟨c0, c1, c2, c3, cf, cl⟩ := hva.facts
      obtain ⟨i0, hi, hz0, hz1, hz2⟩ := info_parts Tryd.infoV
      have hob := own_ge hown
      go_wp2_with (first | (at_builtin; refine wpList_append_own _ rfl _ _ 37 rfl (w2.heap.size + 1) 23 i0 _ 4 32 Tryd.underlying37 hi hz0 hz1 hz2 rfl (by decide) _ _ _ rfl (hown.alloc _) ⟨wr.heap.size, 0, none⟩ 1 1 [Value.int .i64 v.a, .int .i64 v.b, .int .i64 v.c, .int .i64 v.d] rfl rfl ?c1 ?c2 ?c3 ?c4 ?c5 ?_))
      case c1 => intro jj u hu; rw [add0_, World.cell?_alloc_at _ _ _ _ rfl]; simpa using hu
      case c2 => intro u hu; simp only [List.mem_cons, List.not_mem_nil, or_false] at hu; rcases hu with rfl | rfl | rfl | rfl <;> rfl
      case c3 => unfold maxLen; omega
      case c4 => omega
      case c5 => rw [World.size_alloc]; omega
      intro v' w3 hown' hgrow _
      rcases hown'.2 with ⟨_, h0⟩ | ⟨g, cap, cur, rfl, hrest⟩
      · exact absurd h0 (by omega)
      clear hrest c0 c1 c2 c3 cf cl
      rw [rowsV_succ] at hown'
      have hb' : Below w.heap.size w w3 := (hb.alloc hb.size _).grown hgrow (by rw [World.size_alloc]; have := hb.size; omega) (fun k' hk' => by have := hob k' hk'; omega)
      have hsz : wr.heap.size + 1 ≤ w3.heap.size := by have := hgrow.size; rwa [World.size_alloc] at this
      have hva' : Vb w3 w.heap.size v := (hva.alloc _).grown hgrow (fun k' hk' => by have := hob k' hk'; omega)
      have hvx' : Vb w3 w2.heap.size X := (hvx.alloc _).grown hgrow (fun k' hk' => by have := hob k' hk'; omega)
      have HO := Lib.hid hown'; clear hown'
      clear hob
      go_wp2_with fail
      go_roundw
      case rel => exact ⟨j + 1, _, _, by omega, by go_num, rfl, HO.out, hb', by omega, hva', hvx'⟩
      case measure => simp [intOf]; omega
    · obtain rfl : k = j := by omega
      have HVR := Lib.hid (own_vrow hown)
      clear hown
      go_wp2_with fail
      refine (sum_n s A k c (List.replicate k v) _ (hs.below (B := w.heap.size) (by (repeat' (first | (with_reducible exact Below.refl _ _) | (with_reducible refine below_drewN ?_ _) | (with_reducible refine Below.drew ?_) | (with_reducible refine Below.alloc ?_ ?_ _) | (with_reducible refine Below.setCell ?_ ?_ _) | (with_reducible refine Below.trans ?_ (Below.mono (by with_reducible assumption) ?_)) | omega | (simp only [World.size_alloc, World.size_setCell, World.size_drew, Go.Proofs.YthhjdebpbkkpbaaDoor.World.size_drewN] at *; omega) | (with_reducible refine Below.size (B := 0) ?_)))) (Nat.le_refl _)) (List.length_replicate) HVR.out (by omega)).mono ?_
      rintro e w4 ⟨hb4, h0⟩
      rw [HR.out] at h0
      rcases h0 with ⟨_, rfl⟩ | ⟨hk0, _⟩
      rotate_left
      · cases hk0
      replace hva := hva.step0 hb4
      replace hvx := hvx.step0 hb4
      obtain ⟨a0, a1, a2, a3, af, al⟩ := hva.facts
      go_wp2_with fail
      refine (good_c v _).mono ?_
      rintro e w5 ⟨rfl, hb5⟩
      rw [HV.out]
      have hvy := Vb.fresh X hb5
      replace hva := hva.step hb5
      replace hvx := hvx.step hb5
      clear a0 a1 a2 a3 af al
      go_wp2_with fail
      refine (kind_nil _).mono ?_
      rintro e w6 ⟨rfl, hb6⟩
      replace hva := hva.step0 hb6
      replace hvx := hvx.step0 hb6
      replace hvy := hvy.step0 hb6
      go_wp2_with fail
      refine (kind_nil _).mono ?_
      rintro e w7 ⟨rfl, hb7⟩
      replace hva := hva.step0 hb7
      replace hvx := hvx.step0 hb7
      replace hvy := hvy.step0 hb7
      obtain ⟨a0, a1, a2, a3, af, al⟩ := hva.facts
      obtain ⟨x0, x1, x2, x3, xf, xl⟩ := hvx.facts
      obtain ⟨y0, y1, y2, y3, yf, yl⟩ := hvy.facts
      go_wp2_with fail
      refine (fits_b v X true HF.out _).mono ?_
      rintro e w8 ⟨rfl, hb8⟩
      go_wp2_with fail
      go_ret
      exact ⟨rfl, by (repeat' (first | (with_reducible exact Below.refl _ _) | (with_reducible refine below_drewN ?_ _) | (with_reducible refine Below.drew ?_) | (with_reducible refine Below.alloc ?_ ?_ _) | (with_reducible refine Below.setCell ?_ ?_ _) | (with_reducible refine Below.trans ?_ (Below.mono (by with_reducible assumption) ?_)) | omega | (simp only [World.size_alloc, World.size_setCell, World.size_drew, Go.Proofs.YthhjdebpbkkpbaaDoor.World.size_drewN] at *; omega) | (with_reducible refine Below.size (B := 0) ?_)))⟩

set_option maxRecDepth 100000 in
set_option maxHeartbeats 3200000 in
theorem scale_ok_f (s : Nat → Addr) (v : V4) (n : Int) (w : World) (hs : Sent s w) (k : Nat) (hk : k ≤ 16) (ek : wrap64 ((IntKind.u64.wrap n).tmod 17) = (k : Int)) (X : V4) (hv : goodV v = true) (hsc : scaleR v k = (X, 0)) (hR : sumR (List.replicate k v) = (X, 0, 0)) (hF : fitsV v X = false) (hk0 : ((k : Int) == 0) = true) :
    Calls Tryd.prog 6 #[.agg #[.int .i64 v.a, .int .i64 v.b, .int .i64 v.c, .int .i64 v.d], .int .i64 n] w fun e w' => e = .returned (.bool true) ∧ Below w.heap.size w w' := by
  have hE := eqV
  have EK := Lib.hid ek; clear ek
  have HV := Lib.hid hv; clear hv
  have HSC := Lib.hid hsc; clear hsc
  have HR := Lib.hid hR; clear hR
  have HF := Lib.hid hF; clear hF
  have HK0 := Lib.hid hk0; clear hk0
  go_enter Tryd.func6, Tryd.ntmps6
  go_wp2_with fail
  refine (awake_c s _ (hs.below (B := w.heap.size) (by (repeat' (first | (with_reducible exact Below.refl _ _) | (with_reducible refine below_drewN ?_ _) | (with_reducible refine Below.drew ?_) | (with_reducible refine Below.alloc ?_ ?_ _) | (with_reducible refine Below.setCell ?_ ?_ _) | (with_reducible refine Below.trans ?_ (Below.mono (by with_reducible assumption) ?_)) | omega | (simp only [World.size_alloc, World.size_setCell, World.size_drew, Go.Proofs.YthhjdebpbkkpbaaDoor.World.size_drewN] at *; omega) | (with_reducible refine Below.size (B := 0) ?_)))) (Nat.le_refl _))).mono ?_
  rintro e w1 ⟨rfl, hb1⟩
  have Va : Vb w1 w.heap.size v := (Vb.new w v).step0 hb1
  obtain ⟨a0, a1, a2, a3, af, al⟩ := Va.facts
  go_wp2_with fail
  rw [EK.out]
  refine (scale_c s v k _ (hs.below (B := w.heap.size) (by (repeat' (first | (with_reducible exact Below.refl _ _) | (with_reducible refine below_drewN ?_ _) | (with_reducible refine Below.drew ?_) | (with_reducible refine Below.alloc ?_ ?_ _) | (with_reducible refine Below.setCell ?_ ?_ _) | (with_reducible refine Below.trans ?_ (Below.mono (by with_reducible assumption) ?_)) | omega | (simp only [World.size_alloc, World.size_setCell, World.size_drew, Go.Proofs.YthhjdebpbkkpbaaDoor.World.size_drewN] at *; omega) | (with_reducible refine Below.size (B := 0) ?_)))) (Nat.le_refl _))).mono ?_
  rintro e w2 ⟨rfl, hb2⟩
  rw [HSC.out, show errV s 0 = .nilIface from rfl]
  simp only
  clear a0 a1 a2 a3 af al
  replace Va := Va.step0 hb2
  go_wp2_with fail
  have hgx : w.heap.size < w2.heap.size := lt_of_row Va
  have hww2 : w.heap.size + 1 ≤ w2.heap.size + 1 := by omega
  go_loopw [8, 9] (fun sl i wr => LRel w v X k (w2.heap.size + 1) w2.heap.size sl i wr) (fun _ i _ => k - (intOf i).toNat)
  case atStart =>
    refine ⟨0, _, 0, Nat.zero_le _, rfl, rfl, ⟨rfl, .inr ⟨w2.heap.size + 1, 0, #[], rfl, Nat.le_refl _, ?_, by omega, by unfold maxLen; omega, rfl, rfl⟩⟩, by (repeat' (first | (with_reducible exact Below.refl _ _) | (with_reducible refine below_drewN ?_ _) | (with_reducible refine Below.drew ?_) | (with_reducible refine Below.alloc ?_ ?_ _) | (with_reducible refine Below.setCell ?_ ?_ _) | (with_reducible refine Below.trans ?_ (Below.mono (by with_reducible assumption) ?_)) | omega | (simp only [World.size_alloc, World.size_setCell, World.size_drew, Go.Proofs.YthhjdebpbkkpbaaDoor.World.size_drewN] at *; omega) | (with_reducible refine Below.size (B := 0) ?_))), by simp, (Va.alloc _).alloc _, (Vb.new w2 X).alloc _⟩
    have := heap_alloc_new (w2.alloc (.cells #[.int .i64 X.a, .int .i64 X.b, .int .i64 X.c, .int .i64 X.d] 23)) (.cells #[] 23)
    rw [World.size_alloc] at this
    exact this
  case round =>
    obtain ⟨j, A, c, hj, rfl, rfl, hown, hb, hB, hva, hvx⟩ := hrel
    by_cases hlt : j < k
    · obtain ⟨c0, c1, c2, c3, cf, cl⟩ := hva.facts
      obtain ⟨i0, hi, hz0, hz1, hz2⟩ := info_parts Tryd.infoV
      have hob := own_ge hown
      go_wp2_with (first | (at_builtin; refine wpList_append_own _ rfl _ _ 37 rfl (w2.heap.size + 1) 23 i0 _ 4 32 Tryd.underlying37 hi hz0 hz1 hz2 rfl (by decide) _ _ _ rfl (hown.alloc _) ⟨wr.heap.size, 0, none⟩ 1 1 [Value.int .i64 v.a, .int .i64 v.b, .int .i64 v.c, .int .i64 v.d] rfl rfl ?c1 ?c2 ?c3 ?c4 ?c5 ?_))
      case c1 => intro jj u hu; rw [add0_, World.cell?_alloc_at _ _ _ _ rfl]; simpa using hu
      case c2 => intro u hu; simp only [List.mem_cons, List.not_mem_nil, or_false] at hu; rcases hu with rfl | rfl | rfl | rfl <;> rfl
      case c3 => unfold maxLen; omega
      case c4 => omega
      case c5 => rw [World.size_alloc]; omega
      intro v' w3 hown' hgrow _
      rcases hown'.2 with ⟨_, h0⟩ | ⟨g, cap, cur, rfl, hrest⟩
      · exact absurd h0 (by omega)
      clear hrest c0 c1 c2 c3 cf cl
      rw [rowsV_succ] at hown'
      have hb' : Below w.heap.size w w3 := (hb.alloc hb.size _).grown hgrow (by rw [World.size_alloc]; have := hb.size; omega) (fun k' hk' => by have := hob k' hk'; omega)
      have hsz : wr.heap.size + 1 ≤ w3.heap.size := by have := hgrow.size; rwa [World.size_alloc] at this
      have hva' : Vb w3 w.heap.size v := (hva.alloc _).grown hgrow (fun k' hk' => by have := hob k' hk'; omega)
      have hvx' : Vb w3 w2.heap.size X := (hvx.alloc _).grown hgrow (fun k' hk' => by have := hob k' hk'; omega)
      have HO := Lib.hid hown'; clear hown'
      clear hob
      go_wp2_with fail
      go_roundw
      case rel => exact ⟨j + 1, _, _, by omega, by go_num, rfl, HO.out, hb', by omega, hva', hvx'⟩
      case measure => simp [intOf]; omega
    · obtain rfl : k = j := by omega
      have HVR := Lib.hid (own_vrow hown)
      clear hown
      go_wp2_with fail
      refine (sum_n s A k c (List.replicate k v) _ (hs.below (B := w.heap.size) (by (repeat' (first | (with_reducible exact Below.refl _ _) | (with_reducible refine below_drewN ?_ _) | (with_reducible refine Below.drew ?_) | (with_reducible refine Below.alloc ?_ ?_ _) | (with_reducible refine Below.setCell ?_ ?_ _) | (with_reducible refine Below.trans ?_ (Below.mono (by with_reducible assumption) ?_)) | omega | (simp only [World.size_alloc, World.size_setCell, World.size_drew, Go.Proofs.YthhjdebpbkkpbaaDoor.World.size_drewN] at *; omega) | (with_reducible refine Below.size (B := 0) ?_)))) (Nat.le_refl _)) (List.length_replicate) HVR.out (by omega)).mono ?_
      rintro e w4 ⟨hb4, h0⟩
      rw [HR.out] at h0
      rcases h0 with ⟨_, rfl⟩ | ⟨hk0, _⟩
      rotate_left
      · cases hk0
      replace hva := hva.step0 hb4
      replace hvx := hvx.step0 hb4
      obtain ⟨a0, a1, a2, a3, af, al⟩ := hva.facts
      go_wp2_with fail
      refine (good_c v _).mono ?_
      rintro e w5 ⟨rfl, hb5⟩
      rw [HV.out]
      have hvy := Vb.fresh X hb5
      replace hva := hva.step hb5
      replace hvx := hvx.step hb5
      clear a0 a1 a2 a3 af al
      go_wp2_with fail
      refine (kind_nil _).mono ?_
      rintro e w6 ⟨rfl, hb6⟩
      replace hva := hva.step0 hb6
      replace hvx := hvx.step0 hb6
      replace hvy := hvy.step0 hb6
      go_wp2_with fail
      refine (kind_nil _).mono ?_
      rintro e w7 ⟨rfl, hb7⟩
      replace hva := hva.step0 hb7
      replace hvx := hvx.step0 hb7
      replace hvy := hvy.step0 hb7
      obtain ⟨a0, a1, a2, a3, af, al⟩ := hva.facts
      obtain ⟨x0, x1, x2, x3, xf, xl⟩ := hvx.facts
      obtain ⟨y0, y1, y2, y3, yf, yl⟩ := hvy.facts
      have hkz := HK0.out
      go_wp2_with fail
      refine (fits_b v X false HF.out _).mono ?_
      rintro e w8 ⟨rfl, hb8⟩
      go_wp2_with fail
      go_ret
      exact ⟨rfl, by (repeat' (first | (with_reducible exact Below.refl _ _) | (with_reducible refine below_drewN ?_ _) | (with_reducible refine Below.drew ?_) | (with_reducible refine Below.alloc ?_ ?_ _) | (with_reducible refine Below.setCell ?_ ?_ _) | (with_reducible refine Below.trans ?_ (Below.mono (by with_reducible assumption) ?_)) | omega | (simp only [World.size_alloc, World.size_setCell, World.size_drew, Go.Proofs.YthhjdebpbkkpbaaDoor.World.size_drewN] at *; omega) | (with_reducible refine Below.size (B := 0) ?_)))⟩

set_option maxRecDepth 100000 in
set_option maxHeartbeats 3200000 in
theorem scale_over (s : Nat → Addr) (v : V4) (n : Int) (w : World) (hs : Sent s w) (k : Nat) (hk : k ≤ 16) (ek : wrap64 ((IntKind.u64.wrap n).tmod 17) = (k : Int)) (p : Nat) (hv : goodV v = true) (hsc : scaleR v k = (⟨0, 0, 0, 0⟩, 4)) (hR : sumR (List.replicate k v) = (⟨0, 0, 0, 0⟩, 4, p)) :
    Calls Tryd.prog 6 #[.agg #[.int .i64 v.a, .int .i64 v.b, .int .i64 v.c, .int .i64 v.d], .int .i64 n] w fun e w' => e = .returned (.bool true) ∧ Below w.heap.size w w' := by
  have hE := eqV
  have EK := Lib.hid ek; clear ek
  have HV := Lib.hid hv; clear hv
  have HSC := Lib.hid hsc; clear hsc
  have HR := Lib.hid hR; clear hR
  go_enter Tryd.func6, Tryd.ntmps6
  go_wp2_with fail
  refine (awake_c s _ (hs.below (B := w.heap.size) (by (repeat' (first | (with_reducible exact Below.refl _ _) | (with_reducible refine below_drewN ?_ _) | (with_reducible refine Below.drew ?_) | (with_reducible refine Below.alloc ?_ ?_ _) | (with_reducible refine Below.setCell ?_ ?_ _) | (with_reducible refine Below.trans ?_ (Below.mono (by with_reducible assumption) ?_)) | omega | (simp only [World.size_alloc, World.size_setCell, World.size_drew, Go.Proofs.YthhjdebpbkkpbaaDoor.World.size_drewN] at *; omega) | (with_reducible refine Below.size (B := 0) ?_)))) (Nat.le_refl _))).mono ?_
  rintro e w1 ⟨rfl, hb1⟩
  have Va : Vb w1 w.heap.size v := (Vb.new w v).step0 hb1
  obtain ⟨a0, a1, a2, a3, af, al⟩ := Va.facts
  go_wp2_with fail
  rw [EK.out]
  refine (scale_c s v k _ (hs.below (B := w.heap.size) (by (repeat' (first | (with_reducible exact Below.refl _ _) | (with_reducible refine below_drewN ?_ _) | (with_reducible refine Below.drew ?_) | (with_reducible refine Below.alloc ?_ ?_ _) | (with_reducible refine Below.setCell ?_ ?_ _) | (with_reducible refine Below.trans ?_ (Below.mono (by with_reducible assumption) ?_)) | omega | (simp only [World.size_alloc, World.size_setCell, World.size_drew, Go.Proofs.YthhjdebpbkkpbaaDoor.World.size_drewN] at *; omega) | (with_reducible refine Below.size (B := 0) ?_)))) (Nat.le_refl _))).mono ?_
  rintro e w2 ⟨rfl, hb2⟩
  rw [HSC.out, show errV s 4 = .iface 83 (.pointer (some (s 3))) from rfl]
  simp only
  clear a0 a1 a2 a3 af al
  replace Va := Va.step0 hb2
  go_wp2_with fail
  have hgx : w.heap.size < w2.heap.size := lt_of_row Va
  have hww2 : w.heap.size + 1 ≤ w2.heap.size + 1 := by omega
  go_loopw [8, 9] (fun sl i wr => LRel w v ⟨0, 0, 0, 0⟩ k (w2.heap.size + 1) w2.heap.size sl i wr) (fun _ i _ => k - (intOf i).toNat)
  case atStart =>
    refine ⟨0, _, 0, Nat.zero_le _, rfl, rfl, ⟨rfl, .inr ⟨w2.heap.size + 1, 0, #[], rfl, Nat.le_refl _, ?_, by omega, by unfold maxLen; omega, rfl, rfl⟩⟩, by (repeat' (first | (with_reducible exact Below.refl _ _) | (with_reducible refine below_drewN ?_ _) | (with_reducible refine Below.drew ?_) | (with_reducible refine Below.alloc ?_ ?_ _) | (with_reducible refine Below.setCell ?_ ?_ _) | (with_reducible refine Below.trans ?_ (Below.mono (by with_reducible assumption) ?_)) | omega | (simp only [World.size_alloc, World.size_setCell, World.size_drew, Go.Proofs.YthhjdebpbkkpbaaDoor.World.size_drewN] at *; omega) | (with_reducible refine Below.size (B := 0) ?_))), by simp, (Va.alloc _).alloc _, (Vb.new w2 ⟨0, 0, 0, 0⟩).alloc _⟩
    have := heap_alloc_new (w2.alloc (.cells #[.int .i64 0, .int .i64 0, .int .i64 0, .int .i64 0] 23)) (.cells #[] 23)
    rw [World.size_alloc] at this
    exact this
  case round =>
    obtain ⟨j, A, c, hj, rfl, rfl, hown, hb, hB, hva, hvx⟩ := hrel
    by_cases hlt : j < k
    · obtain ⟨c0, c1, c2, c3, cf, cl⟩ := hva.facts
      obtain ⟨i0, hi, hz0, hz1, hz2⟩ := info_parts Tryd.infoV
      have hob := own_ge hown
      go_wp2_with (first | (at_builtin; refine wpList_append_own _ rfl _ _ 37 rfl (w2.heap.size + 1) 23 i0 _ 4 32 Tryd.underlying37 hi hz0 hz1 hz2 rfl (by decide) _ _ _ rfl (hown.alloc _) ⟨wr.heap.size, 0, none⟩ 1 1 [Value.int .i64 v.a, .int .i64 v.b, .int .i64 v.c, .int .i64 v.d] rfl rfl ?c1 ?c2 ?c3 ?c4 ?c5 ?_))
      case c1 => intro jj u hu; rw [add0_, World.cell?_alloc_at _ _ _ _ rfl]; simpa using hu
      case c2 => intro u hu; simp only [List.mem_cons, List.not_mem_nil, or_false] at hu; rcases hu with rfl | rfl | rfl | rfl <;> rfl
      case c3 => unfold maxLen; omega
      case c4 => omega
      case c5 => rw [World.size_alloc]; omega
      intro v' w3 hown' hgrow _
      rcases hown'.2 with ⟨_, h0⟩ | ⟨g, cap, cur, rfl, hrest⟩
      · exact absurd h0 (by omega)
      clear hrest c0 c1 c2 c3 cf cl
      rw [rowsV_succ] at hown'
      have hb' : Below w.heap.size w w3 := (hb.alloc hb.size _).grown hgrow (by rw [World.size_alloc]; have := hb.size; omega) (fun k' hk' => by have := hob k' hk'; omega)
      have hsz : wr.heap.size + 1 ≤ w3.heap.size := by have := hgrow.size; rwa [World.size_alloc] at this
      have hva' : Vb w3 w.heap.size v := (hva.alloc _).grown hgrow (fun k' hk' => by have := hob k' hk'; omega)
      have hvx' : Vb w3 w2.heap.size ⟨0, 0, 0, 0⟩ := (hvx.alloc _).grown hgrow (fun k' hk' => by have := hob k' hk'; omega)
      have HO := Lib.hid hown'; clear hown'
      clear hob
      go_wp2_with fail
      go_roundw
      case rel => exact ⟨j + 1, _, _, by omega, by go_num, rfl, HO.out, hb', by omega, hva', hvx'⟩
      case measure => simp [intOf]; omega
    · obtain rfl : k = j := by omega
      have HVR := Lib.hid (own_vrow hown)
      clear hown
      go_wp2_with fail
      refine (sum_n s A k c (List.replicate k v) _ (hs.below (B := w.heap.size) (by (repeat' (first | (with_reducible exact Below.refl _ _) | (with_reducible refine below_drewN ?_ _) | (with_reducible refine Below.drew ?_) | (with_reducible refine Below.alloc ?_ ?_ _) | (with_reducible refine Below.setCell ?_ ?_ _) | (with_reducible refine Below.trans ?_ (Below.mono (by with_reducible assumption) ?_)) | omega | (simp only [World.size_alloc, World.size_setCell, World.size_drew, Go.Proofs.YthhjdebpbkkpbaaDoor.World.size_drewN] at *; omega) | (with_reducible refine Below.size (B := 0) ?_)))) (Nat.le_refl _)) (List.length_replicate) HVR.out (by omega)).mono ?_
      rintro e w4 ⟨hb4, h0⟩
      rw [HR.out] at h0
      rcases h0 with ⟨hk1, _⟩ | ⟨_, _, _, b, rfl, _, g0, _, g2⟩
      · cases hk1
      have hbl := lt_of_cell g0
      have G2 := Lib.hid g2
      clear g0 g2
      replace hva := hva.step0 hb4
      replace hvx := hvx.step0 hb4
      obtain ⟨a0, a1, a2, a3, af, al⟩ := hva.facts
      go_wp2_with fail
      refine (good_c v _).mono ?_
      rintro e w5 ⟨rfl, hb5⟩
      rw [HV.out]
      have k5 : Hid (Below w4.heap.size w4 w5) := Lib.hid (by (repeat' (first | (with_reducible exact Below.refl _ _) | (with_reducible refine below_drewN ?_ _) | (with_reducible refine Below.drew ?_) | (with_reducible refine Below.alloc ?_ ?_ _) | (with_reducible refine Below.setCell ?_ ?_ _) | (with_reducible refine Below.trans ?_ (Below.mono (by with_reducible assumption) ?_)) | omega | (simp only [World.size_alloc, World.size_setCell, World.size_drew, Go.Proofs.YthhjdebpbkkpbaaDoor.World.size_drewN] at *; omega) | (with_reducible refine Below.size (B := 0) ?_))))
      have hvy := Vb.fresh ⟨0, 0, 0, 0⟩ hb5
      replace hva := hva.step hb5
      replace hvx := hvx.step hb5
      clear a0 a1 a2 a3 af al
      go_wp2_with fail
      refine (kind_any s 4 (.iface 83 (.pointer (some (s 3)))) _ (hs.below (B := w.heap.size) (by (repeat' (first | (with_reducible exact Below.refl _ _) | (with_reducible refine below_drewN ?_ _) | (with_reducible refine Below.drew ?_) | (with_reducible refine Below.alloc ?_ ?_ _) | (with_reducible refine Below.setCell ?_ ?_ _) | (with_reducible refine Below.trans ?_ (Below.mono (by with_reducible assumption) ?_)) | omega | (simp only [World.size_alloc, World.size_setCell, World.size_drew, Go.Proofs.YthhjdebpbkkpbaaDoor.World.size_drewN] at *; omega) | (with_reducible refine Below.size (B := 0) ?_)))) (Nat.le_refl _)) (.inr ⟨by omega, by omega, .inl rfl⟩)).mono ?_
      rintro e w6 ⟨rfl, hb6⟩
      have k6 : Hid (Below w4.heap.size w4 w6) := Lib.hid (by (repeat' (first | (with_reducible exact Below.refl _ _) | (with_reducible refine below_drewN ?_ _) | (with_reducible refine Below.drew ?_) | (with_reducible refine Below.alloc ?_ ?_ _) | (with_reducible refine Below.setCell ?_ ?_ _) | (with_reducible refine Below.trans ?_ (Below.mono (by with_reducible assumption) ?_)) | omega | (simp only [World.size_alloc, World.size_setCell, World.size_drew, Go.Proofs.YthhjdebpbkkpbaaDoor.World.size_drewN] at *; omega) | (with_reducible refine Below.size (B := 0) ?_))))
      replace hvx := hvx.step0 hb6
      replace hvy := hvy.step0 hb6
      go_wp2_with fail
      refine (kind_any s 4 (.iface 41 (.pointer (some ⟨b, 0, none⟩))) _ (hs.below (B := w.heap.size) (by (repeat' (first | (with_reducible exact Below.refl _ _) | (with_reducible refine below_drewN ?_ _) | (with_reducible refine Below.drew ?_) | (with_reducible refine Below.alloc ?_ ?_ _) | (with_reducible refine Below.setCell ?_ ?_ _) | (with_reducible refine Below.trans ?_ (Below.mono (by with_reducible assumption) ?_)) | omega | (simp only [World.size_alloc, World.size_setCell, World.size_drew, Go.Proofs.YthhjdebpbkkpbaaDoor.World.size_drewN] at *; omega) | (with_reducible refine Below.size (B := 0) ?_)))) (Nat.le_refl _)) (.inr ⟨by omega, by omega, .inr ⟨b, 0, rfl, (k6.out.cell (p := ⟨b, 2, none⟩) hbl).trans G2.out⟩⟩)).mono ?_
      rintro e w7 ⟨rfl, hb7⟩
      replace hvx := hvx.step0 hb7
      replace hvy := hvy.step0 hb7
      obtain ⟨x0, x1, x2, x3, xf, xl⟩ := hvx.facts
      obtain ⟨y0, y1, y2, y3, yf, yl⟩ := hvy.facts
      go_wp2_with fail
      go_ret
      exact ⟨rfl, by (repeat' (first | (with_reducible exact Below.refl _ _) | (with_reducible refine below_drewN ?_ _) | (with_reducible refine Below.drew ?_) | (with_reducible refine Below.alloc ?_ ?_ _) | (with_reducible refine Below.setCell ?_ ?_ _) | (with_reducible refine Below.trans ?_ (Below.mono (by with_reducible assumption) ?_)) | omega | (simp only [World.size_alloc, World.size_setCell, World.size_drew, Go.Proofs.YthhjdebpbkkpbaaDoor.World.size_drewN] at *; omega) | (with_reducible refine Below.size (B := 0) ?_)))⟩

set_option maxRecDepth 100000 in
set_option maxHeartbeats 3200000 in
theorem scale_badk (s : Nat → Addr) (v : V4) (n : Int) (w : World) (hs : Sent s w) (k : Nat) (hk : k ≤ 16) (ek : wrap64 ((IntKind.u64.wrap n).tmod 17) = (k : Int)) (hv : goodV v = false) (hsc : scaleR v k = (⟨0, 0, 0, 0⟩, 1)) (hR : sumR (List.replicate k v) = (⟨0, 0, 0, 0⟩, 1, 0)) (hk0 : ((k : Int) == 0) = false) :
    Calls Tryd.prog 6 #[.agg #[.int .i64 v.a, .int .i64 v.b, .int .i64 v.c, .int .i64 v.d], .int .i64 n] w fun e w' => e = .returned (.bool true) ∧ Below w.heap.size w w' := by
  have hE := eqV
  have EK := Lib.hid ek; clear ek
  have HV := Lib.hid hv; clear hv
  have HSC := Lib.hid hsc; clear hsc
  have HR := Lib.hid hR; clear hR
  have HK0 := Lib.hid hk0; clear hk0
  go_enter Tryd.func6, Tryd.ntmps6
  go_wp2_with fail
  refine (awake_c s _ (hs.below (B := w.heap.size) (by (repeat' (first | (with_reducible exact Below.refl _ _) | (with_reducible refine below_drewN ?_ _) | (with_reducible refine Below.drew ?_) | (with_reducible refine Below.alloc ?_ ?_ _) | (with_reducible refine Below.setCell ?_ ?_ _) | (with_reducible refine Below.trans ?_ (Below.mono (by with_reducible assumption) ?_)) | omega | (simp only [World.size_alloc, World.size_setCell, World.size_drew, Go.Proofs.YthhjdebpbkkpbaaDoor.World.size_drewN] at *; omega) | (with_reducible refine Below.size (B := 0) ?_)))) (Nat.le_refl _))).mono ?_
  rintro e w1 ⟨rfl, hb1⟩
  have Va : Vb w1 w.heap.size v := (Vb.new w v).step0 hb1
  obtain ⟨a0, a1, a2, a3, af, al⟩ := Va.facts
  go_wp2_with fail
  rw [EK.out]
  refine (scale_c s v k _ (hs.below (B := w.heap.size) (by (repeat' (first | (with_reducible exact Below.refl _ _) | (with_reducible refine below_drewN ?_ _) | (with_reducible refine Below.drew ?_) | (with_reducible refine Below.alloc ?_ ?_ _) | (with_reducible refine Below.setCell ?_ ?_ _) | (with_reducible refine Below.trans ?_ (Below.mono (by with_reducible assumption) ?_)) | omega | (simp only [World.size_alloc, World.size_setCell, World.size_drew, Go.Proofs.YthhjdebpbkkpbaaDoor.World.size_drewN] at *; omega) | (with_reducible refine Below.size (B := 0) ?_)))) (Nat.le_refl _))).mono ?_
  rintro e w2 ⟨rfl, hb2⟩
  rw [HSC.out, show errV s 1 = .iface 83 (.pointer (some (s 0))) from rfl]
  simp only
  clear a0 a1 a2 a3 af al
  replace Va := Va.step0 hb2
  go_wp2_with fail
  have hgx : w.heap.size < w2.heap.size := lt_of_row Va
  have hww2 : w.heap.size + 1 ≤ w2.heap.size + 1 := by omega
  go_loopw [8, 9] (fun sl i wr => LRel w v ⟨0, 0, 0, 0⟩ k (w2.heap.size + 1) w2.heap.size sl i wr) (fun _ i _ => k - (intOf i).toNat)
  case atStart =>
    refine ⟨0, _, 0, Nat.zero_le _, rfl, rfl, ⟨rfl, .inr ⟨w2.heap.size + 1, 0, #[], rfl, Nat.le_refl _, ?_, by omega, by unfold maxLen; omega, rfl, rfl⟩⟩, by (repeat' (first | (with_reducible exact Below.refl _ _) | (with_reducible refine below_drewN ?_ _) | (with_reducible refine Below.drew ?_) | (with_reducible refine Below.alloc ?_ ?_ _) | (with_reducible refine Below.setCell ?_ ?_ _) | (with_reducible refine Below.trans ?_ (Below.mono (by with_reducible assumption) ?_)) | omega | (simp only [World.size_alloc, World.size_setCell, World.size_drew, Go.Proofs.YthhjdebpbkkpbaaDoor.World.size_drewN] at *; omega) | (with_reducible refine Below.size (B := 0) ?_))), by simp, (Va.alloc _).alloc _, (Vb.new w2 ⟨0, 0, 0, 0⟩).alloc _⟩
    have := heap_alloc_new (w2.alloc (.cells #[.int .i64 0, .int .i64 0, .int .i64 0, .int .i64 0] 23)) (.cells #[] 23)
    rw [World.size_alloc] at this
    exact this
  case round =>
    obtain ⟨j, A, c, hj, rfl, rfl, hown, hb, hB, hva, hvx⟩ := hrel
    by_cases hlt : j < k
    · obtain ⟨c0, c1, c2, c3, cf, cl⟩ := hva.facts
      obtain ⟨i0, hi, hz0, hz1, hz2⟩ := info_parts Tryd.infoV
      have hob := own_ge hown
      go_wp2_with (first | (at_builtin; refine wpList_append_own _ rfl _ _ 37 rfl (w2.heap.size + 1) 23 i0 _ 4 32 Tryd.underlying37 hi hz0 hz1 hz2 rfl (by decide) _ _ _ rfl (hown.alloc _) ⟨wr.heap.size, 0, none⟩ 1 1 [Value.int .i64 v.a, .int .i64 v.b, .int .i64 v.c, .int .i64 v.d] rfl rfl ?c1 ?c2 ?c3 ?c4 ?c5 ?_))
      case c1 => intro jj u hu; rw [add0_, World.cell?_alloc_at _ _ _ _ rfl]; simpa using hu
      case c2 => intro u hu; simp only [List.mem_cons, List.not_mem_nil, or_false] at hu; rcases hu with rfl | rfl | rfl | rfl <;> rfl
      case c3 => unfold maxLen; omega
      case c4 => omega
      case c5 => rw [World.size_alloc]; omega
      intro v' w3 hown' hgrow _
      rcases hown'.2 with ⟨_, h0⟩ | ⟨g, cap, cur, rfl, hrest⟩
      · exact absurd h0 (by omega)
      clear hrest c0 c1 c2 c3 cf cl
      rw [rowsV_succ] at hown'
      have hb' : Below w.heap.size w w3 := (hb.alloc hb.size _).grown hgrow (by rw [World.size_alloc]; have := hb.size; omega) (fun k' hk' => by have := hob k' hk'; omega)
      have hsz : wr.heap.size + 1 ≤ w3.heap.size := by have := hgrow.size; rwa [World.size_alloc] at this
      have hva' : Vb w3 w.heap.size v := (hva.alloc _).grown hgrow (fun k' hk' => by have := hob k' hk'; omega)
      have hvx' : Vb w3 w2.heap.size ⟨0, 0, 0, 0⟩ := (hvx.alloc _).grown hgrow (fun k' hk' => by have := hob k' hk'; omega)
      have HO := Lib.hid hown'; clear hown'
      clear hob
      go_wp2_with fail
      go_roundw
      case rel => exact ⟨j + 1, _, _, by omega, by go_num, rfl, HO.out, hb', by omega, hva', hvx'⟩
      case measure => simp [intOf]; omega
    · obtain rfl : k = j := by omega
      have HVR := Lib.hid (own_vrow hown)
      clear hown
      go_wp2_with fail
      refine (sum_n s A k c (List.replicate k v) _ (hs.below (B := w.heap.size) (by (repeat' (first | (with_reducible exact Below.refl _ _) | (with_reducible refine below_drewN ?_ _) | (with_reducible refine Below.drew ?_) | (with_reducible refine Below.alloc ?_ ?_ _) | (with_reducible refine Below.setCell ?_ ?_ _) | (with_reducible refine Below.trans ?_ (Below.mono (by with_reducible assumption) ?_)) | omega | (simp only [World.size_alloc, World.size_setCell, World.size_drew, Go.Proofs.YthhjdebpbkkpbaaDoor.World.size_drewN] at *; omega) | (with_reducible refine Below.size (B := 0) ?_)))) (Nat.le_refl _)) (List.length_replicate) HVR.out (by omega)).mono ?_
      rintro e w4 ⟨hb4, h0⟩
      rw [HR.out] at h0
      rcases h0 with ⟨hk1, _⟩ | ⟨_, _, _, b, rfl, _, g0, _, g2⟩
      · cases hk1
      have hbl := lt_of_cell g0
      have G2 := Lib.hid g2
      clear g0 g2
      replace hva := hva.step0 hb4
      replace hvx := hvx.step0 hb4
      obtain ⟨a0, a1, a2, a3, af, al⟩ := hva.facts
      go_wp2_with fail
      refine (good_c v _).mono ?_
      rintro e w5 ⟨rfl, hb5⟩
      rw [HV.out]
      have k5 : Hid (Below w4.heap.size w4 w5) := Lib.hid (by (repeat' (first | (with_reducible exact Below.refl _ _) | (with_reducible refine below_drewN ?_ _) | (with_reducible refine Below.drew ?_) | (with_reducible refine Below.alloc ?_ ?_ _) | (with_reducible refine Below.setCell ?_ ?_ _) | (with_reducible refine Below.trans ?_ (Below.mono (by with_reducible assumption) ?_)) | omega | (simp only [World.size_alloc, World.size_setCell, World.size_drew, Go.Proofs.YthhjdebpbkkpbaaDoor.World.size_drewN] at *; omega) | (with_reducible refine Below.size (B := 0) ?_))))
      have hvy := Vb.fresh ⟨0, 0, 0, 0⟩ hb5
      replace hva := hva.step hb5
      replace hvx := hvx.step hb5
      clear a0 a1 a2 a3 af al
      go_wp2_with fail
      refine (kind_any s 1 (.iface 83 (.pointer (some (s 0)))) _ (hs.below (B := w.heap.size) (by (repeat' (first | (with_reducible exact Below.refl _ _) | (with_reducible refine below_drewN ?_ _) | (with_reducible refine Below.drew ?_) | (with_reducible refine Below.alloc ?_ ?_ _) | (with_reducible refine Below.setCell ?_ ?_ _) | (with_reducible refine Below.trans ?_ (Below.mono (by with_reducible assumption) ?_)) | omega | (simp only [World.size_alloc, World.size_setCell, World.size_drew, Go.Proofs.YthhjdebpbkkpbaaDoor.World.size_drewN] at *; omega) | (with_reducible refine Below.size (B := 0) ?_)))) (Nat.le_refl _)) (.inr ⟨by omega, by omega, .inl rfl⟩)).mono ?_
      rintro e w6 ⟨rfl, hb6⟩
      have hkz := HK0.out
      go_wp2_with fail
      go_ret
      exact ⟨rfl, by (repeat' (first | (with_reducible exact Below.refl _ _) | (with_reducible refine below_drewN ?_ _) | (with_reducible refine Below.drew ?_) | (with_reducible refine Below.alloc ?_ ?_ _) | (with_reducible refine Below.setCell ?_ ?_ _) | (with_reducible refine Below.trans ?_ (Below.mono (by with_reducible assumption) ?_)) | omega | (simp only [World.size_alloc, World.size_setCell, World.size_drew, Go.Proofs.YthhjdebpbkkpbaaDoor.World.size_drewN] at *; omega) | (with_reducible refine Below.size (B := 0) ?_)))⟩

set_option maxRecDepth 100000 in
set_option maxHeartbeats 3200000 in
theorem scale_bad0 (s : Nat → Addr) (v : V4) (n : Int) (w : World) (hs : Sent s w) (k : Nat) (hk : k ≤ 16) (ek : wrap64 ((IntKind.u64.wrap n).tmod 17) = (k : Int)) (hv : goodV v = false) (hsc : scaleR v k = (⟨0, 0, 0, 0⟩, 1)) (hR : sumR (List.replicate k v) = (⟨0, 0, 0, 0⟩, 0, 0)) (hk0 : ((k : Int) == 0) = true) :
    Calls Tryd.prog 6 #[.agg #[.int .i64 v.a, .int .i64 v.b, .int .i64 v.c, .int .i64 v.d], .int .i64 n] w fun e w' => e = .returned (.bool true) ∧ Below w.heap.size w w' := by
  have hE := eqV
  have EK := Lib.hid ek; clear ek
  have HV := Lib.hid hv; clear hv
  have HSC := Lib.hid hsc; clear hsc
  have HR := Lib.hid hR; clear hR
  have HK0 := Lib.hid hk0; clear hk0
  go_enter Tryd.func6, Tryd.ntmps6
  go_wp2_with fail
  refine (awake_c s _ (hs.below (B := w.heap.size) (by (repeat' (first | (with_reducible exact Below.refl _ _) | (with_reducible refine below_drewN ?_ _) | (with_reducible refine Below.drew ?_) | (with_reducible refine Below.alloc ?_ ?_ _) | (with_reducible refine Below.setCell ?_ ?_ _) | (with_reducible refine Below.trans ?_ (Below.mono (by with_reducible assumption) ?_)) | omega | (simp only [World.size_alloc, World.size_setCell, World.size_drew, Go.Proofs.YthhjdebpbkkpbaaDoor.World.size_drewN] at *; omega) | (with_reducible refine Below.size (B := 0) ?_)))) (Nat.le_refl _))).mono ?_
  rintro e w1 ⟨rfl, hb1⟩
  have Va : Vb w1 w.heap.size v := (Vb.new w v).step0 hb1
  obtain ⟨a0, a1, a2, a3, af, al⟩ := Va.facts
  go_wp2_with fail
  rw [EK.out]
  refine (scale_c s v k _ (hs.below (B := w.heap.size) (by (repeat' (first | (with_reducible exact Below.refl _ _) | (with_reducible refine below_drewN ?_ _) | (with_reducible refine Below.drew ?_) | (with_reducible refine Below.alloc ?_ ?_ _) | (with_reducible refine Below.setCell ?_ ?_ _) | (with_reducible refine Below.trans ?_ (Below.mono (by with_reducible assumption) ?_)) | omega | (simp only [World.size_alloc, World.size_setCell, World.size_drew, Go.Proofs.YthhjdebpbkkpbaaDoor.World.size_drewN] at *; omega) | (with_reducible refine Below.size (B := 0) ?_)))) (Nat.le_refl _))).mono ?_
  rintro e w2 ⟨rfl, hb2⟩
  rw [HSC.out, show errV s 1 = .iface 83 (.pointer (some (s 0))) from rfl]
  simp only
  clear a0 a1 a2 a3 af al
  replace Va := Va.step0 hb2
  go_wp2_with fail
  have hgx : w.heap.size < w2.heap.size := lt_of_row Va
  have hww2 : w.heap.size + 1 ≤ w2.heap.size + 1 := by omega
  go_loopw [8, 9] (fun sl i wr => LRel w v ⟨0, 0, 0, 0⟩ k (w2.heap.size + 1) w2.heap.size sl i wr) (fun _ i _ => k - (intOf i).toNat)
  case atStart =>
    refine ⟨0, _, 0, Nat.zero_le _, rfl, rfl, ⟨rfl, .inr ⟨w2.heap.size + 1, 0, #[], rfl, Nat.le_refl _, ?_, by omega, by unfold maxLen; omega, rfl, rfl⟩⟩, by (repeat' (first | (with_reducible exact Below.refl _ _) | (with_reducible refine below_drewN ?_ _) | (with_reducible refine Below.drew ?_) | (with_reducible refine Below.alloc ?_ ?_ _) | (with_reducible refine Below.setCell ?_ ?_ _) | (with_reducible refine Below.trans ?_ (Below.mono (by with_reducible assumption) ?_)) | omega | (simp only [World.size_alloc, World.size_setCell, World.size_drew, Go.Proofs.YthhjdebpbkkpbaaDoor.World.size_drewN] at *; omega) | (with_reducible refine Below.size (B := 0) ?_))), by simp, (Va.alloc _).alloc _, (Vb.new w2 ⟨0, 0, 0, 0⟩).alloc _⟩
    have := heap_alloc_new (w2.alloc (.cells #[.int .i64 0, .int .i64 0, .int .i64 0, .int .i64 0] 23)) (.cells #[] 23)
    rw [World.size_alloc] at this
    exact this
  case round =>
    obtain ⟨j, A, c, hj, rfl, rfl, hown, hb, hB, hva, hvx⟩ := hrel
    by_cases hlt : j < k
    · obtain ⟨c0, c1, c2, c3, cf, cl⟩ := hva.facts
      obtain ⟨i0, hi, hz0, hz1, hz2⟩ := info_parts Tryd.infoV
      have hob := own_ge hown
      go_wp2_with (first | (at_builtin; refine wpList_append_own _ rfl _ _ 37 rfl (w2.heap.size + 1) 23 i0 _ 4 32 Tryd.underlying37 hi hz0 hz1 hz2 rfl (by decide) _ _ _ rfl (hown.alloc _) ⟨wr.heap.size, 0, none⟩ 1 1 [Value.int .i64 v.a, .int .i64 v.b, .int .i64 v.c, .int .i64 v.d] rfl rfl ?c1 ?c2 ?c3 ?c4 ?c5 ?_))
      case c1 => intro jj u hu; rw [add0_, World.cell?_alloc_at _ _ _ _ rfl]; simpa using hu
      case c2 => intro u hu; simp only [List.mem_cons, List.not_mem_nil, or_false] at hu; rcases hu with rfl | rfl | rfl | rfl <;> rfl
      case c3 => unfold maxLen; omega
      case c4 => omega
      case c5 => rw [World.size_alloc]; omega
      intro v' w3 hown' hgrow _
      rcases hown'.2 with ⟨_, h0⟩ | ⟨g, cap, cur, rfl, hrest⟩
      · exact absurd h0 (by omega)
      clear hrest c0 c1 c2 c3 cf cl
      rw [rowsV_succ] at hown'
      have hb' : Below w.heap.size w w3 := (hb.alloc hb.size _).grown hgrow (by rw [World.size_alloc]; have := hb.size; omega) (fun k' hk' => by have := hob k' hk'; omega)
      have hsz : wr.heap.size + 1 ≤ w3.heap.size := by have := hgrow.size; rwa [World.size_alloc] at this
      have hva' : Vb w3 w.heap.size v := (hva.alloc _).grown hgrow (fun k' hk' => by have := hob k' hk'; omega)
      have hvx' : Vb w3 w2.heap.size ⟨0, 0, 0, 0⟩ := (hvx.alloc _).grown hgrow (fun k' hk' => by have := hob k' hk'; omega)
      have HO := Lib.hid hown'; clear hown'
      clear hob
      go_wp2_with fail
      go_roundw
      case rel => exact ⟨j + 1, _, _, by omega, by go_num, rfl, HO.out, hb', by omega, hva', hvx'⟩
      case measure => simp [intOf]; omega
    · obtain rfl : k = j := by omega
      have HVR := Lib.hid (own_vrow hown)
      clear hown
      go_wp2_with fail
      refine (sum_n s A k c (List.replicate k v) _ (hs.below (B := w.heap.size) (by (repeat' (first | (with_reducible exact Below.refl _ _) | (with_reducible refine below_drewN ?_ _) | (with_reducible refine Below.drew ?_) | (with_reducible refine Below.alloc ?_ ?_ _) | (with_reducible refine Below.setCell ?_ ?_ _) | (with_reducible refine Below.trans ?_ (Below.mono (by with_reducible assumption) ?_)) | omega | (simp only [World.size_alloc, World.size_setCell, World.size_drew, Go.Proofs.YthhjdebpbkkpbaaDoor.World.size_drewN] at *; omega) | (with_reducible refine Below.size (B := 0) ?_)))) (Nat.le_refl _)) (List.length_replicate) HVR.out (by omega)).mono ?_
      rintro e w4 ⟨hb4, h0⟩
      rw [HR.out] at h0
      rcases h0 with ⟨_, rfl⟩ | ⟨hk0, _⟩
      rotate_left
      · cases hk0
      replace hva := hva.step0 hb4
      replace hvx := hvx.step0 hb4
      obtain ⟨a0, a1, a2, a3, af, al⟩ := hva.facts
      go_wp2_with fail
      refine (good_c v _).mono ?_
      rintro e w5 ⟨rfl, hb5⟩
      rw [HV.out]
      have hvy := Vb.fresh ⟨0, 0, 0, 0⟩ hb5
      replace hva := hva.step hb5
      replace hvx := hvx.step hb5
      clear a0 a1 a2 a3 af al
      go_wp2_with fail
      refine (kind_any s 1 (.iface 83 (.pointer (some (s 0)))) _ (hs.below (B := w.heap.size) (by (repeat' (first | (with_reducible exact Below.refl _ _) | (with_reducible refine below_drewN ?_ _) | (with_reducible refine Below.drew ?_) | (with_reducible refine Below.alloc ?_ ?_ _) | (with_reducible refine Below.setCell ?_ ?_ _) | (with_reducible refine Below.trans ?_ (Below.mono (by with_reducible assumption) ?_)) | omega | (simp only [World.size_alloc, World.size_setCell, World.size_drew, Go.Proofs.YthhjdebpbkkpbaaDoor.World.size_drewN] at *; omega) | (with_reducible refine Below.size (B := 0) ?_)))) (Nat.le_refl _)) (.inr ⟨by omega, by omega, .inl rfl⟩)).mono ?_
      rintro e w6 ⟨rfl, hb6⟩
      have hkz := HK0.out
      go_wp2_with fail
      go_ret
      exact ⟨rfl, by (repeat' (first | (with_reducible exact Below.refl _ _) | (with_reducible refine below_drewN ?_ _) | (with_reducible refine Below.drew ?_) | (with_reducible refine Below.alloc ?_ ?_ _) | (with_reducible refine Below.setCell ?_ ?_ _) | (with_reducible refine Below.trans ?_ (Below.mono (by with_reducible assumption) ?_)) | omega | (simp only [World.size_alloc, World.size_setCell, World.size_drew, Go.Proofs.YthhjdebpbkkpbaaDoor.World.size_drewN] at *; omega) | (with_reducible refine Below.size (B := 0) ?_)))⟩

theorem scale_walk (s : Nat → Addr) (v : V4) (n : Int) (w : World) (hs : Sent s w) (_hn : -9223372036854775808 ≤ n ∧ n ≤ 9223372036854775807) :
    Calls Tryd.prog 6 #[.agg #[.int .i64 v.a, .int .i64 v.b, .int .i64 v.c, .int .i64 v.d], .int .i64 n] w fun e w' => e = .returned (.bool true) ∧ Below w.heap.size w w' := by
  obtain ⟨k, hk, ek⟩ := k_of n
  cases hv : goodV v
  · have hsc : scaleR v k = (⟨0, 0, 0, 0⟩, 1) := scale_no1 hv
    by_cases h0 : k = 0
    · subst h0
      exact scale_bad0 s v n w hs 0 hk ek hv hsc rfl (by decide)
    · refine scale_badk s v n w hs k hk ek hv hsc ?_ (by rw [beq_eq_false_iff_ne]; omega)
      obtain ⟨m, rfl⟩ : ∃ m, k = m + 1 := ⟨k - 1, by omega⟩
      show sumGo (List.replicate (m + 1) v) ⟨0, 0, 0, 0⟩ 0 = _
      rw [List.replicate_succ, sumGo_err (by rw [add_no2 hv]; simp), add_no2 hv]
  · have hsc0 : scaleR v k = checkR (times v k) := scale_yes hv ⟨by omega, by omega⟩
    cases hz : goodV (times v k)
    · have hsc : scaleR v k = (⟨0, 0, 0, 0⟩, 4) := by rw [hsc0, checkR, hz]; rfl
      obtain ⟨p, hp⟩ := rep_no hv k hz k 0 (by omega) (by rw [times0]; exact good0)
      rw [times0, sumP_eq] at hp
      exact scale_over s v n w hs k hk ek p hv hsc hp
    · have hsc : scaleR v k = (times v k, 0) := by rw [hsc0, checkR, hz]; rfl
      have hp := rep_ok hv k hz k 0 (by omega)
      rw [times0, sumP_eq] at hp
      cases hF : fitsV v (times v k)
      · have h0 : k = 0 := by
          rcases Nat.eq_zero_or_pos k with h | h
          · exact h
          · rw [fits_times hv h] at hF; cases hF
        exact scale_ok_f s v n w hs k hk ek _ hv hsc hp hF (by rw [h0]; decide)
      · exact scale_ok_t s v n w hs k hk ek _ hv hsc hp hF
end Go.Proofs.YthhjdebpbkkpbaaDoor
