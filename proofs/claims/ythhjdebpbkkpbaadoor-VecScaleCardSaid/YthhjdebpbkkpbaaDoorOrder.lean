/- The walk of the law VecOrder: whatever the three vectors, it returns true. Condition: the package variables lie as the program's text lays them. -/
import Derived.Test.YthhjdebpbkkpbaaDoorSumW
import Derived.Test.YthhjdebpbkkpbaaDoorOrdM
import Derived.Deep.RegionWith
namespace Go.Proofs.YthhjdebpbkkpbaaDoor
open Go Go.RowKit

theorem sumP_eq : ∀ (zs : List V4) (t : V4) (i : Nat), sumP zs t i = sumGo zs t i
  | [], _, _ => rfl
  | z :: r, t, i => by
    by_cases h : (addR t z).2 = 0
    · rw [sumGo_ok h, ← sumP_eq r]; exact if_pos h
    · rw [sumGo_err h]; exact if_neg h
theorem sub_ok (s : Nat → Addr) (x y : V4) (w : World) (hs : Sent s w) (h : (subR x y).2 = 0) :
    Calls Tryd.prog 9 #[.agg #[.int .i64 x.a, .int .i64 x.b, .int .i64 x.c, .int .i64 x.d], .agg #[.int .i64 y.a, .int .i64 y.b, .int .i64 y.c, .int .i64 y.d]] w fun e w' => e = .returned (.tuple #[.agg #[.int .i64 ((subR x y).1).a, .int .i64 ((subR x y).1).b, .int .i64 ((subR x y).1).c, .int .i64 ((subR x y).1).d], .nilIface]) ∧ Below w.heap.size w w' := by
  have := sub_c s x y w hs
  rw [show errV s (subR x y).2 = .nilIface from if_pos h] at this
  exact this
theorem fits_b (x y : V4) (b : Bool) (hb : fitsV x y = b) (w : World) :
    Calls Tryd.prog 17 #[.agg #[.int .i64 x.a, .int .i64 x.b, .int .i64 x.c, .int .i64 x.d], .agg #[.int .i64 y.a, .int .i64 y.b, .int .i64 y.c, .int .i64 y.d]] w fun e w' => e = .returned (.bool b) ∧ Below w.heap.size w w' := by
  subst hb; exact fits_c x y w
theorem less_b (x y : V4) (b : Bool) (hb : lessV x y = b) (w : World) :
    Calls Tryd.prog 19 #[.agg #[.int .i64 x.a, .int .i64 x.b, .int .i64 x.c, .int .i64 x.d], .agg #[.int .i64 y.a, .int .i64 y.b, .int .i64 y.c, .int .i64 y.d]] w fun e w' => e = .returned (.bool b) ∧ Below w.heap.size w w' := by
  subst hb; exact less_c x y w

set_option maxRecDepth 100000 in
set_option maxHeartbeats 3200000 in
theorem order_err (s : Nat → Addr) (a b c : V4) (w : World) (hs : Sent s w) (K p K2 p2 : Nat) (hK : 0 < K) (hK2 : 0 < K2) (hR : sumR [a, b, c] = (⟨0, 0, 0, 0⟩, K, p)) (hR2 : sumR [c, a, b] = (⟨0, 0, 0, 0⟩, K2, p2)) :
    Calls Tryd.prog 5 #[.agg #[.int .i64 a.a, .int .i64 a.b, .int .i64 a.c, .int .i64 a.d], .agg #[.int .i64 b.a, .int .i64 b.b, .int .i64 b.c, .int .i64 b.d], .agg #[.int .i64 c.a, .int .i64 c.b, .int .i64 c.c, .int .i64 c.d]] w fun e w' => e = .returned (.bool true) ∧ Below w.heap.size w w' := by
  have HR := Lib.hid hR; clear hR
  have HR2 := Lib.hid hR2; clear hR2
  have hE := eqV
  go_enter Tryd.func5, Tryd.ntmps5
  go_wp2_with fail
  refine (awake_c s _ (hs.below (B := w.heap.size) (by (repeat' (first | (with_reducible exact Below.refl _ _) | (with_reducible refine below_drewN ?_ _) | (with_reducible refine Below.drew ?_) | (with_reducible refine Below.alloc ?_ ?_ _) | (with_reducible refine Below.setCell ?_ ?_ _) | (with_reducible refine Below.trans ?_ (Below.mono (by with_reducible assumption) ?_)) | omega | (simp only [World.size_alloc, World.size_setCell, World.size_drew, Go.Proofs.YthhjdebpbkkpbaaDoor.World.size_drewN] at *; omega) | (with_reducible refine Below.size (B := 0) ?_)))) (Nat.le_refl _))).mono ?_
  rintro e w1 ⟨rfl, hb1⟩
  have Va : Vb w1 w.heap.size a := (((Vb.new w a).alloc _).alloc _).step0 hb1
  have Vc : Vb w1 (w.heap.size + 1) b := ((Vb.new_at (by simp) b).alloc _).step0 hb1
  have Vd : Vb w1 (w.heap.size + 2) c := (Vb.new_at (by simp) c).step0 hb1
  obtain ⟨a0, a1, a2, a3, af, al⟩ := Va.facts
  obtain ⟨c0, c1, c2, c3, cf, cl⟩ := Vc.facts
  obtain ⟨d0, d1, d2, d3, df, dl⟩ := Vd.facts
  go_wp2_with fail
  refine (sum_three s _ a b c _ (hs.below (B := w.heap.size) (by (repeat' (first | (with_reducible exact Below.refl _ _) | (with_reducible refine below_drewN ?_ _) | (with_reducible refine Below.drew ?_) | (with_reducible refine Below.alloc ?_ ?_ _) | (with_reducible refine Below.setCell ?_ ?_ _) | (with_reducible refine Below.trans ?_ (Below.mono (by with_reducible assumption) ?_)) | omega | (simp only [World.size_alloc, World.size_setCell, World.size_drew, Go.Proofs.YthhjdebpbkkpbaaDoor.World.size_drewN] at *; omega) | (with_reducible refine Below.size (B := 0) ?_)))) (Nat.le_refl _)) (by simp)).mono ?_
  rintro e w2 ⟨hb2, h0⟩
  rw [HR.out] at h0
  rcases h0 with ⟨hk, _⟩ | ⟨_, _, _, b1, rfl, _, _, _, _⟩
  · exact absurd hk (by simp only; omega)
  clear a0 a1 a2 a3 af al c0 c1 c2 c3 cf cl d0 d1 d2 d3 df dl
  replace Va := Va.step hb2
  replace Vc := Vc.step hb2
  replace Vd := Vd.step hb2
  obtain ⟨a0, a1, a2, a3, af, al⟩ := Va.facts
  obtain ⟨c0, c1, c2, c3, cf, cl⟩ := Vc.facts
  obtain ⟨d0, d1, d2, d3, df, dl⟩ := Vd.facts
  go_wp2_with fail
  refine (sum_three s _ c a b _ (hs.below (B := w.heap.size) (by (repeat' (first | (with_reducible exact Below.refl _ _) | (with_reducible refine below_drewN ?_ _) | (with_reducible refine Below.drew ?_) | (with_reducible refine Below.alloc ?_ ?_ _) | (with_reducible refine Below.setCell ?_ ?_ _) | (with_reducible refine Below.trans ?_ (Below.mono (by with_reducible assumption) ?_)) | omega | (simp only [World.size_alloc, World.size_setCell, World.size_drew, Go.Proofs.YthhjdebpbkkpbaaDoor.World.size_drewN] at *; omega) | (with_reducible refine Below.size (B := 0) ?_)))) (Nat.le_refl _)) (by simp)).mono ?_
  rintro e w3 ⟨hb3, h0⟩
  rw [HR2.out] at h0
  rcases h0 with ⟨hk, _⟩ | ⟨_, _, _, b2, rfl, _, _, _, _⟩
  · exact absurd hk (by simp only; omega)
  clear a0 a1 a2 a3 af al c0 c1 c2 c3 cf cl d0 d1 d2 d3 df dl
  go_wp2_with fail
  go_quiet (fail)
  go_wp2_with fail
  go_ret
  exact ⟨rfl, by (repeat' (first | (with_reducible exact Below.refl _ _) | (with_reducible refine below_drewN ?_ _) | (with_reducible refine Below.drew ?_) | (with_reducible refine Below.alloc ?_ ?_ _) | (with_reducible refine Below.setCell ?_ ?_ _) | (with_reducible refine Below.trans ?_ (Below.mono (by with_reducible assumption) ?_)) | omega | (simp only [World.size_alloc, World.size_setCell, World.size_drew, Go.Proofs.YthhjdebpbkkpbaaDoor.World.size_drewN] at *; omega) | (with_reducible refine Below.size (B := 0) ?_)))⟩

theorem Vb.stepD {w w' : World} {g : Nat} {x : V4} {o : Obj} {n : Nat} (h : Vb w g x) (hb : Below ((w.alloc o).drewN n).heap.size ((w.alloc o).drewN n) w') : Vb w' g x :=
  Vb.below (w := (w.alloc o).drewN n) (h.alloc o) hb (lt_of_row (h.alloc o))
theorem Vb.freshD {w w' : World} {n : Nat} (x : V4) (hb : Below ((w.alloc (.cells #[.int .i64 x.a, .int .i64 x.b, .int .i64 x.c, .int .i64 x.d] 23)).drewN n).heap.size ((w.alloc (.cells #[.int .i64 x.a, .int .i64 x.b, .int .i64 x.c, .int .i64 x.d] 23)).drewN n) w') : Vb w' w.heap.size x :=
  Vb.below (w := (w.alloc (.cells #[.int .i64 x.a, .int .i64 x.b, .int .i64 x.c, .int .i64 x.d] 23)).drewN n) (Vb.new w x) hb (by show w.heap.size < (w.alloc _).heap.size; simp)
theorem sub_is (s : Nat → Addr) (x y u : V4) (w : World) (hs : Sent s w) (h : subR x y = (u, 0)) :
    Calls Tryd.prog 9 #[.agg #[.int .i64 x.a, .int .i64 x.b, .int .i64 x.c, .int .i64 x.d], .agg #[.int .i64 y.a, .int .i64 y.b, .int .i64 y.c, .int .i64 y.d]] w fun e w' => e = .returned (.tuple #[.agg #[.int .i64 u.a, .int .i64 u.b, .int .i64 u.c, .int .i64 u.d], .nilIface]) ∧ Below w.heap.size w w' := by
  have := sub_ok s x y w hs (by rw [h])
  rw [h] at this
  exact this
theorem add_is (s : Nat → Addr) (x y u : V4) (w : World) (hs : Sent s w) (h : addR x y = (u, 0)) :
    Calls Tryd.prog 8 #[.agg #[.int .i64 x.a, .int .i64 x.b, .int .i64 x.c, .int .i64 x.d], .agg #[.int .i64 y.a, .int .i64 y.b, .int .i64 y.c, .int .i64 y.d]] w fun e w' => e = .returned (.tuple #[.agg #[.int .i64 u.a, .int .i64 u.b, .int .i64 u.c, .int .i64 u.d], .nilIface]) ∧ Below w.heap.size w w' := by
  have := add_ok s x y w hs (by rw [h])
  rw [h] at this
  exact this

section
variable {P : Program} {md : Region.Mode} {ops : Array Oper} {Q : Exit → Act → World → Prop} {S : World → Prop}
theorem rg_take {fuel : Nat} {listed : Array Bool} {a : Act} {w : World} (i : Nat) (d : Option Tmp) (v : Value) (hs : Region.noSelect ops = true) (hf : Region.free md ops listed i = true) (hr : (Region.ready md ops listed).contains i = true)
    (hQ : ∀ c a w, Q (.panic c) (a.put d v) w → Q (.panic c) a w) (hd : (ops[i]?).map (·.dst) = some d) (hw : (ops[i]?).map (fun o => Region.wanted o (yielded ops a.tmps)) = some true)
    (hy : ∀ w, S w → ∀ o, ops[i]? = some o → (execOp a.eval o).run P w = .ok (.value v) w) (hS : S w) (h : wpAnyH P md ops Q S fuel (listed.setIfInBounds i true) (a.put d v) w) : wpAnyH P md ops Q S (fuel + 1) listed a w := by
  obtain ⟨o, ho, rfl⟩ := Option.map_eq_some_iff.1 hd
  obtain ⟨o', ho', hw'⟩ := Option.map_eq_some_iff.1 hw
  obtain rfl := Option.some.inj (ho.symm.trans ho')
  exact wpAnyH_take (i := i) (oi := o) (v := v) ho hs hf hr hQ (Or.inl ⟨hw', fun w hw => hy w hw o ho⟩) hS h
theorem rg_skip {fuel : Nat} {listed : Array Bool} {a : Act} {w : World} (i : Nat) (d : Option Tmp) (hs : Region.noSelect ops = true) (hf : Region.free md ops listed i = true) (hr : (Region.ready md ops listed).contains i = true)
    (hQ : ∀ c a w, Q (.panic c) (a.put d undef) w → Q (.panic c) a w) (hd : (ops[i]?).map (·.dst) = some d) (hw : (ops[i]?).map (fun o => Region.wanted o (yielded ops a.tmps)) = some false)
    (hS : S w) (h : wpAnyH P md ops Q S fuel (listed.setIfInBounds i true) (a.put d undef) w) : wpAnyH P md ops Q S (fuel + 1) listed a w := by
  obtain ⟨o, ho, rfl⟩ := Option.map_eq_some_iff.1 hd
  obtain ⟨o', ho', hw'⟩ := Option.map_eq_some_iff.1 hw
  obtain rfl := Option.some.inj (ho.symm.trans ho')
  exact wpAnyH_take (i := i) (oi := o) (v := undef) ho hs hf hr hQ (Or.inr ⟨hw', rfl⟩) hS h
theorem rg_one {fuel : Nat} {listed : Array Bool} {a : Act} {w : World} (i : Nat) (hr : Region.ready md ops listed = [i]) (hsome : (ops[i]?).isSome = true)
    (h : ∀ o, ops[i]? = some o → ∀ K' : Act → World → Prop, Shut (∀ a w, S w → (S w → wpAnyH P md ops Q S fuel (listed.setIfInBounds i true) a w) → K' a w) → if Region.wanted o (yielded ops a.tmps) = true then Oper.wp P o a w K' Q else K' (a.put o.dst undef) w) :
    wpAnyH P md ops Q S (fuel + 1) listed a w := by
  obtain ⟨o, ho⟩ := Option.isSome_iff_exists.1 hsome
  exact wpAnyH_ready (rs := [i]) hr (by simp) (AllReadyH.cons (o := o) ho (h o ho) AllReadyH.nil)
end

set_option maxRecDepth 100000 in
set_option maxHeartbeats 6400000 in
theorem order_yy (s : Nat → Addr) (a b c : V4) (w : World) (hs : Sent s w) (T U : V4) (hR : sumR [a, b, c] = (T, 0, 0)) (hR2 : sumR [c, a, b] = (T, 0, 0)) (hsub : subR T c = (U, 0)) (hadd : addR a b = (U, 0)) (hF : fitsV c a = true) (hF2 : fitsV c U = true) (hP : lessV a b = true) :
    Calls Tryd.prog 5 #[.agg #[.int .i64 a.a, .int .i64 a.b, .int .i64 a.c, .int .i64 a.d], .agg #[.int .i64 b.a, .int .i64 b.b, .int .i64 b.c, .int .i64 b.d], .agg #[.int .i64 c.a, .int .i64 c.b, .int .i64 c.c, .int .i64 c.d]] w fun e w' => e = .returned (.bool true) ∧ Below w.heap.size w w' := by
  have HR := Lib.hid hR; clear hR
  have HR2 := Lib.hid hR2; clear hR2
  have Hsub := Lib.hid hsub; clear hsub
  have Hadd := Lib.hid hadd; clear hadd
  have HF := Lib.hid hF; clear hF
  have HF2 := Lib.hid hF2; clear hF2
  have HP := Lib.hid hP; clear hP
  have HQ := Lib.hid (less_not HP.out)
  have heq : (a.a == b.a && (a.b == b.b && (a.c == b.c && a.d == b.d))) = false := by
    have h := less_or a b
    rw [HP.out, Bool.true_or] at h
    exact (Bool.not_eq_true' _).mp h.symm
  have HEQ := Lib.hid heq; clear heq
  have hE := eqV
  go_enter Tryd.func5, Tryd.ntmps5
  go_wp2_with fail
  refine (awake_c s _ (hs.below (B := w.heap.size) (by (repeat' (first | (with_reducible exact Below.refl _ _) | (with_reducible refine below_drewN ?_ _) | (with_reducible refine Below.drew ?_) | (with_reducible refine Below.alloc ?_ ?_ _) | (with_reducible refine Below.setCell ?_ ?_ _) | (with_reducible refine Below.trans ?_ (Below.mono (by with_reducible assumption) ?_)) | omega | (simp only [World.size_alloc, World.size_setCell, World.size_drew, Go.Proofs.YthhjdebpbkkpbaaDoor.World.size_drewN] at *; omega) | (with_reducible refine Below.size (B := 0) ?_)))) (Nat.le_refl _))).mono ?_
  rintro e w1 ⟨rfl, hb1⟩
  have Va : Vb w1 w.heap.size a := (((Vb.new w a).alloc _).alloc _).step0 hb1
  have Vc : Vb w1 (w.heap.size + 1) b := ((Vb.new_at (by simp) b).alloc _).step0 hb1
  have Vd : Vb w1 (w.heap.size + 2) c := (Vb.new_at (by simp) c).step0 hb1
  obtain ⟨a0, a1, a2, a3, af, al⟩ := Va.facts
  obtain ⟨c0, c1, c2, c3, cf, cl⟩ := Vc.facts
  obtain ⟨d0, d1, d2, d3, df, dl⟩ := Vd.facts
  go_wp2_with fail
  refine (sum_three s _ a b c _ (hs.below (B := w.heap.size) (by (repeat' (first | (with_reducible exact Below.refl _ _) | (with_reducible refine below_drewN ?_ _) | (with_reducible refine Below.drew ?_) | (with_reducible refine Below.alloc ?_ ?_ _) | (with_reducible refine Below.setCell ?_ ?_ _) | (with_reducible refine Below.trans ?_ (Below.mono (by with_reducible assumption) ?_)) | omega | (simp only [World.size_alloc, World.size_setCell, World.size_drew, Go.Proofs.YthhjdebpbkkpbaaDoor.World.size_drewN] at *; omega) | (with_reducible refine Below.size (B := 0) ?_)))) (Nat.le_refl _)) (by simp)).mono ?_
  rintro e w2 ⟨hb2, h0⟩
  rw [HR.out] at h0
  rcases h0 with ⟨_, rfl⟩ | ⟨hk, _⟩
  rotate_left
  · cases hk
  clear a0 a1 a2 a3 af al c0 c1 c2 c3 cf cl d0 d1 d2 d3 df dl
  replace Va := Va.step hb2
  replace Vc := Vc.step hb2
  replace Vd := Vd.step hb2
  obtain ⟨a0, a1, a2, a3, af, al⟩ := Va.facts
  obtain ⟨c0, c1, c2, c3, cf, cl⟩ := Vc.facts
  obtain ⟨d0, d1, d2, d3, df, dl⟩ := Vd.facts
  go_wp2_with fail
  refine (sum_three s _ c a b _ (hs.below (B := w.heap.size) (by (repeat' (first | (with_reducible exact Below.refl _ _) | (with_reducible refine below_drewN ?_ _) | (with_reducible refine Below.drew ?_) | (with_reducible refine Below.alloc ?_ ?_ _) | (with_reducible refine Below.setCell ?_ ?_ _) | (with_reducible refine Below.trans ?_ (Below.mono (by with_reducible assumption) ?_)) | omega | (simp only [World.size_alloc, World.size_setCell, World.size_drew, Go.Proofs.YthhjdebpbkkpbaaDoor.World.size_drewN] at *; omega) | (with_reducible refine Below.size (B := 0) ?_)))) (Nat.le_refl _)) (by simp)).mono ?_
  rintro e w3 ⟨hb3, h0⟩
  rw [HR2.out] at h0
  rcases h0 with ⟨_, rfl⟩ | ⟨hk, _⟩
  rotate_left
  · cases hk
  clear a0 a1 a2 a3 af al c0 c1 c2 c3 cf cl d0 d1 d2 d3 df dl
  replace Va := (Va.alloc _).step hb3
  replace Vc := (Vc.alloc _).step hb3
  replace Vd := (Vd.alloc _).step hb3
  have Vx := ((Vb.new w2 T).alloc _).step0 hb3
  obtain ⟨x0, x1, x2, x3, xf, xl⟩ := Vx.facts
  obtain ⟨d0, d1, d2, d3, df, dl⟩ := Vd.facts
  go_wp2_with fail
  go_quiet (fail)
  go_wp2_with fail
  refine (sub_is s T c U _ (hs.below (B := w.heap.size) (by (repeat' (first | (with_reducible exact Below.refl _ _) | (with_reducible refine below_drewN ?_ _) | (with_reducible refine Below.drew ?_) | (with_reducible refine Below.alloc ?_ ?_ _) | (with_reducible refine Below.setCell ?_ ?_ _) | (with_reducible refine Below.trans ?_ (Below.mono (by with_reducible assumption) ?_)) | omega | (simp only [World.size_alloc, World.size_setCell, World.size_drew, Go.Proofs.YthhjdebpbkkpbaaDoor.World.size_drewN] at *; omega) | (with_reducible refine Below.size (B := 0) ?_)))) (Nat.le_refl _)) Hsub.out).mono ?_
  rintro e w4 ⟨rfl, hb4⟩
  clear x0 x1 x2 x3 xf xl d0 d1 d2 d3 df dl
  replace Va := Va.stepD hb4
  replace Vc := Vc.stepD hb4
  replace Vd := Vd.stepD hb4
  replace Vx := Vx.stepD hb4
  have Vy := Vb.freshD T hb4
  obtain ⟨a0, a1, a2, a3, af, al⟩ := Va.facts
  obtain ⟨c0, c1, c2, c3, cf, cl⟩ := Vc.facts
  go_wp2_with fail
  refine (add_is s a b U _ (hs.below (B := w.heap.size) (by (repeat' (first | (with_reducible exact Below.refl _ _) | (with_reducible refine below_drewN ?_ _) | (with_reducible refine Below.drew ?_) | (with_reducible refine Below.alloc ?_ ?_ _) | (with_reducible refine Below.setCell ?_ ?_ _) | (with_reducible refine Below.trans ?_ (Below.mono (by with_reducible assumption) ?_)) | omega | (simp only [World.size_alloc, World.size_setCell, World.size_drew, Go.Proofs.YthhjdebpbkkpbaaDoor.World.size_drewN] at *; omega) | (with_reducible refine Below.size (B := 0) ?_)))) (Nat.le_refl _)) Hadd.out).mono ?_
  rintro e w5 ⟨rfl, hb5⟩
  clear a0 a1 a2 a3 af al c0 c1 c2 c3 cf cl
  replace Va := Va.step hb5
  replace Vc := Vc.step hb5
  replace Vd := Vd.step hb5
  replace Vx := Vx.step hb5
  replace Vy := Vy.step hb5
  have Vz := Vb.fresh U hb5
  obtain ⟨x0, x1, x2, x3, xf, xl⟩ := Vx.facts
  obtain ⟨y0, y1, y2, y3, yf, yl⟩ := Vy.facts
  obtain ⟨z0, z1, z2, z3, zf, zl⟩ := Vz.facts
  obtain ⟨d0, d1, d2, d3, df, dl⟩ := Vd.facts
  obtain ⟨a0, a1, a2, a3, af, al⟩ := Va.facts
  go_wp2_with fail
  refine (fits_b c a true HF.out _).mono ?_
  rintro e w6 ⟨rfl, hb6⟩
  clear x0 x1 x2 x3 xf xl y0 y1 y2 y3 yf yl z0 z1 z2 z3 zf zl d0 d1 d2 d3 df dl a0 a1 a2 a3 af al Vx Vy Vz
  replace Va := Va.step hb6
  replace Vc := Vc.step hb6
  replace Vd := Vd.step hb6
  have Vu := Vb.fresh U hb6
  obtain ⟨d0, d1, d2, d3, df, dl⟩ := Vd.facts
  obtain ⟨u0, u1, u2, u3, uf, ul⟩ := Vu.facts
  go_wp2_with fail
  refine (fits_b c U true HF2.out _).mono ?_
  rintro e w7 ⟨rfl, hb7⟩
  clear d0 d1 d2 d3 df dl u0 u1 u2 u3 uf ul Vu
  replace Va := Va.step0 hb7
  replace Vc := Vc.step0 hb7
  obtain ⟨a0, a1, a2, a3, af, al⟩ := Va.facts
  obtain ⟨c0, c1, c2, c3, cf, cl⟩ := Vc.facts
  go_wp2_with fail
  refine (less_b a b true HP.out _).mono ?_
  rintro e w8 ⟨rfl, hb8⟩
  clear a0 a1 a2 a3 af al c0 c1 c2 c3 cf cl
  replace Va := Va.step0 hb8
  replace Vc := Vc.step0 hb8
  obtain ⟨a0, a1, a2, a3, af, al⟩ := Va.facts
  obtain ⟨c0, c1, c2, c3, cf, cl⟩ := Vc.facts
  go_wp2_with fail
  refine (less_b b a false HQ.out _).mono ?_
  rintro e w9 ⟨rfl, hb9⟩
  clear a0 a1 a2 a3 af al c0 c1 c2 c3 cf cl
  replace Va := Va.step0 hb9
  replace Vc := Vc.step0 hb9
  obtain ⟨a0, a1, a2, a3, af, al⟩ := Va.facts
  obtain ⟨c0, c1, c2, c3, cf, cl⟩ := Vc.facts
  go_wp2_with fail
  have K0 : Hid (Below w.heap.size w w9) := Lib.hid (by (repeat' (first | (with_reducible exact Below.refl _ _) | (with_reducible refine below_drewN ?_ _) | (with_reducible refine Below.drew ?_) | (with_reducible refine Below.alloc ?_ ?_ _) | (with_reducible refine Below.setCell ?_ ?_ _) | (with_reducible refine Below.trans ?_ (Below.mono (by with_reducible assumption) ?_)) | omega | (simp only [World.size_alloc, World.size_setCell, World.size_drew, Go.Proofs.YthhjdebpbkkpbaaDoor.World.size_drewN] at *; omega) | (with_reducible refine Below.size (B := 0) ?_))))
  have HS : Hid (∀ w' : World, Below w9.heap.size w9 w' → (w'.cell? ⟨w.heap.size, 0, none⟩ = some (.int .i64 a.a) ∧ w'.cell? ⟨w.heap.size, 1, none⟩ = some (.int .i64 a.b) ∧ w'.cell? ⟨w.heap.size, 2, none⟩ = some (.int .i64 a.c) ∧ w'.cell? ⟨w.heap.size, 3, none⟩ = some (.int .i64 a.d) ∧ w'.cell? ⟨w.heap.size + 1, 0, none⟩ = some (.int .i64 b.a) ∧ w'.cell? ⟨w.heap.size + 1, 1, none⟩ = some (.int .i64 b.b) ∧ w'.cell? ⟨w.heap.size + 1, 2, none⟩ = some (.int .i64 b.c) ∧ w'.cell? ⟨w.heap.size + 1, 3, none⟩ = some (.int .i64 b.d) ∧ Below w9.heap.size w9 w')) := Lib.hid fun w' h => ⟨(h.cell (p := ⟨w.heap.size, 0, none⟩) al).trans a0, (h.cell (p := ⟨w.heap.size, 1, none⟩) al).trans a1, (h.cell (p := ⟨w.heap.size, 2, none⟩) al).trans a2, (h.cell (p := ⟨w.heap.size, 3, none⟩) al).trans a3, (h.cell (p := ⟨w.heap.size + 1, 0, none⟩) cl).trans c0, (h.cell (p := ⟨w.heap.size + 1, 1, none⟩) cl).trans c1, (h.cell (p := ⟨w.heap.size + 1, 2, none⟩) cl).trans c2, (h.cell (p := ⟨w.heap.size + 1, 3, none⟩) cl).trans c3, h⟩
  clear a0 a1 a2 a3 af c0 c1 c2 c3 cf Va Vc hb1 hb2 hb3 hb4 hb5 hb6 hb7 hb8 hb9
  refine wp_region_held_drew (S := fun w' => w'.cell? ⟨w.heap.size, 0, none⟩ = some (.int .i64 a.a) ∧ w'.cell? ⟨w.heap.size, 1, none⟩ = some (.int .i64 a.b) ∧ w'.cell? ⟨w.heap.size, 2, none⟩ = some (.int .i64 a.c) ∧ w'.cell? ⟨w.heap.size, 3, none⟩ = some (.int .i64 a.d) ∧ w'.cell? ⟨w.heap.size + 1, 0, none⟩ = some (.int .i64 b.a) ∧ w'.cell? ⟨w.heap.size + 1, 1, none⟩ = some (.int .i64 b.b) ∧ w'.cell? ⟨w.heap.size + 1, 2, none⟩ = some (.int .i64 b.c) ∧ w'.cell? ⟨w.heap.size + 1, 3, none⟩ = some (.int .i64 b.d) ∧ Below w9.heap.size w9 w') (by kernel_rfl) ?_ (fun hHeld => ?_)
  · exact HS.out _ (by (repeat' (first | (with_reducible exact Below.refl _ _) | (with_reducible refine below_drewN ?_ _) | (with_reducible refine Below.drew ?_) | (with_reducible refine Below.alloc ?_ ?_ _) | (with_reducible refine Below.setCell ?_ ?_ _) | (with_reducible refine Below.trans ?_ (Below.mono (by with_reducible assumption) ?_)) | omega | (simp only [World.size_alloc, World.size_setCell, World.size_drew, Go.Proofs.YthhjdebpbkkpbaaDoor.World.size_drewN] at *; omega) | (with_reducible refine Below.size (B := 0) ?_))))
  refine rg_take 0 (some 103) (.agg #[.int .i64 a.a, .int .i64 a.b, .int .i64 a.c, .int .i64 a.d]) (by kernel_rfl) (by kernel_rfl) (by kernel_rfl) (fun _ _ _ h => h) (by kernel_rfl) (by kernel_rfl) (by intro w' hSw o ho; obtain ⟨q0, q1, q2, q3, q4, q5, q6, q7, _⟩ := hSw; simp only [List.getElem?_toArray, List.getElem?_cons_succ, List.getElem?_cons_zero, Option.some.injEq] at ho; subst ho; go_simp) (by assumption) ?_
  try simp only [Act.put, List.setIfInBounds_toArray, List.set_cons_zero, List.set_cons_succ]
  refine rg_take 1 (some 104) (.agg #[.int .i64 b.a, .int .i64 b.b, .int .i64 b.c, .int .i64 b.d]) (by kernel_rfl) (by kernel_rfl) (by kernel_rfl) (fun _ _ _ h => h) (by kernel_rfl) (by kernel_rfl) (by intro w' hSw o ho; obtain ⟨q0, q1, q2, q3, q4, q5, q6, q7, _⟩ := hSw; simp only [List.getElem?_toArray, List.getElem?_cons_succ, List.getElem?_cons_zero, Option.some.injEq] at ho; subst ho; go_simp) (by assumption) ?_
  try simp only [Act.put, List.setIfInBounds_toArray, List.set_cons_zero, List.set_cons_succ]
  refine rg_take 8 (some 111) (.agg #[.int .i64 a.a, .int .i64 a.b, .int .i64 a.c, .int .i64 a.d]) (by kernel_rfl) (by kernel_rfl) (by kernel_rfl) (fun _ _ _ h => h) (by kernel_rfl) (by kernel_rfl) (by intro w' hSw o ho; obtain ⟨q0, q1, q2, q3, q4, q5, q6, q7, _⟩ := hSw; simp only [List.getElem?_toArray, List.getElem?_cons_succ, List.getElem?_cons_zero, Option.some.injEq] at ho; subst ho; go_simp) (by assumption) ?_
  try simp only [Act.put, List.setIfInBounds_toArray, List.set_cons_zero, List.set_cons_succ]
  refine rg_take 9 (some 112) (.agg #[.int .i64 b.a, .int .i64 b.b, .int .i64 b.c, .int .i64 b.d]) (by kernel_rfl) (by kernel_rfl) (by kernel_rfl) (fun _ _ _ h => h) (by kernel_rfl) (by kernel_rfl) (by intro w' hSw o ho; obtain ⟨q0, q1, q2, q3, q4, q5, q6, q7, _⟩ := hSw; simp only [List.getElem?_toArray, List.getElem?_cons_succ, List.getElem?_cons_zero, Option.some.injEq] at ho; subst ho; go_simp) (by assumption) ?_
  try simp only [Act.put, List.setIfInBounds_toArray, List.set_cons_zero, List.set_cons_succ]
  refine rg_take 10 (some 113) (.bool (!(a.a == b.a && (a.b == b.b && (a.c == b.c && a.d == b.d))))) (by kernel_rfl) (by kernel_rfl) (by kernel_rfl) (fun _ _ _ h => h) (by kernel_rfl) (by kernel_rfl) (by intro w' hSw o ho; obtain ⟨q0, q1, q2, q3, q4, q5, q6, q7, _⟩ := hSw; simp only [List.getElem?_toArray, List.getElem?_cons_succ, List.getElem?_cons_zero, Option.some.injEq] at ho; subst ho; go_simp) (by assumption) ?_
  try simp only [Act.put, List.setIfInBounds_toArray, List.set_cons_zero, List.set_cons_succ]
  refine rg_one 2 (by kernel_rfl) (by kernel_rfl) (fun o ho K hK => ?_)
  simp only [List.getElem?_toArray, List.getElem?_cons_succ, List.getElem?_cons_zero, Option.some.injEq] at ho
  subst ho
  go_simp
  go_at_call 19
  refine (less_b a b true HP.out _).mono ?_
  rintro e v1 ⟨rfl, hb1⟩
  go_wp2_with fail
  refine hK.out _ _ (HS.out _ (by (repeat' (first | (with_reducible exact Below.refl _ _) | (with_reducible refine below_drewN ?_ _) | (with_reducible refine Below.drew ?_) | (with_reducible refine Below.alloc ?_ ?_ _) | (with_reducible refine Below.setCell ?_ ?_ _) | (with_reducible refine Below.trans ?_ (Below.mono (by with_reducible assumption) ?_)) | omega | (simp only [World.size_alloc, World.size_setCell, World.size_drew, Go.Proofs.YthhjdebpbkkpbaaDoor.World.size_drewN] at *; omega) | (with_reducible refine Below.size (B := 0) ?_))))) (fun hHeld => ?_)
  clear hK
  try simp only [Act.put, List.setIfInBounds_toArray, List.set_cons_zero, List.set_cons_succ]
  refine rg_take 3 (some 106) (.bool true) (by kernel_rfl) (by kernel_rfl) (by kernel_rfl) (fun _ _ _ h => h) (by kernel_rfl) (by kernel_rfl) (by intro w' hSw o ho; obtain ⟨q0, q1, q2, q3, q4, q5, q6, q7, _⟩ := hSw; simp only [List.getElem?_toArray, List.getElem?_cons_succ, List.getElem?_cons_zero, Option.some.injEq] at ho; subst ho; go_simp) (by assumption) ?_
  try simp only [Act.put, List.setIfInBounds_toArray, List.set_cons_zero, List.set_cons_succ]
  refine rg_skip 4 (some 107) (by kernel_rfl) (by kernel_rfl) (by kernel_rfl) (fun _ _ _ h => h) (by kernel_rfl) (by kernel_rfl) (by assumption) ?_
  try simp only [Act.put, List.setIfInBounds_toArray, List.set_cons_zero, List.set_cons_succ]
  refine rg_skip 5 (some 108) (by kernel_rfl) (by kernel_rfl) (by kernel_rfl) (fun _ _ _ h => h) (by kernel_rfl) (by kernel_rfl) (by assumption) ?_
  try simp only [Act.put, List.setIfInBounds_toArray, List.set_cons_zero, List.set_cons_succ]
  refine rg_skip 6 (some 109) (by kernel_rfl) (by kernel_rfl) (by kernel_rfl) (fun _ _ _ h => h) (by kernel_rfl) (by kernel_rfl) (by assumption) ?_
  try simp only [Act.put, List.setIfInBounds_toArray, List.set_cons_zero, List.set_cons_succ]
  refine rg_take 7 (some 110) (.bool true) (by kernel_rfl) (by kernel_rfl) (by kernel_rfl) (fun _ _ _ h => h) (by kernel_rfl) (by kernel_rfl) (by intro w' hSw o ho; obtain ⟨q0, q1, q2, q3, q4, q5, q6, q7, _⟩ := hSw; simp only [List.getElem?_toArray, List.getElem?_cons_succ, List.getElem?_cons_zero, Option.some.injEq] at ho; subst ho; go_simp) (by assumption) ?_
  try simp only [Act.put, List.setIfInBounds_toArray, List.set_cons_zero, List.set_cons_succ]
  refine rg_take 11 (some 114) (.bool (true == (!(a.a == b.a && (a.b == b.b && (a.c == b.c && a.d == b.d)))))) (by kernel_rfl) (by kernel_rfl) (by kernel_rfl) (fun _ _ _ h => h) (by kernel_rfl) (by kernel_rfl) (by intro w' hSw o ho; obtain ⟨q0, q1, q2, q3, q4, q5, q6, q7, _⟩ := hSw; simp only [List.getElem?_toArray, List.getElem?_cons_succ, List.getElem?_cons_zero, Option.some.injEq] at ho; subst ho; go_simp) (by assumption) ?_
  try simp only [Act.put, List.setIfInBounds_toArray, List.set_cons_zero, List.set_cons_succ]
  refine rg_take 12 (some 6) (.bool (true == (!(a.a == b.a && (a.b == b.b && (a.c == b.c && a.d == b.d)))))) (by kernel_rfl) (by kernel_rfl) (by kernel_rfl) (fun _ _ _ h => h) (by kernel_rfl) (by kernel_rfl) (by intro w' hSw o ho; obtain ⟨q0, q1, q2, q3, q4, q5, q6, q7, _⟩ := hSw; simp only [List.getElem?_toArray, List.getElem?_cons_succ, List.getElem?_cons_zero, Option.some.injEq] at ho; subst ho; go_simp) (by assumption) ?_
  try simp only [Act.put, List.setIfInBounds_toArray, List.set_cons_zero, List.set_cons_succ]
  refine wpAnyH_done (by kernel_rfl) ?_ _
  all_goals go_wp2_with fail
  all_goals (go_ret; refine ⟨?_, K0.out.trans (Below.mono (B := w9.heap.size) (by (repeat' (first | (with_reducible exact Below.refl _ _) | (with_reducible refine below_drewN ?_ _) | (with_reducible refine Below.drew ?_) | (with_reducible refine Below.alloc ?_ ?_ _) | (with_reducible refine Below.setCell ?_ ?_ _) | (with_reducible refine Below.trans ?_ (Below.mono (by with_reducible assumption) ?_)) | omega | (simp only [World.size_alloc, World.size_setCell, World.size_drew, Go.Proofs.YthhjdebpbkkpbaaDoor.World.size_drewN] at *; omega) | (with_reducible refine Below.size (B := 0) ?_)))) (by have := K0.out.size; omega))⟩)
  all_goals exact ret_bool (by rw [HEQ.out]; simp)

end Go.Proofs.YthhjdebpbkkpbaaDoor
