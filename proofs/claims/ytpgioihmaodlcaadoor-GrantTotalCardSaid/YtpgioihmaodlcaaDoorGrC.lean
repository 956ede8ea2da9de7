/- The contracts of grant's book: a new one, its accounts, what is wrong with an amount, how an account changes. Conditions: the book lies in memory as its map has it; the sentinels lie where the program's text lays them. -/
import Derived.Test.YtpgioihmaodlcaaDoorGrE
import Derived.Test.YtpgioihmaodlcaaDoorKyG
import Derived.IntWalk
namespace Go.Proofs.YtpgioihmaodlcaaDoor
open Go Go.RowKit Go.Maps Go.Sort

/-- Block b is a map that has the accounts T. -/
abbrev GrsAt (w : World) (b : Nat) (T : Grs) : Prop := MapG Tryd.prog 31 klV okV encA w b T
/-- Block q is a book whose map lies in block b, and has the accounts T. -/
structure BookAt (w : World) (q b : Nat) (T : Grs) : Prop where
  box : w.heap[q]? = some (.cells #[.map (some b)] 54 (0, 0))
  map : GrsAt w b T
  solid : Solid T
theorem BookAt.lt {w : World} {q b : Nat} {T : Grs} (h : BookAt w q b T) : q < w.heap.size := (Array.getElem?_eq_some_iff.1 h.box).1
theorem BookAt.on {w w' : World} {q b B : Nat} {T : Grs} (h : BookAt w q b T) (hb : Below B w w') (hB : w.heap.size ≤ B) : BookAt w' q b T :=
  ⟨(hb.block _ (Nat.lt_of_lt_of_le h.lt hB)).trans h.box, h.map.on hb hB, h.solid⟩
theorem BookAt.grow {w w' : World} {q b : Nat} {T : Grs} (h : BookAt w q b T) (hb : Below w.heap.size w w') : BookAt w' q b T := h.on hb (Nat.le_refl _)
theorem BookAt.ne {w : World} {q b : Nat} {T : Grs} (h : BookAt w q b T) : q ≠ b := by
  intro e; subst e
  obtain ⟨D, ⟨es, c, hb, _⟩, _⟩ := h.map
  rw [h.box] at hb; cases hb
theorem BookAt.step {w w' : World} {q b : Nat} {T T' : Grs} (h : BookAt w q b T) (hc : Chg b b w w') (hm : GrsAt w' b T') (s : Solid T') : BookAt w' q b T' :=
  ⟨(hc.block q h.lt h.ne h.ne).trans h.box, hm, s⟩
theorem errV_zero (s : Nat → Addr) : errV s 0 = .nilIface := rfl

/-- grant.New. -/
theorem gnew_c (w : World) : Calls Tryd.prog 6 #[] w fun e w' => ∃ q b, e = .returned (.pointer (some ⟨q, 0, none⟩)) ∧ BookAt w' q b [] ∧ Below w.heap.size w w' ∧ w.heap.size ≤ b ∧ w.heap.size ≤ q := by
  have hmm := @run_makeMap Tryd.prog
  have hmade := MapG.made Tryd.prog 31 klV okV encA w
  go_enter Tryd.func6, Tryd.ntmps6
  go_wp2
  go_ret
  have hb0 : Below w.heap.size w (w.alloc (.map #[] 0)) := (Below.refl _ _).alloc (Nat.le_refl _) _
  have e1 : w.heap.size + 1 = (w.alloc (.map #[] 0)).heap.size := by simp
  rw [e1]
  refine ⟨_, w.heap.size, rfl, ⟨heap_alloc_new _ _, ?_, Solid.empty⟩, hb0.alloc hb0.size _, Nat.le_refl _, hb0.size⟩
  exact hmade.on (Below.alloc (Below.refl (w.alloc (.map #[] 0)).heap.size _) (Nat.le_refl _) _) (Nat.le_refl _)
/-- The map that a book has. -/
theorem gknown_c (q b : Nat) (w : World) (h : w.heap[q]? = some (.cells #[.map (some b)] 54 (0, 0))) :
    Calls Tryd.prog 21 #[.pointer (some ⟨q, 0, none⟩)] w fun e w' => e = .returned (.map (some b)) ∧ w' = w := by
  have c := cell_of_heap h 0
  clear h
  go_enter Tryd.func21, Tryd.ntmps21
  go_wp2
  go_ret
  exact ⟨rfl, rfl⟩

/-- A vector in a block of its own. -/
theorem vb_cells {w : World} {g : Nat} {x : V4} (h : Vb w g x) : w.cell? ⟨g, 0, none⟩ = some (.int .i64 x.a) ∧ w.cell? ⟨g, 1, none⟩ = some (.int .i64 x.b) ∧ w.cell? ⟨g, 2, none⟩ = some (.int .i64 x.c) ∧ w.cell? ⟨g, 3, none⟩ = some (.int .i64 x.d) := by
  obtain ⟨h0, h1, h2, h3, _⟩ := h.facts; exact ⟨h0, h1, h2, h3⟩
theorem sub_ok {x l : V4} (hx : goodV x = true) (hl : goodV l = true) (h : fitsV l x = true) : subR x l = (mv x l, 0) := by
  have h1 := good_comp.1 hx; have h2 := good_comp.1 hl; have h3 := fits_comp.1 h
  have hg : goodV (mv x l) = true := good_comp.2 fun r => by rw [comp_mv]; have := h1 r; have := h2 r; have := h3 r; omega
  rw [sub_yes hx hl]
  unfold checkR
  rw [show (⟨x.a - l.a, x.b - l.b, x.c - l.c, x.d - l.d⟩ : V4) = mv x l from rfl, if_pos hg]
theorem add_ok2 {x m : V4} (hx : goodV x = true) (hm : goodV m = true) (h : goodV (pv x m) = true) : addR x m = (pv x m, 0) := by
  rw [add_yes hx hm]
  unfold checkR
  rw [show (⟨x.a + m.a, x.b + m.b, x.c + m.c, x.d + m.d⟩ : V4) = pv x m from rfl, if_pos h]
/-- A vector can lose one and gain another. -/
structure CanCh (x l m : V4) : Prop where
  gx : goodV x = true
  gl : goodV l = true
  gm : goodV m = true
  ft : fitsV l x = true
  gd : goodV (moves x l m) = true
theorem CanCh.mid {x l m : V4} (h : CanCh x l m) : goodV (mv x l) = true := good_comp.2 fun r => by
  rw [comp_mv]; have := good_comp.1 h.gx r; have := good_comp.1 h.gl r; have := fits_comp.1 h.ft r; omega

set_option maxRecDepth 100000 in
set_option maxHeartbeats 1600000 in
/-- A vector less one, and with another one. -/
theorem changed_c (s : Nat → Addr) (x l m : V4) (w : World) (hs : Sent s w) (h : CanCh x l m) :
    Calls Tryd.prog 41 #[.agg #[.int .i64 x.a, .int .i64 x.b, .int .i64 x.c, .int .i64 x.d], .agg #[.int .i64 l.a, .int .i64 l.b, .int .i64 l.c, .int .i64 l.d], .agg #[.int .i64 m.a, .int .i64 m.b, .int .i64 m.c, .int .i64 m.d]] w fun e w' => e = .returned (.agg #[.int .i64 ((moves x l m)).a, .int .i64 ((moves x l m)).b, .int .i64 ((moves x l m)).c, .int .i64 ((moves x l m)).d]) ∧ Below w.heap.size w w' := by
  have HSU := Lib.hid (fun (W : World) (hW : Sent s W) => by have := sub_c s x l W hW; rw [sub_ok h.gx h.gl h.ft, errV_zero] at this; exact this)
  have HAD := Lib.hid (fun (W : World) (hW : Sent s W) => by have := add_c s (mv x l) m W hW; rw [add_ok2 h.mid h.gm h.gd, errV_zero] at this; exact this)
  have HS := Lib.hid hs
  clear h hs
  obtain ⟨y, hy⟩ : ∃ y, mv x l = y := ⟨_, rfl⟩
  obtain ⟨z, hz⟩ : ∃ z, moves x l m = z := ⟨_, rfl⟩
  rw [show pv (mv x l) m = moves x l m from rfl, hz, hy] at HAD
  rw [hy] at HSU
  rw [hz]
  clear hy hz
  obtain ⟨a, b, c, d⟩ := x
  obtain ⟨la, lb, lc, ld⟩ := l
  obtain ⟨ma, mb, mc, md⟩ := m
  go_enter Tryd.func41, Tryd.ntmps41
  go_wp2_with fail
  obtain ⟨X, hX⟩ : ∃ X, w.heap.size = X := ⟨_, rfl⟩
  obtain ⟨W0, hW0⟩ : ∃ W0, (((w.alloc (.cells #[.int .i64 a, .int .i64 b, .int .i64 c, .int .i64 d] 29)).alloc (.cells #[.int .i64 la, .int .i64 lb, .int .i64 lc, .int .i64 ld] 29)).alloc (.cells #[.int .i64 ma, .int .i64 mb, .int .i64 mc, .int .i64 md] 29)).alloc (.cells #[.int .i64 0, .int .i64 0, .int .i64 0, .int .i64 0] 29) = W0 := ⟨_, rfl⟩
  have HB0 : Hid (Below X w W0) := Lib.hid (by rw [← hW0, ← hX]; (repeat' (first | (with_reducible exact Below.refl _ _) | (with_reducible refine below_drewN ?_ _) | (with_reducible refine Below.drew ?_) | (with_reducible refine Below.alloc ?_ ?_ _) | (with_reducible refine Below.setCell ?_ ?_ _) | (with_reducible refine Below.trans ?_ (Below.mono (by with_reducible assumption) ?_)) | omega | (simp only [World.size_alloc] at *; omega) | (with_reducible refine Below.size (B := 0) ?_))))
  have HX : Hid (w.heap.size = X ∧ W0.heap.size = X + 4) := Lib.hid ⟨hX, by rw [← hW0, ← hX]; simp⟩
  have v0 : Vb W0 X ⟨a, b, c, d⟩ := by rw [← hW0, ← hX]; exact (((Vb.new w ⟨a, b, c, d⟩).alloc _).alloc _).alloc _
  have v2 : Vb W0 (X + 1 + 1) ⟨ma, mb, mc, md⟩ := by rw [← hW0, ← hX]; exact (Vb.new_at (by simp) ⟨ma, mb, mc, md⟩).alloc _
  have v3 : Vb W0 (X + 1 + 1 + 1) ⟨0, 0, 0, 0⟩ := by rw [← hW0, ← hX]; exact Vb.new_at (by simp) ⟨0, 0, 0, 0⟩
  rw [hW0, hX]
  clear hW0 hX
  refine (HSU.out _ (HS.out.below HB0.out (by rw [HX.out.1]; exact Nat.le_refl _))).mono ?_
  rintro e w1 ⟨rfl, hb1⟩
  have V0 : Vb w1 X ⟨a, b, c, d⟩ := v0.below hb1 (by rw [HX.out.2]; omega)
  have V2 : Vb w1 (X + 1 + 1) ⟨ma, mb, mc, md⟩ := v2.below hb1 (by rw [HX.out.2]; omega)
  have V3 : Vb w1 (X + 1 + 1 + 1) ⟨0, 0, 0, 0⟩ := v3.below hb1 (by rw [HX.out.2]; omega)
  have HB1 : Hid (Below X w w1) := Lib.hid (HB0.out.trans (hb1.mono (by rw [HX.out.2]; omega)))
  obtain ⟨c0, c1, c2, c3, cf, cl⟩ := V0.facts
  obtain ⟨m0, m1, m2, m3, mf, ml⟩ := V2.facts
  have HV0 := Lib.hid V0; have HV2 := Lib.hid V2; have HV3 := Lib.hid V3
  clear hb1 v0 v2 v3 V0 V2 V3
  go_wp2_with fail
  obtain ⟨w2, hw2⟩ : ∃ w2, (((w1.setCell ⟨X, 0, none⟩ (.int .i64 y.a)).setCell ⟨X, 1, none⟩ (.int .i64 y.b)).setCell ⟨X, 2, none⟩ (.int .i64 y.c)).setCell ⟨X, 3, none⟩ (.int .i64 y.d) = w2 := ⟨_, rfl⟩
  have HB2 : Hid (Below X w w2) := Lib.hid (by rw [← hw2]; exact (((HB1.out.setCell (p := ⟨X, 0, none⟩) (Nat.le_refl _) _).setCell (p := ⟨X, 1, none⟩) (Nat.le_refl _) _).setCell (p := ⟨X, 2, none⟩) (Nat.le_refl _) _).setCell (p := ⟨X, 3, none⟩) (Nat.le_refl _) _)
  have V0 : Vb w2 X y := by rw [← hw2]; exact HV0.out.set4 _ _ _ _
  have V3 : Vb w2 (X + 1 + 1 + 1) ⟨0, 0, 0, 0⟩ := by rw [← hw2]; exact (((HV3.out.far (by simp; omega) _).far (by simp; omega) _).far (by simp; omega) _).far (by simp; omega) _
  rw [hw2]
  clear c0 c1 c2 c3 cf cl m0 m1 m2 m3 mf ml hw2 HV0 HV2 HV3
  refine (HAD.out _ (HS.out.below HB2.out (by rw [HX.out.1]; exact Nat.le_refl _))).mono ?_
  rintro e w3 ⟨rfl, hb3⟩
  have HB3 : Hid (Below X w w3) := Lib.hid (HB2.out.trans (hb3.mono (Nat.le_of_lt (lt_of_row V0))))
  have V0' : Vb w3 X y := V0.below hb3 (lt_of_row V0)
  have V3' : Vb w3 (X + 1 + 1 + 1) ⟨0, 0, 0, 0⟩ := V3.below hb3 (lt_of_row V3)
  obtain ⟨c0, c1, c2, c3, cf, cl⟩ := V0'.facts
  obtain ⟨r0, r1, r2, r3, rf, rl⟩ := V3'.facts
  have HV0 := Lib.hid V0'; have HV3 := Lib.hid V3'
  clear hb3 V0 V3 V0' V3'
  go_wp2_with fail
  refine bodyPost_ret (v := .agg #[.int .i64 z.a, .int .i64 z.b, .int .i64 z.c, .int .i64 z.d]) (by simp [results, Tryd.results41, go_sem, r0, r1, r2, r3]) rfl ?_
  have hl := HX.out.1
  refine ⟨rfl, ?_⟩
  rw [hl]
  exact (((((((HB3.out.setCell (p := ⟨X, 0, none⟩) (Nat.le_refl _) _).setCell (p := ⟨X, 1, none⟩) (Nat.le_refl _) _).setCell (p := ⟨X, 2, none⟩) (Nat.le_refl _) _).setCell (p := ⟨X, 3, none⟩) (Nat.le_refl _) _).setCell (p := ⟨X + 1 + 1 + 1, 0, none⟩) (by simp; omega) _).setCell (p := ⟨X + 1 + 1 + 1, 1, none⟩) (by simp; omega) _).setCell (p := ⟨X + 1 + 1 + 1, 2, none⟩) (by simp; omega) _).setCell (p := ⟨X + 1 + 1 + 1, 3, none⟩) (by simp; omega) _
end Go.Proofs.YtpgioihmaodlcaaDoor
