/- The contracts of grant's book that only read: an account, what is issued, the keys, what is wrong with an amount. Conditions: the book lies in memory as its map has it; the sentinels lie where the program's text lays them. -/
import Derived.Test.YtpgioihmaodlcaaDoorGrI
namespace Go.Proofs.YtpgioihmaodlcaaDoor
open Go Go.RowKit Go.Maps Go.Sort

/-- Between the operations of Of. -/
structure OfS (w0 : World) (X q b : Nat) (T : Grs) (k : V4) (W : World) : Prop where
  book : BookAt W q b T
  key : KyB W X k
  res : AcB W (X + 1) zA
  below : Below w0.heap.size w0 W
theorem OfS.drew {w0 : World} {X q b : Nat} {T : Grs} {k : V4} {W : World} (h : OfS w0 X q b T k W) : OfS w0 X q b T k W.drew := ⟨h.book.on (Below.drew (Below.refl _ _)) (Nat.le_refl _), h.key, h.res, h.below.drew⟩
theorem OfS.lk {w0 : World} {X q b : Nat} {T : Grs} {k : V4} {W : World} (h : OfS w0 X q b T k W) (hk : okV k) {x : Acc} (hx : acc T k = x) :
    (Instr.lookup 52 (.map (some b)) (.agg #[.int .i64 k.a, .int .i64 k.b, .int .i64 k.c, .int .i64 k.d]) false).run Tryd.prog W = .ok (.agg #[.int .i64 x.f.a, .int .i64 x.f.b, .int .i64 x.f.c, .int .i64 x.f.d, .int .i64 x.c.a, .int .i64 x.c.b, .int .i64 x.c.c, .int .i64 x.c.d, .int .i64 x.h.a, .int .i64 x.h.b, .int .i64 x.h.c, .int .i64 x.h.d]) W := by
  have := run_lookG kitV Tryd.underlying52 (z := zA) (Tryd.zeroA W) h.book.map hk
  rw [show (look T k).getD zA = acc T k from rfl, hx] at this
  exact this

set_option maxRecDepth 100000 in
set_option maxHeartbeats 1600000 in
/-- Book.Of. -/
theorem of_c (q b : Nat) (T : Grs) (k : V4) (w : World) (h : BookAt w q b T) (hk : okV k) :
    Calls Tryd.prog 8 #[.pointer (some ⟨q, 0, none⟩), .agg #[.int .i64 k.a, .int .i64 k.b, .int .i64 k.c, .int .i64 k.d]] w fun e w' => e = .returned (.agg #[.int .i64 (acc T k).f.a, .int .i64 (acc T k).f.b, .int .i64 (acc T k).f.c, .int .i64 (acc T k).f.d, .int .i64 (acc T k).c.a, .int .i64 (acc T k).c.b, .int .i64 (acc T k).c.c, .int .i64 (acc T k).c.d, .int .i64 (acc T k).h.a, .int .i64 (acc T k).h.b, .int .i64 (acc T k).h.c, .int .i64 (acc T k).h.d]) ∧ Below w.heap.size w w' := by
  have H := Lib.hid h; have HK := Lib.hid hk
  obtain ⟨x, hx⟩ : ∃ x, acc T k = x := ⟨_, rfl⟩
  have HX2 := Lib.hid hx
  rw [hx]
  clear h hx hk
  have HKN : Hid (∀ W, OfS w w.heap.size q b T k W → Calls Tryd.prog 21 #[.pointer (some ⟨q, 0, none⟩)] W fun e w' => e = .returned (.map (some b)) ∧ w' = W) := Lib.hid fun W hW => gknown_c q b W hW.book.box
  go_enter Tryd.func8, Tryd.ntmps8
  go_wp2_with fail
  obtain ⟨X, hX⟩ : ∃ X, w.heap.size = X := ⟨_, rfl⟩
  obtain ⟨W0, hW0⟩ : ∃ W0, (w.alloc (.cells #[.int .i64 k.a, .int .i64 k.b, .int .i64 k.c, .int .i64 k.d] 31)).alloc (.cells #[.int .i64 0, .int .i64 0, .int .i64 0, .int .i64 0, .int .i64 0, .int .i64 0, .int .i64 0, .int .i64 0, .int .i64 0, .int .i64 0, .int .i64 0, .int .i64 0] 37) = W0 := ⟨_, rfl⟩
  have HOS : Hid (OfS w X q b T k W0) := Lib.hid (by
    rw [← hW0, ← hX]
    have hb : Below w.heap.size w ((w.alloc (.cells #[.int .i64 k.a, .int .i64 k.b, .int .i64 k.c, .int .i64 k.d] 31)).alloc (.cells #[.int .i64 0, .int .i64 0, .int .i64 0, .int .i64 0, .int .i64 0, .int .i64 0, .int .i64 0, .int .i64 0, .int .i64 0, .int .i64 0, .int .i64 0, .int .i64 0] 37)) := by (repeat' (first | (with_reducible exact Below.refl _ _) | (with_reducible refine below_drewN ?_ _) | (with_reducible refine Below.drew ?_) | (with_reducible refine Below.alloc ?_ ?_ _) | (with_reducible refine Below.setCell ?_ ?_ _) | (with_reducible refine Below.trans ?_ (Below.mono (by with_reducible assumption) ?_)) | omega | (simp only [World.size_alloc] at *; omega) | (with_reducible refine Below.size (B := 0) ?_)))
    refine ⟨H.out.grow hb, (KyB.new w k).alloc _, ?_, hb⟩
    have := AcB.new (w.alloc (.cells #[.int .i64 k.a, .int .i64 k.b, .int .i64 k.c, .int .i64 k.d] 31)) zA
    simp only [World.size_alloc] at this; exact this)
  rw [hW0, hX]
  rw [hX] at HKN
  have HX := Lib.hid hX
  clear hW0 hX
  refine wp_region_last (z := 4) (S := fun W => OfS w X q b T k W) (by kernel_rfl) ?_ (fun hHeld => ?_)
  · exact HOS.out.drew
  refine rgl_take 0 (some 5) _ (by kernel_rfl) (by kernel_rfl) (by kernel_rfl) (by kernel_rfl) (fun _ _ _ h => h) (by kernel_rfl) (by kernel_rfl) (by intro w' hSw op_ ho; have c0 := cell_of_heap hSw.book.box 0; obtain ⟨k0, k1, k2, k3⟩ := hSw.key.cells; have hlk := hSw.lk HK.out HX2.out; clear hSw; simp only [List.getElem?_toArray, List.getElem?_cons_zero, Option.some.injEq] at ho; subst ho; go_simp; with_reducible rfl) (by assumption) ?_
  try simp only [Act.put, List.setIfInBounds_toArray, List.set_cons_zero, List.set_cons_succ]
  refine rgl_take 2 (some 7) _ (by kernel_rfl) (by kernel_rfl) (by kernel_rfl) (by kernel_rfl) (fun _ _ _ h => h) (by kernel_rfl) (by kernel_rfl) (by intro w' hSw op_ ho; have c0 := cell_of_heap hSw.book.box 0; obtain ⟨k0, k1, k2, k3⟩ := hSw.key.cells; have hlk := hSw.lk HK.out HX2.out; clear hSw; simp only [List.getElem?_toArray, List.getElem?_cons_succ, List.getElem?_cons_zero, Option.some.injEq] at ho; subst ho; go_simp; with_reducible rfl) (by assumption) ?_
  try simp only [Act.put, List.setIfInBounds_toArray, List.set_cons_zero, List.set_cons_succ]
  refine rgl_one 1 (by kernel_rfl) (by kernel_rfl) (by decide) (fun op_ ho K hK => ?_)
  simp only [List.getElem?_toArray, List.getElem?_cons_succ, List.getElem?_cons_zero, Option.some.injEq] at ho
  subst ho
  go_simp
  go_at_call 21
  refine (HKN.out _ (by assumption)).mono ?_
  rintro e wa ⟨rfl, rfl⟩
  go_wp2_with fail
  refine hK.out _ _ (by assumption) (fun hHeld => ?_)
  clear hK
  try simp only [Act.put, List.setIfInBounds_toArray, List.set_cons_zero, List.set_cons_succ]
  refine rgl_take 3 (some 8) _ (by kernel_rfl) (by kernel_rfl) (by kernel_rfl) (by kernel_rfl) (fun _ _ _ h => h) (by kernel_rfl) (by kernel_rfl) (by intro w' hSw op_ ho; have c0 := cell_of_heap hSw.book.box 0; obtain ⟨k0, k1, k2, k3⟩ := hSw.key.cells; have hlk := hSw.lk HK.out HX2.out; clear hSw; simp only [List.getElem?_toArray, List.getElem?_cons_succ, List.getElem?_cons_zero, Option.some.injEq] at ho; subst ho; go_simp; with_reducible rfl) (by assumption) ?_
  try simp only [Act.put, List.setIfInBounds_toArray, List.set_cons_zero, List.set_cons_succ]
  refine rgl_last (by kernel_rfl) (by kernel_rfl) (by kernel_rfl) (fun op_ ho K hK => ?_)
  simp only [List.getElem?_toArray, List.getElem?_cons_succ, List.getElem?_cons_zero, Option.some.injEq] at ho
  subst ho
  obtain ⟨o0, o1, o2, o3, o4, o5, o6, o7, o8, o9, o10, o11⟩ := hHeld.res.cells
  have of := hHeld.res.frozen
  have ol := hHeld.res.lt
  have HHE := Lib.hid hHeld
  obtain ⟨W1, hW1⟩ : ∃ W1, W0.drew = W1 := ⟨_, rfl⟩
  rw [hW1] at HHE o0 o1 o2 o3 o4 o5 o6 o7 o8 o9 o10 o11 of ol ⊢
  clear hHeld hW1
  go_simp
  refine hK.out _ _ ?_
  clear hK
  try simp only [Act.put, List.setIfInBounds_toArray, List.set_cons_zero, List.set_cons_succ]
  obtain ⟨W4, hW4⟩ : ∃ W4, (((((((((((W1.setCell ⟨X + 1, 0, none⟩ (.int .i64 x.f.a)).setCell ⟨X + 1, 1, none⟩ (.int .i64 x.f.b)).setCell ⟨X + 1, 2, none⟩ (.int .i64 x.f.c)).setCell ⟨X + 1, 3, none⟩ (.int .i64 x.f.d)).setCell ⟨X + 1, 4, none⟩ (.int .i64 x.c.a)).setCell ⟨X + 1, 5, none⟩ (.int .i64 x.c.b)).setCell ⟨X + 1, 6, none⟩ (.int .i64 x.c.c)).setCell ⟨X + 1, 7, none⟩ (.int .i64 x.c.d)).setCell ⟨X + 1, 8, none⟩ (.int .i64 x.h.a)).setCell ⟨X + 1, 9, none⟩ (.int .i64 x.h.b)).setCell ⟨X + 1, 10, none⟩ (.int .i64 x.h.c)).setCell ⟨X + 1, 11, none⟩ (.int .i64 x.h.d) = W4 := ⟨_, rfl⟩
  have ha4 : AcB W4 (X + 1) x := by rw [← hW4]; exact HHE.out.res.set x
  have hc4 : Chg (X + 1) (X + 1) W1 W4 := by rw [← hW4]; exact chg_set12 _ _ x
  have HB4 : Hid (Below X w W4) := Lib.hid (by
    have h1 := HHE.out.below
    rw [HX.out] at h1
    exact h1.trans (hc4.below (by omega) (by omega) (by have := HHE.out.key.lt; omega)))
  rw [hW4]
  obtain ⟨a0, a1, a2, a3, a4, a5, a6, a7, a8, a9, a10, a11⟩ := ha4.cells
  have af := ha4.frozen
  clear o0 o1 o2 o3 o4 o5 o6 o7 o8 o9 o10 o11 of ol hW4 hc4 ha4
  go_wp2_with fail
  refine bodyPost_ret (v := .agg #[.int .i64 x.f.a, .int .i64 x.f.b, .int .i64 x.f.c, .int .i64 x.f.d, .int .i64 x.c.a, .int .i64 x.c.b, .int .i64 x.c.c, .int .i64 x.c.d, .int .i64 x.h.a, .int .i64 x.h.b, .int .i64 x.h.c, .int .i64 x.h.d]) (by simp [results, Tryd.results8, go_sem, a0, a1, a2, a3, a4, a5, a6, a7, a8, a9, a10, a11]) rfl ?_
  refine ⟨rfl, ?_⟩
  rw [HX.out]; exact HB4.out

/-- Between the operations of Issued. -/
structure IdS (w0 : World) (X q b : Nat) (T : Grs) (p : V4) (W : World) : Prop where
  book : BookAt W q b T
  pl : PlB W X p
  res : Vb W (X + 1) z4
  below : Below w0.heap.size w0 W
theorem IdS.drew {w0 : World} {X q b : Nat} {T : Grs} {k : V4} {W : World} (h : IdS w0 X q b T k W) : IdS w0 X q b T k W.drew := ⟨h.book.on (Below.drew (Below.refl _ _)) (Nat.le_refl _), h.pl, h.res, h.below.drew⟩
theorem IdS.on {w0 : World} {X q b : Nat} {T : Grs} {k : V4} {W W' : World} (h : IdS w0 X q b T k W) (hb : Below W.heap.size W W') : IdS w0 X q b T k W' := ⟨h.book.grow hb, h.pl.on hb, h.res.below hb (lt_of_row h.res), h.below.trans (hb.mono h.below.size)⟩

set_option maxRecDepth 100000 in
set_option maxHeartbeats 1600000 in
/-- Book.Issued. -/
theorem bissued_c (s : Nat → Addr) (q b : Nat) (T : Grs) (p : V4) (w : World) (hs : Sent s w) (h : BookAt w q b T) (hn : T.length ≤ 1000000) :
    Calls Tryd.prog 11 #[.pointer (some ⟨q, 0, none⟩), .agg #[.int .i64 p.b, .int .i64 p.c, .int .i64 p.d]] w fun e w' => e = .returned (.agg #[.int .i64 ((issV T p)).a, .int .i64 ((issV T p)).b, .int .i64 ((issV T p)).c, .int .i64 ((issV T p)).d]) ∧ Below w.heap.size w w' := by
  have H := Lib.hid h; have HS := Lib.hid hs
  have HKN : Hid (∀ W, IdS w w.heap.size q b T p W → Calls Tryd.prog 21 #[.pointer (some ⟨q, 0, none⟩)] W fun e w' => e = .returned (.map (some b)) ∧ w' = W) := Lib.hid fun W hW => gknown_c q b W hW.book.box
  have HIS : Hid (∀ W, IdS w w.heap.size q b T p W → Calls Tryd.prog 23 #[.map (some b), .agg #[.int .i64 p.b, .int .i64 p.c, .int .i64 p.d]] W fun e w' => e = .returned (.agg #[.int .i64 ((issV T p)).a, .int .i64 ((issV T p)).b, .int .i64 ((issV T p)).c, .int .i64 ((issV T p)).d]) ∧ IdS w w.heap.size q b T p w') := Lib.hid fun W hW => (issued_c s b T p W (HS.out.below hW.below (Nat.le_refl _)) hW.book.map hW.book.solid hn).mono fun _ _ k => ⟨k.1, hW.on k.2⟩
  obtain ⟨R, hR⟩ : ∃ R, issV T p = R := ⟨_, rfl⟩
  rw [hR] at HIS
  rw [hR]
  clear h hs hR
  go_enter Tryd.func11, Tryd.ntmps11
  go_wp2_with fail
  obtain ⟨X, hX⟩ : ∃ X, w.heap.size = X := ⟨_, rfl⟩
  obtain ⟨W0, hW0⟩ : ∃ W0, (w.alloc (.cells #[.int .i64 p.b, .int .i64 p.c, .int .i64 p.d] 24)).alloc (.cells #[.int .i64 0, .int .i64 0, .int .i64 0, .int .i64 0] 29) = W0 := ⟨_, rfl⟩
  have HOS : Hid (IdS w X q b T p W0) := Lib.hid (by
    rw [← hW0, ← hX]
    have hb : Below w.heap.size w ((w.alloc (.cells #[.int .i64 p.b, .int .i64 p.c, .int .i64 p.d] 24)).alloc (.cells #[.int .i64 0, .int .i64 0, .int .i64 0, .int .i64 0] 29)) := by (repeat' (first | (with_reducible exact Below.refl _ _) | (with_reducible refine below_drewN ?_ _) | (with_reducible refine Below.drew ?_) | (with_reducible refine Below.alloc ?_ ?_ _) | (with_reducible refine Below.setCell ?_ ?_ _) | (with_reducible refine Below.trans ?_ (Below.mono (by with_reducible assumption) ?_)) | omega | (simp only [World.size_alloc] at *; omega) | (with_reducible refine Below.size (B := 0) ?_)))
    exact ⟨H.out.grow hb, (PlB.new w p).alloc _, Vb.new_at (by simp) z4, hb⟩)
  rw [hW0, hX]
  rw [hX] at HKN HIS
  have HX := Lib.hid hX
  clear hW0 hX
  refine wp_region_last (z := 4) (S := fun W => IdS w X q b T p W) (by kernel_rfl) ?_ (fun hHeld => ?_)
  · exact HOS.out.drew
  refine rgl_take 0 (some 5) _ (by kernel_rfl) (by kernel_rfl) (by kernel_rfl) (by kernel_rfl) (fun _ _ _ h => h) (by kernel_rfl) (by kernel_rfl) (by intro w' hSw op_ ho; have c0 := cell_of_heap hSw.book.box 0; obtain ⟨k0, k1, k2⟩ := hSw.pl.cells; clear hSw; simp only [List.getElem?_toArray, List.getElem?_cons_zero, Option.some.injEq] at ho; subst ho; go_simp; with_reducible rfl) (by assumption) ?_
  try simp only [Act.put, List.setIfInBounds_toArray, List.set_cons_zero, List.set_cons_succ]
  refine rgl_take 2 (some 7) _ (by kernel_rfl) (by kernel_rfl) (by kernel_rfl) (by kernel_rfl) (fun _ _ _ h => h) (by kernel_rfl) (by kernel_rfl) (by intro w' hSw op_ ho; have c0 := cell_of_heap hSw.book.box 0; obtain ⟨k0, k1, k2⟩ := hSw.pl.cells; clear hSw; simp only [List.getElem?_toArray, List.getElem?_cons_succ, List.getElem?_cons_zero, Option.some.injEq] at ho; subst ho; go_simp; with_reducible rfl) (by assumption) ?_
  try simp only [Act.put, List.setIfInBounds_toArray, List.set_cons_zero, List.set_cons_succ]
  refine rgl_one 1 (by kernel_rfl) (by kernel_rfl) (by decide) (fun op_ ho K hK => ?_)
  simp only [List.getElem?_toArray, List.getElem?_cons_succ, List.getElem?_cons_zero, Option.some.injEq] at ho
  subst ho
  go_simp
  go_at_call 21
  refine (HKN.out _ (by assumption)).mono ?_
  rintro e wa ⟨rfl, rfl⟩
  go_wp2_with fail
  refine hK.out _ _ (by assumption) (fun hHeld => ?_)
  clear hK
  try simp only [Act.put, List.setIfInBounds_toArray, List.set_cons_zero, List.set_cons_succ]
  refine rgl_one 3 (by kernel_rfl) (by kernel_rfl) (by decide) (fun op_ ho K hK => ?_)
  simp only [List.getElem?_toArray, List.getElem?_cons_succ, List.getElem?_cons_zero, Option.some.injEq] at ho
  subst ho
  go_simp
  go_at_call 23
  refine (HIS.out _ (by assumption)).mono ?_
  rintro e W1 ⟨rfl, ra⟩
  go_wp2_with fail
  refine hK.out _ _ (by assumption) (fun hHeld => ?_)
  clear hK
  try simp only [Act.put, List.setIfInBounds_toArray, List.set_cons_zero, List.set_cons_succ]
  refine rgl_last (by kernel_rfl) (by kernel_rfl) (by kernel_rfl) (fun op_ ho K hK => ?_)
  simp only [List.getElem?_toArray, List.getElem?_cons_succ, List.getElem?_cons_zero, Option.some.injEq] at ho
  subst ho
  obtain ⟨o0, o1, o2, o3, of, ol⟩ := hHeld.res.facts
  have HHE := Lib.hid hHeld
  clear hHeld
  go_simp
  refine hK.out _ _ ?_
  clear hK
  try simp only [Act.put, List.setIfInBounds_toArray, List.set_cons_zero, List.set_cons_succ]
  have hv4 := HHE.out.res.set4 R.a R.b R.c R.d
  obtain ⟨W4, hW4⟩ : ∃ W4, (((W1.setCell ⟨X + 1, 0, none⟩ (.int .i64 R.a)).setCell ⟨X + 1, 1, none⟩ (.int .i64 R.b)).setCell ⟨X + 1, 2, none⟩ (.int .i64 R.c)).setCell ⟨X + 1, 3, none⟩ (.int .i64 R.d) = W4 := ⟨_, rfl⟩
  have HB4 : Hid (Below X w W4) := Lib.hid (by
    have h1 := HHE.out.below
    rw [HX.out] at h1
    rw [← hW4]
    exact (((h1.setCell (p := ⟨X + 1, 0, none⟩) (by simp) _).setCell (p := ⟨X + 1, 1, none⟩) (by simp) _).setCell (p := ⟨X + 1, 2, none⟩) (by simp) _).setCell (p := ⟨X + 1, 3, none⟩) (by simp) _)
  rw [hW4] at hv4 ⊢
  obtain ⟨a0, a1, a2, a3, af, al⟩ := hv4.facts
  clear o0 o1 o2 o3 of ol hW4 hv4
  go_wp2_with fail
  refine bodyPost_ret (v := .agg #[.int .i64 R.a, .int .i64 R.b, .int .i64 R.c, .int .i64 R.d]) (by simp [results, Tryd.results11, go_sem, a0, a1, a2, a3]) rfl ?_
  refine ⟨rfl, ?_⟩
  rw [HX.out]; exact HB4.out
end Go.Proofs.YtpgioihmaodlcaaDoor
