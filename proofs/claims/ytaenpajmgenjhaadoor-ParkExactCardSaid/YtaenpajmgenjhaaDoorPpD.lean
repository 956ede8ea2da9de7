/- The program's park by contracts: Of, Drop, Set. Conditions: the park is one that the calls have made; the sentinels lie where the program's text lays them. -/
import Derived.Test.YtaenpajmgenjhaaDoorPpC
namespace Go.Proofs.YtaenpajmgenjhaaDoor
open Go Go.RowKit Go.Shelf

def mc0 : Mc := ⟨0, 0, ⟨0, 0, 0, 0⟩, 0⟩
/-- A machine in a block of its own. -/
def McB (w : World) (g : Nat) (x : Mc) : Prop := w.heap[g]? = some (.cells #[.int .i64 x.id, .int .i64 x.cell, .int .i64 x.has.a, .int .i64 x.has.b, .int .i64 x.has.c, .int .i64 x.has.d, .int .i64 x.st] 45 (0, 0))
theorem McB.new (w : World) (x : Mc) : McB (w.alloc (.cells #[.int .i64 x.id, .int .i64 x.cell, .int .i64 x.has.a, .int .i64 x.has.b, .int .i64 x.has.c, .int .i64 x.has.d, .int .i64 x.st] 45)) w.heap.size x := heap_alloc_new w _
theorem McB.facts {w : World} {g : Nat} {x : Mc} (h : McB w g x) : w.cell? ⟨g, 0, none⟩ = some (.int .i64 x.id) ∧ w.cell? ⟨g, 1, none⟩ = some (.int .i64 x.cell) ∧ w.cell? ⟨g, 2, none⟩ = some (.int .i64 x.has.a) ∧ w.cell? ⟨g, 3, none⟩ = some (.int .i64 x.has.b) ∧ w.cell? ⟨g, 4, none⟩ = some (.int .i64 x.has.c) ∧ w.cell? ⟨g, 5, none⟩ = some (.int .i64 x.has.d) ∧ w.cell? ⟨g, 6, none⟩ = some (.int .i64 x.st) ∧ (∀ j, w.frozen? ⟨g, j, none⟩ = false) ∧ g < w.heap.size :=
  ⟨cell_of_heap h 0, cell_of_heap h 1, cell_of_heap h 2, cell_of_heap h 3, cell_of_heap h 4, cell_of_heap h 5, cell_of_heap h 6, fun j => frozen_of_heap h j, lt_of_row h⟩
theorem McB.below {w w' : World} {g B : Nat} {x : Mc} (h : McB w g x) (hb : Below B w w') (hg : g < B) : McB w' g x := (hb.block g hg).trans h
/-- A park's cells: its slice, and the machine of a place. -/
theorem PPk.cells {w : World} {q R : Nat} {P : List Mc} (h : PPk w q R P) : ∃ A c, w.cell? ⟨q, 0, none⟩ = some (.slice A P.length c) ∧ (∀ j, w.frozen? ⟨q, j, none⟩ = false) ∧ OwnE encMc 45 w (q + 1) (.slice A P.length c) P ∧ (Value.slice A P.length c).ownBlock.getD q = R ∧
    ∀ (i : Nat) (x : Mc), P[i]? = some x → ∃ ad, A = some ad ∧ ad.add (i * 7) = ⟨R, i * 7, none⟩ ∧ ad = ⟨R, 0, none⟩ ∧ (∀ j, w.frozen? ⟨R, j, none⟩ = false) ∧ w.cell? ⟨R, i * 7, none⟩ = some (.int .i64 x.id) ∧ w.cell? ⟨R, i * 7 + 1, none⟩ = some (.int .i64 x.cell) ∧ w.cell? ⟨R, i * 7 + 2, none⟩ = some (.int .i64 x.has.a) ∧ w.cell? ⟨R, i * 7 + 3, none⟩ = some (.int .i64 x.has.b) ∧ w.cell? ⟨R, i * 7 + 4, none⟩ = some (.int .i64 x.has.c) ∧ w.cell? ⟨R, i * 7 + 5, none⟩ = some (.int .i64 x.has.d) ∧ w.cell? ⟨R, i * 7 + 6, none⟩ = some (.int .i64 x.st) := by
  obtain ⟨v, h1, h2, h3⟩ := h
  obtain ⟨A, c, rfl⟩ := h2.form
  refine ⟨A, c, cell_of_heap h1 0, fun j => frozen_of_heap h1 j, h2, h3, fun i x hi => ?_⟩
  obtain ⟨g, cap, e, _, _, _, hf, hc⟩ := h2.some (Nat.lt_of_le_of_lt (Nat.zero_le _) (List.getElem?_eq_some_iff.1 hi).1)
  simp only [Value.slice.injEq] at e
  obtain ⟨rfl, _, rfl⟩ := e
  obtain rfl : g = R := by simpa [Value.ownBlock] using h3
  have ea : (⟨g, 0, none⟩ : Addr).add (i * 7) = ⟨g, i * 7, none⟩ := by unfold Addr.add; split <;> simp_all
  exact ⟨_, rfl, ea, rfl, hf, hc i x hi 0 _ rfl, hc i x hi 1 _ rfl, hc i x hi 2 _ rfl, hc i x hi 3 _ rfl, hc i x hi 4 _ rfl, hc i x hi 5 _ rfl, hc i x hi 6 _ rfl⟩
/-- A park behind a store of its slice. -/
theorem PPk.put {w2 : World} {q : Nat} {v0 v' : Value} {P : List Mc} (h1 : w2.heap[q]? = some (.cells #[v0] 57 (0, 0))) (h2 : OwnE encMc 45 w2 (q + 1) v' P) : PPk (w2.setCell ⟨q, 0, none⟩ v') q (v'.ownBlock.getD q) P := by
  refine ⟨v', ?_, h2.same fun k hk => ?_, rfl⟩
  · have := heap_setCell_same w2 q 0 _ _ v' h1
    simpa using this
  · have := (h2.lt k hk).1
    exact heap_setCell_other w2 ⟨q, 0, none⟩ k v' (by show k ≠ q; omega)

set_option maxRecDepth 100000 in
set_option maxHeartbeats 1600000 in
theorem of_none (p : Value) (i : Nat) (id : Int) (w : World)
    (hF : ∀ W, Below w.heap.size w W → Calls Tryd.prog 22 #[p, .int .i64 id] W fun e w' => e = .returned (.tuple #[.int .i64 (i : Nat), .bool false]) ∧ Below W.heap.size W w') :
    Calls Tryd.prog 15 #[p, .int .i64 id] w fun e w' => e = .returned (.tuple #[.agg #[.int .i64 mc0.id, .int .i64 mc0.cell, .int .i64 mc0.has.a, .int .i64 mc0.has.b, .int .i64 mc0.has.c, .int .i64 mc0.has.d, .int .i64 mc0.st], .bool false]) ∧ Below w.heap.size w w' := by
  obtain ⟨W1, hW1⟩ : ∃ W1, W1 = w.alloc (.cells #[.int .i64 0, .int .i64 0, .int .i64 0, .int .i64 0, .int .i64 0, .int .i64 0, .int .i64 0] 45) := ⟨_, rfl⟩
  have hb1 : Below w.heap.size w W1 := by rw [hW1]; exact (Below.refl _ _).alloc (Nat.le_refl _) _
  have hz1 : W1.heap.size = w.heap.size + 1 := by rw [hW1]; simp
  have HZ := Lib.hid (show McB W1 w.heap.size mc0 by rw [hW1]; exact McB.new w mc0)
  have HF := Lib.hid (hF W1 hb1)
  have HW1 := Lib.hid hW1
  have HB1 := Lib.hid hb1
  clear hF hW1 hb1
  go_enter Tryd.func15, Tryd.ntmps15
  go_wp2_with fail
  rw [← HW1.out]
  refine HF.out.mono ?_
  rintro e w2 ⟨rfl, hb2⟩
  have hb02 := HB1.out.trans (hb2.mono HB1.out.size)
  obtain ⟨z0, z1, z2, z3, z4, z5, z6, zf, zl⟩ := (HZ.out.below hb2 (by omega)).facts
  clear hb2
  go_wp2_with fail
  exact bodyPost_ret (v := .tuple #[.agg #[.int .i64 0, .int .i64 0, .int .i64 0, .int .i64 0, .int .i64 0, .int .i64 0, .int .i64 0], .bool false]) (by simp [results, Tryd.results15, go_sem, z0, z1, z2, z3, z4, z5, z6]) rfl ⟨rfl, by (repeat' (first | (with_reducible exact Below.refl _ _) | (with_reducible refine below_drewN ?_ _) | (with_reducible refine Below.drew ?_) | (with_reducible refine Below.alloc ?_ ?_ _) | (with_reducible refine Below.setCell ?_ ?_ _) | (with_reducible refine Below.trans ?_ (Below.mono (by with_reducible assumption) ?_)) | omega | (simp only at *; omega) | (with_reducible refine Below.size (B := 0) ?_)))⟩

set_option maxRecDepth 100000 in
set_option maxHeartbeats 1600000 in
theorem of_some (q R : Nat) (P : List Mc) (id : Int) (x : Mc) (w : World) (h : PPk w q R P) (hG : GP P) (ha : atP P id = some x) :
    Calls Tryd.prog 15 #[.pointer (some ⟨q, 0, none⟩), .int .i64 id] w fun e w' => e = .returned (.tuple #[.agg #[.int .i64 x.id, .int .i64 x.cell, .int .i64 x.has.a, .int .i64 x.has.b, .int .i64 x.has.c, .int .i64 x.has.d, .int .i64 x.st], .bool true]) ∧ Below w.heap.size w w' := by
  obtain ⟨W1, hW1⟩ : ∃ W1, W1 = w.alloc (.cells #[.int .i64 0, .int .i64 0, .int .i64 0, .int .i64 0, .int .i64 0, .int .i64 0, .int .i64 0] 45) := ⟨_, rfl⟩
  have hb1 : Below w.heap.size w W1 := by rw [hW1]; exact (Below.refl _ _).alloc (Nat.le_refl _) _
  have hz1 : W1.heap.size = w.heap.size + 1 := by rw [hW1]; simp
  have HZ := Lib.hid (show McB W1 w.heap.size mc0 by rw [hW1]; exact McB.new w mc0)
  have H1 := Lib.hid (h.on hb1)
  have HQ := Lib.hid h.lt
  have hF := find_c q R P id W1 (h.on hb1) hG
  rw [ha, Option.isSome_some] at hF
  have hx := at_lowI hG.ord ha
  have hil := (List.getElem?_eq_some_iff.1 hx).1
  generalize lowI P id = i at hF hx hil
  have HF := Lib.hid hF
  have HX := Lib.hid hx
  have HW1 := Lib.hid hW1
  have HB1 := Lib.hid hb1
  have hi0 : (0 : Int) ≤ (i : Int) := by omega
  have hi1 : (i : Int) < (P.length : Int) := by omega
  clear hF hW1 hb1 h hx ha hG
  go_enter Tryd.func15, Tryd.ntmps15
  go_wp2_with fail
  rw [← HW1.out]
  refine HF.out.mono ?_
  rintro e w2 ⟨rfl, hb2⟩
  have hb02 := HB1.out.trans (hb2.mono HB1.out.size)
  obtain ⟨z0, z1, z2, z3, z4, z5, z6, zf, zl⟩ := (HZ.out.below hb2 (by omega)).facts
  obtain ⟨A, c, a0, af, _, _, cx⟩ := (H1.out.on hb2).cells
  obtain ⟨ad, rfl, ea, _, rf, x0, x1, x2, x3, x4, x5, x6⟩ := cx i x HX.out
  have n1 : ¬ w.heap.size = q := by have := HQ.out; omega
  have n2 : ¬ w.heap.size = R := by have := HQ.out; omega
  clear hb2 cx
  go_wp2_with fail
  exact bodyPost_ret (v := .tuple #[.agg #[.int .i64 x.id, .int .i64 x.cell, .int .i64 x.has.a, .int .i64 x.has.b, .int .i64 x.has.c, .int .i64 x.has.d, .int .i64 x.st], .bool true]) (by simp [results, Tryd.results15, go_sem, z0, z1, z2, z3, z4, z5, z6]) rfl ⟨rfl, by (repeat' (first | (with_reducible exact Below.refl _ _) | (with_reducible refine below_drewN ?_ _) | (with_reducible refine Below.drew ?_) | (with_reducible refine Below.alloc ?_ ?_ _) | (with_reducible refine Below.setCell ?_ ?_ _) | (with_reducible refine Below.trans ?_ (Below.mono (by with_reducible assumption) ?_)) | omega | (simp only at *; omega) | (with_reducible refine Below.size (B := 0) ?_)))⟩
/-- Of, whatever is there. -/
theorem of_c (q R : Nat) (P : List Mc) (id : Int) (w : World) (h : PPk w q R P) (hG : GP P) :
    Calls Tryd.prog 15 #[.pointer (some ⟨q, 0, none⟩), .int .i64 id] w fun e w' => e = .returned (.tuple #[.agg #[.int .i64 ((atP P id).getD mc0).id, .int .i64 ((atP P id).getD mc0).cell, .int .i64 ((atP P id).getD mc0).has.a, .int .i64 ((atP P id).getD mc0).has.b, .int .i64 ((atP P id).getD mc0).has.c, .int .i64 ((atP P id).getD mc0).has.d, .int .i64 ((atP P id).getD mc0).st], .bool (atP P id).isSome]) ∧ Below w.heap.size w w' := by
  cases ha : atP P id with
  | some x => exact of_some q R P id x w h hG ha
  | none =>
    refine of_none _ (lowI P id) id w fun W hb => ?_
    have := find_c q R P id W (h.on hb) hG
    rwa [ha] at this
theorem of_nil (id : Int) (w : World) :
    Calls Tryd.prog 15 #[.pointer none, .int .i64 id] w fun e w' => e = .returned (.tuple #[.agg #[.int .i64 mc0.id, .int .i64 mc0.cell, .int .i64 mc0.has.a, .int .i64 mc0.has.b, .int .i64 mc0.has.c, .int .i64 mc0.has.d, .int .i64 mc0.st], .bool false]) ∧ Below w.heap.size w w' := of_none _ 0 id w fun W _ => find_nil id W

/-- A method that fails at nil. -/
theorem drop_nil (s : Nat → Addr) (id : Int) (w : World) (hs : Sent s w) :
    Calls Tryd.prog 9 #[.pointer none, .int .i64 id] w fun e w' => e = .returned (errV s 2) ∧ Below w.heap.size w w' := by
  rw [show errV s 2 = .iface 102 (.pointer (some (s 1))) from rfl]
  have e1 := hs.cell 1 (by omega)
  have e2 : w.cell? ⟨1, 0, none⟩ = some (.iface 102 (.pointer (some (s 1)))) := e1
  clear hs e1
  go_enter Tryd.func9, Tryd.ntmps9
  go_wp2_with fail
  go_ret
  exact ⟨rfl, by (repeat' (first | (with_reducible exact Below.refl _ _) | (with_reducible refine below_drewN ?_ _) | (with_reducible refine Below.drew ?_) | (with_reducible refine Below.alloc ?_ ?_ _) | (with_reducible refine Below.setCell ?_ ?_ _) | (with_reducible refine Below.trans ?_ (Below.mono (by with_reducible assumption) ?_)) | omega | (simp only [World.size_alloc] at *; omega) | (with_reducible refine Below.size (B := 0) ?_)))⟩
theorem set_nil (s : Nat → Addr) (id st : Int) (w : World) (hs : Sent s w) :
    Calls Tryd.prog 11 #[.pointer none, .int .i64 id, .int .i64 st] w fun e w' => e = .returned (errV s 2) ∧ Below w.heap.size w w' := by
  rw [show errV s 2 = .iface 102 (.pointer (some (s 1))) from rfl]
  have e2 : w.cell? ⟨1, 0, none⟩ = some (.iface 102 (.pointer (some (s 1)))) := hs.cell 1 (by omega)
  clear hs
  go_enter Tryd.func11, Tryd.ntmps11
  go_wp2_with fail
  go_ret
  exact ⟨rfl, by (repeat' (first | (with_reducible exact Below.refl _ _) | (with_reducible refine below_drewN ?_ _) | (with_reducible refine Below.drew ?_) | (with_reducible refine Below.alloc ?_ ?_ _) | (with_reducible refine Below.setCell ?_ ?_ _) | (with_reducible refine Below.trans ?_ (Below.mono (by with_reducible assumption) ?_)) | omega | (simp only [World.size_alloc] at *; omega) | (with_reducible refine Below.size (B := 0) ?_)))⟩

set_option maxRecDepth 100000 in
set_option maxHeartbeats 1600000 in
theorem drop_none (s : Nat → Addr) (q R : Nat) (P : List Mc) (id : Int) (w : World) (hs : Sent s w) (h : PPk w q R P) (hG : GP P) (ha : atP P id = none) :
    Calls Tryd.prog 9 #[.pointer (some ⟨q, 0, none⟩), .int .i64 id] w fun e w' => e = .returned (errV s 5) ∧ Below w.heap.size w w' := by
  rw [show errV s 5 = .iface 102 (.pointer (some (s 4))) from rfl]
  have hF := find_c q R P id w h hG
  rw [ha, Option.isSome_none] at hF
  generalize lowI P id = i at hF
  have HF := Lib.hid hF
  have HS := Lib.hid hs
  clear hF h hG ha hs
  go_enter Tryd.func9, Tryd.ntmps9
  go_wp2_with fail
  refine HF.out.mono ?_
  rintro e w2 ⟨rfl, hb2⟩
  have e2 : w2.cell? ⟨4, 0, none⟩ = some (.iface 102 (.pointer (some (s 4)))) := (HS.out.below hb2 (Nat.le_refl _)).cell 4 (by omega)
  go_wp2_with fail
  go_ret
  exact ⟨rfl, by (repeat' (first | (with_reducible exact Below.refl _ _) | (with_reducible refine below_drewN ?_ _) | (with_reducible refine Below.drew ?_) | (with_reducible refine Below.alloc ?_ ?_ _) | (with_reducible refine Below.setCell ?_ ?_ _) | (with_reducible refine Below.trans ?_ (Below.mono (by with_reducible assumption) ?_)) | omega | (simp only [World.size_alloc] at *; omega) | (with_reducible refine Below.size (B := 0) ?_)))⟩

set_option maxRecDepth 100000 in
set_option maxHeartbeats 1600000 in
theorem drop_some (q R : Nat) (P : List Mc) (id : Int) (x : Mc) (w : World) (h : PPk w q R P) (hG : GP P) (ha : atP P id = some x) :
    Calls Tryd.prog 9 #[.pointer (some ⟨q, 0, none⟩), .int .i64 id] w fun e w' => e = .returned .nilIface ∧ PPk w' q R (P.filter fun m => !(m.id == id)) ∧ Chg q R w w' := by
  have hF := find_c q R P id w h hG
  rw [ha, Option.isSome_some] at hF
  have hx := at_lowI hG.ord ha
  have hil := (List.getElem?_eq_some_iff.1 hx).1
  have hda := drop_at hG.ord ha
  rw [← hda]
  clear hda
  have hl24 := hG.len
  generalize lowI P id = i at hF hx hil ⊢
  have hi0 : (0 : Int) ≤ (i : Int) := by omega
  have hi9 : (i : Int) + 1 ≤ 24 := by omega
  have HF := Lib.hid hF
  have H1 := Lib.hid h
  clear hF h hG ha hl24
  go_enter Tryd.func9, Tryd.ntmps9
  go_wp2_with fail
  refine HF.out.mono ?_
  rintro e w2 ⟨rfl, hb2⟩
  have HQ := Lib.hid (H1.out.on hb2).lt
  obtain ⟨A, c, a0, af, ho, hR, cx⟩ := (H1.out.on hb2).cells
  obtain ⟨ad, rfl, _, rfl, _⟩ := cx i x hx
  have hqR : q ≠ R := by have := (ho.lt R rfl).1; omega
  have hD := delete_Mc (q + 1) R c i (i + 1) P w2 ho rfl hil
  rw [show ((i + 1 : Nat) : Int) = (i : Int) + 1 by omega] at hD
  generalize (P.take i ++ P.drop (i + 1)).length = N at hD
  have HD := Lib.hid hD
  obtain ⟨v0, hh0, _⟩ := H1.out.on hb2
  have HH0 := Lib.hid hh0
  have HB := Lib.hid hb2
  clear hD cx hR ho hx hil hh0 hb2 H1
  go_wp2_with fail
  refine HD.out.mono ?_
  rintro e w3 ⟨rfl, ho3, hg3⟩
  have h3 : w3.heap[q]? = some (.cells #[v0] 57 (0, 0)) := (hg3.block q (by have := HQ.out; omega) (by simp; exact hqR)).trans HH0.out
  have a3 := cell_of_heap h3 0
  have af3 : ∀ j, w3.frozen? ⟨q, j, none⟩ = false := fun j => frozen_of_heap h3 j
  have HH3 := Lib.hid h3
  have HO3 := Lib.hid ho3
  have HG3 := Lib.hid hg3
  clear h3 ho3 hg3 a0 af
  go_wp2_with fail
  go_ret
  refine ⟨rfl, ?_, ?_⟩
  · exact PPk.put HH3.out HO3.out
  · exact Chg.setCell (p := q) (q := R) (ad := ⟨q, 0, none⟩) ((Chg.of_below HB.out).grown HG3.out (fun k hk => by cases hk; exact .inr (.inl rfl))) (.inl rfl) _
/-- Drop, whatever is there. -/
theorem drop_c (s : Nat → Addr) (q R : Nat) (P : List Mc) (id : Int) (w : World) (hs : Sent s w) (h : PPk w q R P) (hG : GP P) :
    Calls Tryd.prog 9 #[.pointer (some ⟨q, 0, none⟩), .int .i64 id] w fun e w' => e = .returned (errV s (dropP P id).2) ∧ PPk w' q R (dropP P id).1 ∧ Chg q R w w' := by
  unfold dropP
  cases ha : atP P id with
  | some x => exact drop_some q R P id x w h hG ha
  | none => exact (drop_none s q R P id w hs h hG ha).mono fun e w' ⟨he, hb⟩ => ⟨he, h.on hb, Chg.of_below hb⟩

set_option maxRecDepth 100000 in
set_option maxHeartbeats 1600000 in
theorem set_none (s : Nat → Addr) (q R : Nat) (P : List Mc) (id st : Int) (w : World) (hs : Sent s w) (h : PPk w q R P) (hG : GP P) (ha : atP P id = none) :
    Calls Tryd.prog 11 #[.pointer (some ⟨q, 0, none⟩), .int .i64 id, .int .i64 st] w fun e w' => e = .returned (errV s 5) ∧ Below w.heap.size w w' := by
  rw [show errV s 5 = .iface 102 (.pointer (some (s 4))) from rfl]
  have hF := find_c q R P id w h hG
  rw [ha, Option.isSome_none] at hF
  generalize lowI P id = i at hF
  have HF := Lib.hid hF
  have HS := Lib.hid hs
  clear hF h hG ha hs
  go_enter Tryd.func11, Tryd.ntmps11
  go_wp2_with fail
  refine HF.out.mono ?_
  rintro e w2 ⟨rfl, hb2⟩
  have e2 : w2.cell? ⟨4, 0, none⟩ = some (.iface 102 (.pointer (some (s 4)))) := (HS.out.below hb2 (Nat.le_refl _)).cell 4 (by omega)
  go_wp2_with fail
  go_ret
  exact ⟨rfl, by (repeat' (first | (with_reducible exact Below.refl _ _) | (with_reducible refine below_drewN ?_ _) | (with_reducible refine Below.drew ?_) | (with_reducible refine Below.alloc ?_ ?_ _) | (with_reducible refine Below.setCell ?_ ?_ _) | (with_reducible refine Below.trans ?_ (Below.mono (by with_reducible assumption) ?_)) | omega | (simp only [World.size_alloc] at *; omega) | (with_reducible refine Below.size (B := 0) ?_)))⟩

set_option maxRecDepth 100000 in
set_option maxHeartbeats 1600000 in
theorem set_bad (s : Nat → Addr) (q R : Nat) (P : List Mc) (id st : Int) (x : Mc) (w : World) (hs : Sent s w) (h : PPk w q R P) (hG : GP P) (ha : atP P id = some x) (hb : st < 0 ∨ 2 < st) :
    Calls Tryd.prog 11 #[.pointer (some ⟨q, 0, none⟩), .int .i64 id, .int .i64 st] w fun e w' => e = .returned (errV s 1) ∧ Below w.heap.size w w' := by
  rw [show errV s 1 = .iface 102 (.pointer (some (s 0))) from rfl]
  have hF := find_c q R P id w h hG
  rw [ha, Option.isSome_some] at hF
  generalize lowI P id = i at hF
  have HF := Lib.hid hF
  have HS := Lib.hid hs
  have b0 : (st != 0) = true := by simp; omega
  have b1 : (st != 1) = true := by simp; omega
  have b2 : (st != 2) = true := by simp; omega
  clear hF h hG ha hs hb
  go_enter Tryd.func11, Tryd.ntmps11
  go_wp2_with fail
  refine HF.out.mono ?_
  rintro e w2 ⟨rfl, hb2⟩
  have e2 : w2.cell? ⟨0, 0, none⟩ = some (.iface 102 (.pointer (some (s 0)))) := (HS.out.below hb2 (Nat.le_refl _)).cell 0 (by omega)
  go_wp2_with fail
  go_ret
  exact ⟨rfl, by (repeat' (first | (with_reducible exact Below.refl _ _) | (with_reducible refine below_drewN ?_ _) | (with_reducible refine Below.drew ?_) | (with_reducible refine Below.alloc ?_ ?_ _) | (with_reducible refine Below.setCell ?_ ?_ _) | (with_reducible refine Below.trans ?_ (Below.mono (by with_reducible assumption) ?_)) | omega | (simp only [World.size_alloc] at *; omega) | (with_reducible refine Below.size (B := 0) ?_)))⟩

set_option maxRecDepth 100000 in
set_option maxHeartbeats 3200000 in
theorem set_same (s : Nat → Addr) (q R : Nat) (P : List Mc) (id st : Int) (x : Mc) (w : World) (hs : Sent s w) (h : PPk w q R P) (hG : GP P) (ha : atP P id = some x) (hb : 0 ≤ st ∧ st ≤ 2) (he : x.st = st) :
    Calls Tryd.prog 11 #[.pointer (some ⟨q, 0, none⟩), .int .i64 id, .int .i64 st] w fun e w' => e = .returned (errV s 13) ∧ Below w.heap.size w w' := by
  rw [show errV s 13 = .iface 102 (.pointer (some (s 12))) from rfl]
  have hF := find_c q R P id w h hG
  rw [ha, Option.isSome_some] at hF
  have hx := at_lowI hG.ord ha
  have hil := (List.getElem?_eq_some_iff.1 hx).1
  generalize lowI P id = i at hF hx hil
  have HF := Lib.hid hF
  have HS := Lib.hid hs
  have HX := Lib.hid hx
  have H1 := Lib.hid h
  have hi0 : (0 : Int) ≤ (i : Int) := by omega
  have hi1 : (i : Int) < (P.length : Int) := by omega
  clear hF h hG ha hs hx
  obtain ⟨xid, xcell, xhas, xst⟩ := x
  simp only at he
  subst he
  have hc : xst = 0 ∨ xst = 1 ∨ xst = 2 := by omega
  clear hb
  rcases hc with rfl | rfl | rfl
  all_goals
    go_enter Tryd.func11, Tryd.ntmps11
    go_wp2_with fail
    refine HF.out.mono ?_
    rintro e w2 ⟨rfl, hb2⟩
    have e2 : w2.cell? ⟨12, 0, none⟩ = some (.iface 102 (.pointer (some (s 12)))) := (HS.out.below hb2 (Nat.le_refl _)).cell 12 (by omega)
    obtain ⟨A, c, a0, af, _, _, cx⟩ := (H1.out.on hb2).cells
    obtain ⟨ad, rfl, ea, _, rf, x0, x1, x2, x3, x4, x5, x6⟩ := cx i _ HX.out
    clear cx
    go_wp2_with fail
    go_ret
    exact ⟨rfl, by (repeat' (first | (with_reducible exact Below.refl _ _) | (with_reducible refine below_drewN ?_ _) | (with_reducible refine Below.drew ?_) | (with_reducible refine Below.alloc ?_ ?_ _) | (with_reducible refine Below.setCell ?_ ?_ _) | (with_reducible refine Below.trans ?_ (Below.mono (by with_reducible assumption) ?_)) | omega | (simp only [World.size_alloc] at *; omega) | (with_reducible refine Below.size (B := 0) ?_)))⟩

set_option maxRecDepth 100000 in
set_option maxHeartbeats 3200000 in
theorem set_some (q R : Nat) (P : List Mc) (id st : Int) (x : Mc) (w : World) (h : PPk w q R P) (hG : GP P) (ha : atP P id = some x) (hb : 0 ≤ st ∧ st ≤ 2) (he : x.st ≠ st) :
    Calls Tryd.prog 11 #[.pointer (some ⟨q, 0, none⟩), .int .i64 id, .int .i64 st] w fun e w' => e = .returned .nilIface ∧ PPk w' q R (P.map fun x => if x.id = id then { x with st := st } else x) ∧ Chg q R w w' := by
  have hF := find_c q R P id w h hG
  rw [ha, Option.isSome_some] at hF
  have hx := at_lowI hG.ord ha
  have hil := (List.getElem?_eq_some_iff.1 hx).1
  rw [← set_at hG.ord ha st]
  generalize lowI P id = i at hF hx hil ⊢
  have HF := Lib.hid hF
  have HX := Lib.hid hx
  have H1 := Lib.hid h
  have hi0 : (0 : Int) ≤ (i : Int) := by omega
  have hi1 : (i : Int) < (P.length : Int) := by omega
  have hs0 : (x.st == st) = false := beq_eq_false_iff_ne.2 he
  clear hF h hG ha hx he
  have hc : st = 0 ∨ st = 1 ∨ st = 2 := by omega
  clear hb
  rcases hc with rfl | rfl | rfl
  all_goals
    go_enter Tryd.func11, Tryd.ntmps11
    go_wp2_with fail
    refine HF.out.mono ?_
    rintro e w2 ⟨rfl, hb2⟩
    obtain ⟨A, c, a0, af, ho, hR, cx⟩ := (H1.out.on hb2).cells
    obtain ⟨ad, rfl, ea, rfl, rf, x0, x1, x2, x3, x4, x5, x6⟩ := cx i _ HX.out
    obtain ⟨v0, hh0, hov, hRv⟩ := H1.out.on hb2
    have hqR : q ≠ R := by have := (ho.lt R rfl).1; omega
    have HO := Lib.hid ho
    have HH0 := Lib.hid hh0
    have HB := Lib.hid hb2
    have ev : v0 = .slice (some ⟨R, 0, none⟩) P.length c := by
      have := cell_of_heap hh0 0
      rw [a0] at this
      simpa using this.symm
    have EV := Lib.hid ev
    clear cx ho hR hh0 hb2 hov hRv ev
    go_wp2_with fail
    go_ret
    refine ⟨rfl, ⟨v0, ?_, ?_, ?_⟩, ?_⟩
    · rw [heap_setCell_other _ ⟨R, i * 7 + 6, none⟩ q _ hqR]; exact HH0.out
    · have k := fun t : Int => HO.out.stored (i := i) (r := 6) HX.out (by decide) (x' := { x with st := t }) (u := .int .i64 t) rfl
      simp only [List.length_set] at k
      rw [EV.out]
      exact k _
    · rw [EV.out]; rfl
    · exact Chg.setCell (p := q) (q := R) (ad := ⟨R, i * 7 + 6, none⟩) (Chg.of_below HB.out) (.inr (.inl rfl)) _
/-- Set, whatever is there. -/
theorem set_c (s : Nat → Addr) (q R : Nat) (P : List Mc) (id st : Int) (w : World) (hs : Sent s w) (h : PPk w q R P) (hG : GP P) :
    Calls Tryd.prog 11 #[.pointer (some ⟨q, 0, none⟩), .int .i64 id, .int .i64 st] w fun e w' => e = .returned (errV s (setP P id st).2) ∧ PPk w' q R (setP P id st).1 ∧ Chg q R w w' := by
  unfold setP
  cases ha : atP P id with
  | none => exact (set_none s q R P id st w hs h hG ha).mono fun e w' ⟨he, hb⟩ => ⟨he, h.on hb, Chg.of_below hb⟩
  | some x =>
    by_cases hb : st < 0 ∨ 2 < st
    · simp only [if_pos hb]
      exact (set_bad s q R P id st x w hs h hG ha hb).mono fun e w' ⟨he, hb⟩ => ⟨he, h.on hb, Chg.of_below hb⟩
    · simp only [if_neg hb]
      by_cases he : x.st = st
      · simp only [if_pos he]
        exact (set_same s q R P id st x w hs h hG ha (by omega) he).mono fun e w' ⟨he, hb⟩ => ⟨he, h.on hb, Chg.of_below hb⟩
      · simp only [if_neg he]
        exact set_some q R P id st x w h hG ha (by omega) he
end Go.Proofs.YtaenpajmgenjhaaDoor
