/- The program's book of envelopes by contracts: Put. Conditions: the book lies in memory as its maps have it; the sentinels lie where the program's text lays them. -/
import Derived.Test.YtfikkjdkgigikaaDoorAlF
import Derived.Test.YtfikkjdkgigikaaDoorVbs
namespace Go.Proofs.YtfikkjdkgigikaaDoor
open Go Go.RowKit Go.Maps

section
variable {w : World} {P : Nat → Prop} {q b1 b2 : Nat} {T1 : List (Int × Option (Nat × Nat))} {T2 : List (Tk × SeatR)} {bl : Int → Nat} {G : AG}
set_option maxRecDepth 100000 in
set_option maxHeartbeats 3200000 in
/-- Book.Put: there is no such envelope. -/
theorem aput_find (s : Nat → Addr) (h : AlP w P q b1 b2 T1 T2 bl G) (hs : SentP s P w) (t : Tk) (v : V4) {id pos : Int} (hid : i64 id) (h0 : 0 < findE G id pos) :
    Calls Tryd.prog 20 #[.pointer (some ⟨q, 0, none⟩), .agg #[.int .i64 t.job, .int .i64 t.ix], .int .i64 id, .int .i64 pos, .agg #[.int .i64 v.a, .int .i64 v.b, .int .i64 v.c, .int .i64 v.d]] w fun e w' => e = .returned (errV s (findE G id pos)) ∧ Below w.heap.size w w' := by
  obtain ⟨W1, hW1⟩ : ∃ W1, (w.alloc (.cells #[.int .i64 t.job, .int .i64 t.ix] 32)).alloc (.cells #[.int .i64 v.a, .int .i64 v.b, .int .i64 v.c, .int .i64 v.d] 34) = W1 := ⟨_, rfl⟩
  have hb1 : Below w.heap.size w W1 := by rw [← hW1]; exact ((Below.refl _ _).alloc (Nat.le_refl _) _).alloc (by simp) _
  have HF := Lib.hid (afind_no s (h.on hb1) (hs.on hb1).here h0 hid)
  have HW1 := Lib.hid hW1; have HB1 := Lib.hid hb1
  obtain ⟨E, hE⟩ : ∃ E, findE G id pos = E + 1 := ⟨findE G id pos - 1, by omega⟩
  rw [hE] at HF ⊢
  rw [errA s (E + 1) (by omega)] at HF ⊢
  clear h hs h0 hE hW1 hb1
  go_enter Tryd.func20, Tryd.ntmps20
  go_wp2_with fail
  rw [HW1.out]
  refine HF.out.mono ?_
  rintro e w2 ⟨rfl, b2⟩
  go_wp2_with fail
  go_ret
  exact ⟨rfl, HB1.out.trans (b2.mono HB1.out.size)⟩

set_option maxRecDepth 100000 in
set_option maxHeartbeats 3200000 in
/-- Book.Put: the demand is not valid. -/
theorem aput_arg (s : Nat → Addr) (h : AlP w P q b1 b2 T1 T2 bl G) (hs : SentP s P w) {t : Tk} (ht : okT t) (v : V4) {id : Int} (hid : i64 id) {sA : SetA} {k : Nat} (e : setA G id = some sA) (hk : k < sA.n) (hg : goodV v = false) :
    Calls Tryd.prog 20 #[.pointer (some ⟨q, 0, none⟩), .agg #[.int .i64 t.job, .int .i64 t.ix], .int .i64 id, .int .i64 (k : Int), .agg #[.int .i64 v.a, .int .i64 v.b, .int .i64 v.c, .int .i64 v.d]] w fun e w' => e = .returned (errV s 1) ∧ Below w.heap.size w w' := by
  obtain ⟨b, hb⟩ : ∃ b, (tkA G t).isSome = b := ⟨_, rfl⟩
  obtain ⟨x, hx⟩ : ∃ x, seatA G t = x := ⟨_, rfl⟩
  obtain ⟨X, hX⟩ : ∃ X, w.heap.size = X := ⟨_, rfl⟩
  obtain ⟨W1, hW1⟩ : ∃ W1, (w.alloc (.cells #[.int .i64 t.job, .int .i64 t.ix] 32)).alloc (.cells #[.int .i64 v.a, .int .i64 v.b, .int .i64 v.c, .int .i64 v.d] 34) = W1 := ⟨_, rfl⟩
  have hb1 : Below w.heap.size w W1 := by rw [← hW1]; exact ((Below.refl _ _).alloc (Nat.le_refl _) _).alloc (by simp) _
  have k1 : W1.heap[X]? = some (.cells #[.int .i64 t.job, .int .i64 t.ix] 32 (0, 0)) := by rw [← hW1, ← hX]; exact (Below.heap_alloc _ _ _ (by simp)).trans (heap_alloc_new _ _)
  have v1 : Vb W1 (X + 1) v := by
    rw [← hW1, ← hX]
    have := Vb.new_at (w := w.alloc (.cells #[.int .i64 t.job, .int .i64 t.ix] 32)) (g := w.heap.size + 1) (by simp) v
    exact this
  have hXW : X + 1 < W1.heap.size := lt_of_row v1
  have h1 := h.on hb1
  have HC : Hid (∀ W, Below W1.heap.size W1 W → (W.cell? ⟨X, 0, none⟩ = some (.int .i64 t.job) ∧ W.cell? ⟨X, 1, none⟩ = some (.int .i64 t.ix) ∧ W.cell? ⟨q, 1, none⟩ = some (.map (some b2)) ∧ (Instr.lookup 75 (.map (some b2)) (.agg #[.int .i64 t.job, .int .i64 t.ix]) true).run Tryd.prog W = .ok (.tuple #[.agg #[.int .i64 x.set, .int .i64 x.pos, .int .i64 x.need.a, .int .i64 x.need.b, .int .i64 x.need.c, .int .i64 x.need.d], .bool b]) W)) := Lib.hid fun W hW => ⟨cell_of_heap ((hW.block X (by omega)).trans k1) 0, cell_of_heap ((hW.block X (by omega)).trans k1) 1, cell_of_heap (h1.on hW).box 1, (h1.on hW).lk2 ht hx hb⟩
  obtain ⟨W3, hW3⟩ : ∃ W3, (W1.alloc (.cells #[.int .i64 x.set, .int .i64 x.pos, .int .i64 x.need.a, .int .i64 x.need.b, .int .i64 x.need.c, .int .i64 x.need.d] 86)).drew = W3 := ⟨_, rfl⟩
  have hb3 : Below W1.heap.size W1 W3 := by rw [← hW3]; exact ((Below.refl _ _).alloc (Nat.le_refl _) _).drew
  have h3 := h1.on hb3
  have hs3 := (hs.on hb1).on hb3
  have v3 : Vb W3 (X + 1) v := v1.below hb3 hXW
  have hb3' : Below w.heap.size w W3 := hb1.trans (hb3.mono hb1.size)
  have HF := Lib.hid (afind_ok h1 e hk hid)
  obtain ⟨gE, hgE⟩ : ∃ gE, bl id = gE := ⟨_, rfl⟩
  rw [hgE] at HF
  have HX := Lib.hid hX; have HW1 := Lib.hid hW1; have HW3 := Lib.hid hW3; have HB3 := Lib.hid hb3'
  have HGD : Hid (∀ W, Calls Tryd.prog 30 #[.agg #[.int .i64 v.a, .int .i64 v.b, .int .i64 v.c, .int .i64 v.d]] W fun e w' => e = .returned (.bool (goodV v)) ∧ Below W.heap.size W w') := Lib.hid fun W => good_c v W
  have e0 := hs3.here.cell 0 (by omega)
  simp only [gnum, List.getD_cons_zero] at e0
  obtain ⟨c0, c1, c2, c3, c4, cf⟩ := h3.cells e hk
  rw [hgE] at c0 c1 c2 c3 c4 cf
  have HV3 := Lib.hid v3
  have HCE : Hid (∀ w5, Below W3.heap.size W3 w5 → w5.cell? ⟨gE, k * 5, none⟩ = some (.bool (sA.up k)) ∧ w5.cell? ⟨gE, k * 5 + 1, none⟩ = some (.int .i64 (leftA G sA k).a) ∧ w5.cell? ⟨gE, k * 5 + 2, none⟩ = some (.int .i64 (leftA G sA k).b) ∧ w5.cell? ⟨gE, k * 5 + 3, none⟩ = some (.int .i64 (leftA G sA k).c) ∧ w5.cell? ⟨gE, k * 5 + 4, none⟩ = some (.int .i64 (leftA G sA k).d) ∧ ∀ j, w5.frozen? ⟨gE, j, none⟩ = false) := Lib.hid fun w5 hb => by
    have := (h3.on hb).cells e hk
    rw [hgE] at this; exact this
  have HEE : Hid (∀ w5, Below W3.heap.size W3 w5 → w5.cell? ⟨0, 0, none⟩ = some (.iface 161 (.pointer (some (s 0))))) := Lib.hid fun w5 hb => (hb.cell (lt_of_cell e0)).trans e0
  rw [hg] at HGD
  rw [errA s 1 (by omega)]
  clear h hs hX hW1 k1 v1 hb1 hXW h1 hb3 h3 hs3 v3 hb3' hgE hx hW3 e hk hb hg c0 c1 c2 c3 c4 cf e0
  go_enter Tryd.func20, Tryd.ntmps20
  go_wp2_with fail
  rw [HW1.out, HX.out]
  refine HF.out.mono ?_
  rintro e w2 ⟨rfl, rfl⟩
  go_wp2_with fail
  go_region_held3 (fun W => W.cell? ⟨X, 0, none⟩ = some (.int .i64 t.job) ∧ W.cell? ⟨X, 1, none⟩ = some (.int .i64 t.ix) ∧ W.cell? ⟨q, 1, none⟩ = some (.map (some b2)) ∧ (Instr.lookup 75 (.map (some b2)) (.agg #[.int .i64 t.job, .int .i64 t.ix]) true).run Tryd.prog W = .ok (.tuple #[.agg #[.int .i64 x.set, .int .i64 x.pos, .int .i64 x.need.a, .int .i64 x.need.b, .int .i64 x.need.c, .int .i64 x.need.d], .bool b]) W)
    (first | exact HC.out _ (by (repeat' (first | (with_reducible exact Below.refl _ _) | (with_reducible refine below_drewN ?_ _) | (with_reducible refine Below.drew ?_) | (with_reducible refine Below.alloc ?_ ?_ _) | (with_reducible refine Below.setCell ?_ ?_ _) | (with_reducible refine Below.trans ?_ (Below.mono (by with_reducible assumption) ?_)) | omega | (simp only [World.size_alloc, World.size_setCell, World.size_drew, Go.Proofs.YtfikkjdkgigikaaDoor.World.size_drewN] at *; omega) | (with_reducible refine Below.size (B := 0) ?_)))))
    (fail)
  all_goals
    rw [HW3.out]
    obtain ⟨p0, p1, p2, p3, pf, pl⟩ := HV3.out.facts
    go_wp2_with fail
    refine (HGD.out _).mono ?_
    rintro e w5 ⟨rfl, b5⟩
    have hb5 : Below w.heap.size w w5 := HB3.out.trans (b5.mono HB3.out.size)
    obtain ⟨c0, c1, c2, c3, c4, cf⟩ := HCE.out w5 b5
    obtain ⟨p0, p1, p2, p3, pf, pl⟩ := (HV3.out.below b5 (lt_of_row HV3.out)).facts
    have ee := HEE.out w5 b5
    clear b5 c0 c1 c2 c3 c4 cf
    go_wp2_with fail
    go_ret
    exact ⟨rfl, hb5⟩

set_option maxRecDepth 100000 in
set_option maxHeartbeats 3200000 in
/-- Book.Put: the envelope is down. -/
theorem aput_down (s : Nat → Addr) (h : AlP w P q b1 b2 T1 T2 bl G) (hs : SentP s P w) {t : Tk} (ht : okT t) (v : V4) {id : Int} (hid : i64 id) {sA : SetA} {k : Nat} (e : setA G id = some sA) (hk : k < sA.n) (hg : goodV v = true) (hu : sA.up k = false) :
    Calls Tryd.prog 20 #[.pointer (some ⟨q, 0, none⟩), .agg #[.int .i64 t.job, .int .i64 t.ix], .int .i64 id, .int .i64 (k : Int), .agg #[.int .i64 v.a, .int .i64 v.b, .int .i64 v.c, .int .i64 v.d]] w fun e w' => e = .returned (errV s 13) ∧ Below w.heap.size w w' := by
  obtain ⟨b, hb⟩ : ∃ b, (tkA G t).isSome = b := ⟨_, rfl⟩
  obtain ⟨x, hx⟩ : ∃ x, seatA G t = x := ⟨_, rfl⟩
  obtain ⟨X, hX⟩ : ∃ X, w.heap.size = X := ⟨_, rfl⟩
  obtain ⟨W1, hW1⟩ : ∃ W1, (w.alloc (.cells #[.int .i64 t.job, .int .i64 t.ix] 32)).alloc (.cells #[.int .i64 v.a, .int .i64 v.b, .int .i64 v.c, .int .i64 v.d] 34) = W1 := ⟨_, rfl⟩
  have hb1 : Below w.heap.size w W1 := by rw [← hW1]; exact ((Below.refl _ _).alloc (Nat.le_refl _) _).alloc (by simp) _
  have k1 : W1.heap[X]? = some (.cells #[.int .i64 t.job, .int .i64 t.ix] 32 (0, 0)) := by rw [← hW1, ← hX]; exact (Below.heap_alloc _ _ _ (by simp)).trans (heap_alloc_new _ _)
  have v1 : Vb W1 (X + 1) v := by
    rw [← hW1, ← hX]
    have := Vb.new_at (w := w.alloc (.cells #[.int .i64 t.job, .int .i64 t.ix] 32)) (g := w.heap.size + 1) (by simp) v
    exact this
  have hXW : X + 1 < W1.heap.size := lt_of_row v1
  have h1 := h.on hb1
  have HC : Hid (∀ W, Below W1.heap.size W1 W → (W.cell? ⟨X, 0, none⟩ = some (.int .i64 t.job) ∧ W.cell? ⟨X, 1, none⟩ = some (.int .i64 t.ix) ∧ W.cell? ⟨q, 1, none⟩ = some (.map (some b2)) ∧ (Instr.lookup 75 (.map (some b2)) (.agg #[.int .i64 t.job, .int .i64 t.ix]) true).run Tryd.prog W = .ok (.tuple #[.agg #[.int .i64 x.set, .int .i64 x.pos, .int .i64 x.need.a, .int .i64 x.need.b, .int .i64 x.need.c, .int .i64 x.need.d], .bool b]) W)) := Lib.hid fun W hW => ⟨cell_of_heap ((hW.block X (by omega)).trans k1) 0, cell_of_heap ((hW.block X (by omega)).trans k1) 1, cell_of_heap (h1.on hW).box 1, (h1.on hW).lk2 ht hx hb⟩
  obtain ⟨W3, hW3⟩ : ∃ W3, (W1.alloc (.cells #[.int .i64 x.set, .int .i64 x.pos, .int .i64 x.need.a, .int .i64 x.need.b, .int .i64 x.need.c, .int .i64 x.need.d] 86)).drew = W3 := ⟨_, rfl⟩
  have hb3 : Below W1.heap.size W1 W3 := by rw [← hW3]; exact ((Below.refl _ _).alloc (Nat.le_refl _) _).drew
  have h3 := h1.on hb3
  have hs3 := (hs.on hb1).on hb3
  have v3 : Vb W3 (X + 1) v := v1.below hb3 hXW
  have hb3' : Below w.heap.size w W3 := hb1.trans (hb3.mono hb1.size)
  have HF := Lib.hid (afind_ok h1 e hk hid)
  obtain ⟨gE, hgE⟩ : ∃ gE, bl id = gE := ⟨_, rfl⟩
  rw [hgE] at HF
  have HX := Lib.hid hX; have HW1 := Lib.hid hW1; have HW3 := Lib.hid hW3; have HB3 := Lib.hid hb3'
  have HGD : Hid (∀ W, Calls Tryd.prog 30 #[.agg #[.int .i64 v.a, .int .i64 v.b, .int .i64 v.c, .int .i64 v.d]] W fun e w' => e = .returned (.bool (goodV v)) ∧ Below W.heap.size W w') := Lib.hid fun W => good_c v W
  have e12 := hs3.here.cell 12 (by omega)
  simp only [gnum, List.getD_cons_zero, List.getD_cons_succ] at e12
  obtain ⟨c0, c1, c2, c3, c4, cf⟩ := h3.cells e hk
  rw [hgE] at c0 c1 c2 c3 c4 cf
  have HV3 := Lib.hid v3
  have HCE : Hid (∀ w5, Below W3.heap.size W3 w5 → w5.cell? ⟨gE, k * 5, none⟩ = some (.bool (sA.up k)) ∧ w5.cell? ⟨gE, k * 5 + 1, none⟩ = some (.int .i64 (leftA G sA k).a) ∧ w5.cell? ⟨gE, k * 5 + 2, none⟩ = some (.int .i64 (leftA G sA k).b) ∧ w5.cell? ⟨gE, k * 5 + 3, none⟩ = some (.int .i64 (leftA G sA k).c) ∧ w5.cell? ⟨gE, k * 5 + 4, none⟩ = some (.int .i64 (leftA G sA k).d) ∧ ∀ j, w5.frozen? ⟨gE, j, none⟩ = false) := Lib.hid fun w5 hb => by
    have := (h3.on hb).cells e hk
    rw [hgE] at this; exact this
  have HEE : Hid (∀ w5, Below W3.heap.size W3 w5 → w5.cell? ⟨12, 0, none⟩ = some (.iface 161 (.pointer (some (s 12))))) := Lib.hid fun w5 hb => (hb.cell (lt_of_cell e12)).trans e12
  rw [hu] at HCE
  rw [hg] at HGD
  rw [errA s 13 (by omega)]
  clear h hs hX hW1 k1 v1 hb1 hXW h1 hb3 h3 hs3 v3 hb3' hgE hx hW3 e hk hb hg hu c0 c1 c2 c3 c4 cf e12
  go_enter Tryd.func20, Tryd.ntmps20
  go_wp2_with fail
  rw [HW1.out, HX.out]
  refine HF.out.mono ?_
  rintro e w2 ⟨rfl, rfl⟩
  go_wp2_with fail
  go_region_held3 (fun W => W.cell? ⟨X, 0, none⟩ = some (.int .i64 t.job) ∧ W.cell? ⟨X, 1, none⟩ = some (.int .i64 t.ix) ∧ W.cell? ⟨q, 1, none⟩ = some (.map (some b2)) ∧ (Instr.lookup 75 (.map (some b2)) (.agg #[.int .i64 t.job, .int .i64 t.ix]) true).run Tryd.prog W = .ok (.tuple #[.agg #[.int .i64 x.set, .int .i64 x.pos, .int .i64 x.need.a, .int .i64 x.need.b, .int .i64 x.need.c, .int .i64 x.need.d], .bool b]) W)
    (first | exact HC.out _ (by (repeat' (first | (with_reducible exact Below.refl _ _) | (with_reducible refine below_drewN ?_ _) | (with_reducible refine Below.drew ?_) | (with_reducible refine Below.alloc ?_ ?_ _) | (with_reducible refine Below.setCell ?_ ?_ _) | (with_reducible refine Below.trans ?_ (Below.mono (by with_reducible assumption) ?_)) | omega | (simp only [World.size_alloc, World.size_setCell, World.size_drew, Go.Proofs.YtfikkjdkgigikaaDoor.World.size_drewN] at *; omega) | (with_reducible refine Below.size (B := 0) ?_)))))
    (fail)
  all_goals
    rw [HW3.out]
    obtain ⟨p0, p1, p2, p3, pf, pl⟩ := HV3.out.facts
    go_wp2_with fail
    refine (HGD.out _).mono ?_
    rintro e w5 ⟨rfl, b5⟩
    have hb5 : Below w.heap.size w w5 := HB3.out.trans (b5.mono HB3.out.size)
    obtain ⟨c0, c1, c2, c3, c4, cf⟩ := HCE.out w5 b5
    obtain ⟨p0, p1, p2, p3, pf, pl⟩ := (HV3.out.below b5 (lt_of_row HV3.out)).facts
    have ee := HEE.out w5 b5
    clear b5
    go_wp2_with fail
    go_ret
    exact ⟨rfl, hb5⟩

set_option maxRecDepth 100000 in
set_option maxHeartbeats 3200000 in
/-- Book.Put: the task is inside one. -/
theorem aput_dup (s : Nat → Addr) (h : AlP w P q b1 b2 T1 T2 bl G) (hs : SentP s P w) {t : Tk} (ht : okT t) (v : V4) {id : Int} (hid : i64 id) {sA : SetA} {k : Nat} (e : setA G id = some sA) (hk : k < sA.n) (hg : goodV v = true) (hu : sA.up k = true) (hb : (tkA G t).isSome = true) :
    Calls Tryd.prog 20 #[.pointer (some ⟨q, 0, none⟩), .agg #[.int .i64 t.job, .int .i64 t.ix], .int .i64 id, .int .i64 (k : Int), .agg #[.int .i64 v.a, .int .i64 v.b, .int .i64 v.c, .int .i64 v.d]] w fun e w' => e = .returned (errV s 6) ∧ Below w.heap.size w w' := by
  obtain ⟨x, hx⟩ : ∃ x, seatA G t = x := ⟨_, rfl⟩
  obtain ⟨X, hX⟩ : ∃ X, w.heap.size = X := ⟨_, rfl⟩
  obtain ⟨W1, hW1⟩ : ∃ W1, (w.alloc (.cells #[.int .i64 t.job, .int .i64 t.ix] 32)).alloc (.cells #[.int .i64 v.a, .int .i64 v.b, .int .i64 v.c, .int .i64 v.d] 34) = W1 := ⟨_, rfl⟩
  have hb1 : Below w.heap.size w W1 := by rw [← hW1]; exact ((Below.refl _ _).alloc (Nat.le_refl _) _).alloc (by simp) _
  have k1 : W1.heap[X]? = some (.cells #[.int .i64 t.job, .int .i64 t.ix] 32 (0, 0)) := by rw [← hW1, ← hX]; exact (Below.heap_alloc _ _ _ (by simp)).trans (heap_alloc_new _ _)
  have v1 : Vb W1 (X + 1) v := by
    rw [← hW1, ← hX]
    have := Vb.new_at (w := w.alloc (.cells #[.int .i64 t.job, .int .i64 t.ix] 32)) (g := w.heap.size + 1) (by simp) v
    exact this
  have hXW : X + 1 < W1.heap.size := lt_of_row v1
  have h1 := h.on hb1
  have HC : Hid (∀ W, Below W1.heap.size W1 W → (W.cell? ⟨X, 0, none⟩ = some (.int .i64 t.job) ∧ W.cell? ⟨X, 1, none⟩ = some (.int .i64 t.ix) ∧ W.cell? ⟨q, 1, none⟩ = some (.map (some b2)) ∧ (Instr.lookup 75 (.map (some b2)) (.agg #[.int .i64 t.job, .int .i64 t.ix]) true).run Tryd.prog W = .ok (.tuple #[.agg #[.int .i64 x.set, .int .i64 x.pos, .int .i64 x.need.a, .int .i64 x.need.b, .int .i64 x.need.c, .int .i64 x.need.d], .bool true]) W)) := Lib.hid fun W hW => ⟨cell_of_heap ((hW.block X (by omega)).trans k1) 0, cell_of_heap ((hW.block X (by omega)).trans k1) 1, cell_of_heap (h1.on hW).box 1, (h1.on hW).lk2 ht hx hb⟩
  obtain ⟨W3, hW3⟩ : ∃ W3, (W1.alloc (.cells #[.int .i64 x.set, .int .i64 x.pos, .int .i64 x.need.a, .int .i64 x.need.b, .int .i64 x.need.c, .int .i64 x.need.d] 86)).drew = W3 := ⟨_, rfl⟩
  have hb3 : Below W1.heap.size W1 W3 := by rw [← hW3]; exact ((Below.refl _ _).alloc (Nat.le_refl _) _).drew
  have h3 := h1.on hb3
  have hs3 := (hs.on hb1).on hb3
  have v3 : Vb W3 (X + 1) v := v1.below hb3 hXW
  have hb3' : Below w.heap.size w W3 := hb1.trans (hb3.mono hb1.size)
  have HF := Lib.hid (afind_ok h1 e hk hid)
  obtain ⟨gE, hgE⟩ : ∃ gE, bl id = gE := ⟨_, rfl⟩
  rw [hgE] at HF
  have HX := Lib.hid hX; have HW1 := Lib.hid hW1; have HW3 := Lib.hid hW3; have HB3 := Lib.hid hb3'
  have HGD : Hid (∀ W, Calls Tryd.prog 30 #[.agg #[.int .i64 v.a, .int .i64 v.b, .int .i64 v.c, .int .i64 v.d]] W fun e w' => e = .returned (.bool (goodV v)) ∧ Below W.heap.size W w') := Lib.hid fun W => good_c v W
  have e5 := hs3.here.cell 5 (by omega)
  simp only [gnum, List.getD_cons_zero, List.getD_cons_succ] at e5
  obtain ⟨c0, c1, c2, c3, c4, cf⟩ := h3.cells e hk
  rw [hgE] at c0 c1 c2 c3 c4 cf
  have HV3 := Lib.hid v3
  have HCE : Hid (∀ w5, Below W3.heap.size W3 w5 → w5.cell? ⟨gE, k * 5, none⟩ = some (.bool (sA.up k)) ∧ w5.cell? ⟨gE, k * 5 + 1, none⟩ = some (.int .i64 (leftA G sA k).a) ∧ w5.cell? ⟨gE, k * 5 + 2, none⟩ = some (.int .i64 (leftA G sA k).b) ∧ w5.cell? ⟨gE, k * 5 + 3, none⟩ = some (.int .i64 (leftA G sA k).c) ∧ w5.cell? ⟨gE, k * 5 + 4, none⟩ = some (.int .i64 (leftA G sA k).d) ∧ ∀ j, w5.frozen? ⟨gE, j, none⟩ = false) := Lib.hid fun w5 hb => by
    have := (h3.on hb).cells e hk
    rw [hgE] at this; exact this
  have HEE : Hid (∀ w5, Below W3.heap.size W3 w5 → w5.cell? ⟨5, 0, none⟩ = some (.iface 161 (.pointer (some (s 5))))) := Lib.hid fun w5 hb => (hb.cell (lt_of_cell e5)).trans e5
  rw [hu] at HCE
  rw [hg] at HGD
  rw [errA s 6 (by omega)]
  clear h hs hX hW1 k1 v1 hb1 hXW h1 hb3 h3 hs3 v3 hb3' hgE hx hW3 e hk hb hg hu c0 c1 c2 c3 c4 cf e5
  go_enter Tryd.func20, Tryd.ntmps20
  go_wp2_with fail
  rw [HW1.out, HX.out]
  refine HF.out.mono ?_
  rintro e w2 ⟨rfl, rfl⟩
  go_wp2_with fail
  go_region_held3 (fun W => W.cell? ⟨X, 0, none⟩ = some (.int .i64 t.job) ∧ W.cell? ⟨X, 1, none⟩ = some (.int .i64 t.ix) ∧ W.cell? ⟨q, 1, none⟩ = some (.map (some b2)) ∧ (Instr.lookup 75 (.map (some b2)) (.agg #[.int .i64 t.job, .int .i64 t.ix]) true).run Tryd.prog W = .ok (.tuple #[.agg #[.int .i64 x.set, .int .i64 x.pos, .int .i64 x.need.a, .int .i64 x.need.b, .int .i64 x.need.c, .int .i64 x.need.d], .bool true]) W)
    (first | exact HC.out _ (by (repeat' (first | (with_reducible exact Below.refl _ _) | (with_reducible refine below_drewN ?_ _) | (with_reducible refine Below.drew ?_) | (with_reducible refine Below.alloc ?_ ?_ _) | (with_reducible refine Below.setCell ?_ ?_ _) | (with_reducible refine Below.trans ?_ (Below.mono (by with_reducible assumption) ?_)) | omega | (simp only [World.size_alloc, World.size_setCell, World.size_drew, Go.Proofs.YtfikkjdkgigikaaDoor.World.size_drewN] at *; omega) | (with_reducible refine Below.size (B := 0) ?_)))))
    (fail)
  all_goals
    rw [HW3.out]
    obtain ⟨p0, p1, p2, p3, pf, pl⟩ := HV3.out.facts
    go_wp2_with fail
    refine (HGD.out _).mono ?_
    rintro e w5 ⟨rfl, b5⟩
    have hb5 : Below w.heap.size w w5 := HB3.out.trans (b5.mono HB3.out.size)
    obtain ⟨c0, c1, c2, c3, c4, cf⟩ := HCE.out w5 b5
    obtain ⟨p0, p1, p2, p3, pf, pl⟩ := (HV3.out.below b5 (lt_of_row HV3.out)).facts
    have ee := HEE.out w5 b5
    clear b5
    go_wp2_with fail
    go_ret
    exact ⟨rfl, hb5⟩

/-- A block that a vector's variable begins with. -/
abbrev vecO : Obj := .cells #[.int .i64 0, .int .i64 0, .int .i64 0, .int .i64 0] 34
theorem vec_new {W w' : World} (h : Below (W.alloc vecO).heap.size (W.alloc vecO) w') : w'.heap[W.heap.size]? = some vecO := (h.block _ (by simp)).trans (heap_alloc_new W _)
theorem vec_cells {W : World} {g : Nat} (h : W.heap[g]? = some vecO) : W.cell? ⟨g, 0, none⟩ = some (.int .i64 0) ∧ W.cell? ⟨g, 1, none⟩ = some (.int .i64 0) ∧ W.cell? ⟨g, 2, none⟩ = some (.int .i64 0) ∧ W.cell? ⟨g, 3, none⟩ = some (.int .i64 0) ∧ ∀ j, W.frozen? ⟨g, j, none⟩ = false :=
  ⟨cell_of_heap h 0, cell_of_heap h 1, cell_of_heap h 2, cell_of_heap h 3, fun j => frozen_of_heap h j⟩
theorem sub_fit {x l : V4} (hx : goodV x = true) (hl : goodV l = true) (h : fitsV l x = true) : subR x l = (mv x l, 0) := by
  have h1 := good_comp.1 hx; have h2 := good_comp.1 hl; have h3 := fits_comp.1 h
  have hg : goodV (mv x l) = true := good_comp.2 fun r => by rw [comp_mv]; have := h1 r; have := h2 r; have := h3 r; omega
  rw [sub_yes hx hl]
  unfold checkR
  rw [show (⟨x.a - l.a, x.b - l.b, x.c - l.c, x.d - l.d⟩ : V4) = mv x l from rfl, if_pos hg]
theorem sub_unfit {x l : V4} (hx : goodV x = true) (hl : goodV l = true) (h : fitsV l x = false) : subR x l = (⟨0, 0, 0, 0⟩, 4) := by
  have hg : goodV (mv x l) = false := by
    cases e : goodV (mv x l) with
    | false => rfl
    | true =>
      have : fitsV l x = true := fits_comp.2 fun r => by have := good_comp.1 e r; rw [comp_mv] at this; omega
      rw [h] at this; cases this
  rw [sub_yes hx hl]
  unfold checkR
  rw [show (⟨x.a - l.a, x.b - l.b, x.c - l.c, x.d - l.d⟩ : V4) = mv x l from rfl, hg]
  rfl
theorem tkA_put {G : AG} {t : Tk} (h : tkA G t = none) (id pos : Int) (v : V4) (u : Tk) : tkA ⟨G.sets, G.tasks ++ [⟨t, id, pos, v⟩]⟩ u = if u = t then some ⟨t, id, pos, v⟩ else tkA G u := by
  unfold tkA
  simp only [List.find?_append]
  by_cases e : u = t
  · subst e
    rw [if_pos rfl, show G.tasks.find? (fun x => decide (x.tk = u)) = none from h]
    simp
  · rw [if_neg e]
    have : ¬ t = u := fun k => e k.symm
    simp [this]

set_option maxRecDepth 100000 in
set_option maxHeartbeats 3200000 in
/-- Book.Put: it does not fit. -/
theorem aput_room (s : Nat → Addr) (h : AlP w P q b1 b2 T1 T2 bl G) (hs : SentP s P w) {t : Tk} (ht : okT t) (v : V4) {id : Int} (hid : i64 id) {sA : SetA} {k : Nat} (e : setA G id = some sA) (hk : k < sA.n) (hg : goodV v = true) (hu : sA.up k = true) (hb : (tkA G t).isSome = false) (hf : fitsV v (leftA G sA k) = false) :
    Calls Tryd.prog 20 #[.pointer (some ⟨q, 0, none⟩), .agg #[.int .i64 t.job, .int .i64 t.ix], .int .i64 id, .int .i64 (k : Int), .agg #[.int .i64 v.a, .int .i64 v.b, .int .i64 v.c, .int .i64 v.d]] w fun e w' => e = .returned (errV s 10) ∧ Below w.heap.size w w' := by
  obtain ⟨x, hx⟩ : ∃ x, seatA G t = x := ⟨_, rfl⟩
  obtain ⟨X, hX⟩ : ∃ X, w.heap.size = X := ⟨_, rfl⟩
  obtain ⟨W1, hW1⟩ : ∃ W1, (w.alloc (.cells #[.int .i64 t.job, .int .i64 t.ix] 32)).alloc (.cells #[.int .i64 v.a, .int .i64 v.b, .int .i64 v.c, .int .i64 v.d] 34) = W1 := ⟨_, rfl⟩
  have hb1 : Below w.heap.size w W1 := by rw [← hW1]; exact ((Below.refl _ _).alloc (Nat.le_refl _) _).alloc (by simp) _
  have k1 : W1.heap[X]? = some (.cells #[.int .i64 t.job, .int .i64 t.ix] 32 (0, 0)) := by rw [← hW1, ← hX]; exact (Below.heap_alloc _ _ _ (by simp)).trans (heap_alloc_new _ _)
  have v1 : Vb W1 (X + 1) v := by
    rw [← hW1, ← hX]
    have := Vb.new_at (w := w.alloc (.cells #[.int .i64 t.job, .int .i64 t.ix] 32)) (g := w.heap.size + 1) (by simp) v
    exact this
  have hXW : X + 1 < W1.heap.size := lt_of_row v1
  have h1 := h.on hb1
  have HC : Hid (∀ W, Below W1.heap.size W1 W → (W.cell? ⟨X, 0, none⟩ = some (.int .i64 t.job) ∧ W.cell? ⟨X, 1, none⟩ = some (.int .i64 t.ix) ∧ W.cell? ⟨q, 1, none⟩ = some (.map (some b2)) ∧ (Instr.lookup 75 (.map (some b2)) (.agg #[.int .i64 t.job, .int .i64 t.ix]) true).run Tryd.prog W = .ok (.tuple #[.agg #[.int .i64 x.set, .int .i64 x.pos, .int .i64 x.need.a, .int .i64 x.need.b, .int .i64 x.need.c, .int .i64 x.need.d], .bool false]) W)) := Lib.hid fun W hW => ⟨cell_of_heap ((hW.block X (by omega)).trans k1) 0, cell_of_heap ((hW.block X (by omega)).trans k1) 1, cell_of_heap (h1.on hW).box 1, (h1.on hW).lk2 ht hx hb⟩
  obtain ⟨W3, hW3⟩ : ∃ W3, (W1.alloc (.cells #[.int .i64 x.set, .int .i64 x.pos, .int .i64 x.need.a, .int .i64 x.need.b, .int .i64 x.need.c, .int .i64 x.need.d] 86)).drew = W3 := ⟨_, rfl⟩
  have hb3 : Below W1.heap.size W1 W3 := by rw [← hW3]; exact ((Below.refl _ _).alloc (Nat.le_refl _) _).drew
  have h3 := h1.on hb3
  have hs3 := (hs.on hb1).on hb3
  have v3 : Vb W3 (X + 1) v := v1.below hb3 hXW
  have hb3' : Below w.heap.size w W3 := hb1.trans (hb3.mono hb1.size)
  have HF := Lib.hid (afind_ok h1 e hk hid)
  obtain ⟨gE, hgE⟩ : ∃ gE, bl id = gE := ⟨_, rfl⟩
  rw [hgE] at HF
  have HX := Lib.hid hX; have HW1 := Lib.hid hW1; have HW3 := Lib.hid hW3; have HB3 := Lib.hid hb3'
  have HGD : Hid (∀ W, Calls Tryd.prog 30 #[.agg #[.int .i64 v.a, .int .i64 v.b, .int .i64 v.c, .int .i64 v.d]] W fun e w' => e = .returned (.bool (goodV v)) ∧ Below W.heap.size W w') := Lib.hid fun W => good_c v W
  have e9 := hs3.here.cell 9 (by omega)
  simp only [gnum, List.getD_cons_zero, List.getD_cons_succ] at e9
  obtain ⟨c0, c1, c2, c3, c4, cf⟩ := h3.cells e hk
  rw [hgE] at c0 c1 c2 c3 c4 cf
  have HV3 := Lib.hid v3
  have HCE : Hid (∀ w5, Below W3.heap.size W3 w5 → w5.cell? ⟨gE, k * 5, none⟩ = some (.bool (sA.up k)) ∧ w5.cell? ⟨gE, k * 5 + 1, none⟩ = some (.int .i64 (leftA G sA k).a) ∧ w5.cell? ⟨gE, k * 5 + 2, none⟩ = some (.int .i64 (leftA G sA k).b) ∧ w5.cell? ⟨gE, k * 5 + 3, none⟩ = some (.int .i64 (leftA G sA k).c) ∧ w5.cell? ⟨gE, k * 5 + 4, none⟩ = some (.int .i64 (leftA G sA k).d) ∧ ∀ j, w5.frozen? ⟨gE, j, none⟩ = false) := Lib.hid fun w5 hb => by
    have := (h3.on hb).cells e hk
    rw [hgE] at this; exact this
  have HEE : Hid (∀ w5, Below W3.heap.size W3 w5 → w5.cell? ⟨9, 0, none⟩ = some (.iface 161 (.pointer (some (s 9))))) := Lib.hid fun w5 hb => (hb.cell (lt_of_cell e9)).trans e9
  obtain ⟨l, hl⟩ : ∃ l, leftA G sA (k : Int) = l := ⟨_, rfl⟩
  have hlg : goodV l = true := by rw [← hl]; exact h.good.left sA (set_mem h.good e) _
  obtain ⟨z, hz⟩ : ∃ z, (subR l v).1 = z := ⟨_, rfl⟩
  obtain ⟨ez, hez⟩ : ∃ ez, errV s (subR l v).2 = ez := ⟨_, rfl⟩
  have HSB : Hid (∀ W, Below W3.heap.size W3 W → Calls Tryd.prog 35 #[.agg #[.int .i64 l.a, .int .i64 l.b, .int .i64 l.c, .int .i64 l.d], .agg #[.int .i64 v.a, .int .i64 v.b, .int .i64 v.c, .int .i64 v.d]] W fun e w' => e = .returned (.tuple #[.agg #[.int .i64 z.a, .int .i64 z.b, .int .i64 z.c, .int .i64 z.d], ez]) ∧ Below W.heap.size W w') := Lib.hid fun W hb => by
    have := sub_c s l v W (hs3.on hb).here
    rw [hz, hez] at this
    exact this
  rw [hl] at HCE
  rw [hl] at hf
  have hzz : ez = .iface 161 (.pointer (some (s 3))) := by rw [← hez, sub_unfit hlg hg hf]; rfl
  subst hzz
  rw [hu] at HCE
  rw [hg] at HGD
  rw [errA s 10 (by omega)]
  clear h hs hX hW1 k1 v1 hb1 hXW h1 hb3 h3 hs3 v3 hb3' hgE hx hW3 e hk hb hg hu c0 c1 c2 c3 c4 cf e9 hf hez hz hl hlg
  go_enter Tryd.func20, Tryd.ntmps20
  go_wp2_with fail
  rw [HW1.out, HX.out]
  refine HF.out.mono ?_
  rintro e w2 ⟨rfl, rfl⟩
  go_wp2_with fail
  go_region_held3 (fun W => W.cell? ⟨X, 0, none⟩ = some (.int .i64 t.job) ∧ W.cell? ⟨X, 1, none⟩ = some (.int .i64 t.ix) ∧ W.cell? ⟨q, 1, none⟩ = some (.map (some b2)) ∧ (Instr.lookup 75 (.map (some b2)) (.agg #[.int .i64 t.job, .int .i64 t.ix]) true).run Tryd.prog W = .ok (.tuple #[.agg #[.int .i64 x.set, .int .i64 x.pos, .int .i64 x.need.a, .int .i64 x.need.b, .int .i64 x.need.c, .int .i64 x.need.d], .bool false]) W)
    (first | exact HC.out _ (by (repeat' (first | (with_reducible exact Below.refl _ _) | (with_reducible refine below_drewN ?_ _) | (with_reducible refine Below.drew ?_) | (with_reducible refine Below.alloc ?_ ?_ _) | (with_reducible refine Below.setCell ?_ ?_ _) | (with_reducible refine Below.trans ?_ (Below.mono (by with_reducible assumption) ?_)) | omega | (simp only [World.size_alloc, World.size_setCell, World.size_drew, Go.Proofs.YtfikkjdkgigikaaDoor.World.size_drewN] at *; omega) | (with_reducible refine Below.size (B := 0) ?_)))))
    (fail)
  all_goals
    rw [HW3.out]
    obtain ⟨p0, p1, p2, p3, pf, pl⟩ := HV3.out.facts
    go_wp2_with fail
    refine (HGD.out _).mono ?_
    rintro e w5 ⟨rfl, b5⟩
    have hb5 : Below w.heap.size w w5 := HB3.out.trans (b5.mono HB3.out.size)
    have HB5 := Lib.hid hb5
    have HB35 := Lib.hid b5
    obtain ⟨c0, c1, c2, c3, c4, cf⟩ := HCE.out w5 b5
    have HS5 : Hid (∀ W, Below w5.heap.size w5 W → (W.cell? ⟨gE, k * 5 + 1, none⟩ = some (.int .i64 l.a) ∧ W.cell? ⟨gE, k * 5 + 2, none⟩ = some (.int .i64 l.b) ∧ W.cell? ⟨gE, k * 5 + 3, none⟩ = some (.int .i64 l.c) ∧ W.cell? ⟨gE, k * 5 + 4, none⟩ = some (.int .i64 l.d) ∧ W.cell? ⟨X + 1, 0, none⟩ = some (.int .i64 v.a) ∧ W.cell? ⟨X + 1, 1, none⟩ = some (.int .i64 v.b) ∧ W.cell? ⟨X + 1, 2, none⟩ = some (.int .i64 v.c) ∧ W.cell? ⟨X + 1, 3, none⟩ = some (.int .i64 v.d))) := Lib.hid fun W hb => by
      have hb3W : Below W3.heap.size W3 W := HB35.out.trans (hb.mono HB35.out.size)
      obtain ⟨_, c1, c2, c3, c4, _⟩ := HCE.out W hb3W
      obtain ⟨p0, p1, p2, p3, _, _⟩ := (HV3.out.below hb3W (lt_of_row HV3.out)).facts
      exact ⟨c1, c2, c3, c4, p0, p1, p2, p3⟩
    have HSV : Hid (∀ W, Below w5.heap.size w5 W → Calls Tryd.prog 35 #[.agg #[.int .i64 l.a, .int .i64 l.b, .int .i64 l.c, .int .i64 l.d], .agg #[.int .i64 v.a, .int .i64 v.b, .int .i64 v.c, .int .i64 v.d]] W fun e w' => e = .returned (.tuple #[.agg #[.int .i64 z.a, .int .i64 z.b, .int .i64 z.c, .int .i64 z.d], .iface 161 (.pointer (some (s 3)))]) ∧ Below W.heap.size W w') := Lib.hid fun W hb => HSB.out W (HB35.out.trans (hb.mono HB35.out.size))
    clear hb5 b5 c1 c2 c3 c4 p0 p1 p2 p3 pf pl
    go_wp2_with fail
    go_region_held3 (fun W => W.cell? ⟨gE, k * 5 + 1, none⟩ = some (.int .i64 l.a) ∧ W.cell? ⟨gE, k * 5 + 2, none⟩ = some (.int .i64 l.b) ∧ W.cell? ⟨gE, k * 5 + 3, none⟩ = some (.int .i64 l.c) ∧ W.cell? ⟨gE, k * 5 + 4, none⟩ = some (.int .i64 l.d) ∧ W.cell? ⟨X + 1, 0, none⟩ = some (.int .i64 v.a) ∧ W.cell? ⟨X + 1, 1, none⟩ = some (.int .i64 v.b) ∧ W.cell? ⟨X + 1, 2, none⟩ = some (.int .i64 v.c) ∧ W.cell? ⟨X + 1, 3, none⟩ = some (.int .i64 v.d))
      (first | exact HS5.out _ (by (repeat' (first | (with_reducible exact Below.refl _ _) | (with_reducible refine below_drewN ?_ _) | (with_reducible refine Below.drew ?_) | (with_reducible refine Below.alloc ?_ ?_ _) | (with_reducible refine Below.setCell ?_ ?_ _) | (with_reducible refine Below.trans ?_ (Below.mono (by with_reducible assumption) ?_)) | omega | (simp only [World.size_alloc, World.size_setCell, World.size_drew, Go.Proofs.YtfikkjdkgigikaaDoor.World.size_drewN] at *; omega) | (with_reducible refine Below.size (B := 0) ?_)))))
      (first
        | (go_at_call 35; (with_reducible refine (HSV.out _ (by (repeat' (first | (with_reducible exact Below.refl _ _) | (with_reducible refine below_drewN ?_ _) | (with_reducible refine Below.drew ?_) | (with_reducible refine Below.alloc ?_ ?_ _) | (with_reducible refine Below.setCell ?_ ?_ _) | (with_reducible refine Below.trans ?_ (Below.mono (by with_reducible assumption) ?_)) | omega | (simp only [World.size_alloc, World.size_setCell, World.size_drew, Go.Proofs.YtfikkjdkgigikaaDoor.World.size_drewN] at *; omega) | (with_reducible refine Below.size (B := 0) ?_))))).mono ?_); rintro e w6 ⟨rfl, b6⟩; (first | (have z6 : w6.heap[w5.heap.size]? = some vecO := vec_new (W := w5.drew) b6; obtain ⟨d0, d1, d2, d3, df⟩ := vec_cells z6; clear z6) | skip)))
    all_goals
      first
        | (obtain ⟨W7, hW7⟩ : ∃ W7, w6.alloc (.cells #[.int .i64 z.a, .int .i64 z.b, .int .i64 z.c, .int .i64 z.d] 34) = W7 := ⟨_, rfl⟩
           obtain ⟨g7, hg7⟩ : ∃ g7, w6.heap.size = g7 := ⟨_, rfl⟩
           have hb7 : Below w5.heap.size w5 W7 := by rw [← hW7]; (repeat' (first | (with_reducible exact Below.refl _ _) | (with_reducible refine below_drewN ?_ _) | (with_reducible refine Below.drew ?_) | (with_reducible refine Below.alloc ?_ ?_ _) | (with_reducible refine Below.setCell ?_ ?_ _) | (with_reducible refine Below.trans ?_ (Below.mono (by with_reducible assumption) ?_)) | omega | (simp only [World.size_alloc, World.size_setCell, World.size_drew, Go.Proofs.YtfikkjdkgigikaaDoor.World.size_drewN] at *; omega) | (with_reducible refine Below.size (B := 0) ?_)))
           have v7 : Vb W7 g7 z := by rw [← hW7, ← hg7]; exact Vb.new w6 z
           have hg7' : w5.heap.size ≤ g7 := by rw [← hg7]; have := b6.size; simpa using this
           rw [hW7, hg7])
        | (obtain ⟨W7, hW7⟩ : ∃ W7, ((((w6.setCell ⟨w5.heap.size, 0, none⟩ (.int .i64 z.a)).setCell ⟨w5.heap.size, 1, none⟩ (.int .i64 z.b)).setCell ⟨w5.heap.size, 2, none⟩ (.int .i64 z.c)).setCell ⟨w5.heap.size, 3, none⟩ (.int .i64 z.d)) = W7 := ⟨_, rfl⟩
           obtain ⟨g7, hg7⟩ : ∃ g7, w5.heap.size = g7 := ⟨_, rfl⟩
           have hb7 : Below w5.heap.size w5 W7 := by rw [← hW7]; (repeat' (first | (with_reducible exact Below.refl _ _) | (with_reducible refine below_drewN ?_ _) | (with_reducible refine Below.drew ?_) | (with_reducible refine Below.alloc ?_ ?_ _) | (with_reducible refine Below.setCell ?_ ?_ _) | (with_reducible refine Below.trans ?_ (Below.mono (by with_reducible assumption) ?_)) | omega | (simp only [World.size_alloc, World.size_setCell, World.size_drew, Go.Proofs.YtfikkjdkgigikaaDoor.World.size_drewN] at *; omega) | (with_reducible refine Below.size (B := 0) ?_)))
           have v7 : Vb W7 g7 z := by
             rw [← hW7, ← hg7]
             exact Vb.set4 (x := ⟨0, 0, 0, 0⟩) (vec_new (W := w5.drew) b6) z.a z.b z.c z.d
           have hg7' : w5.heap.size ≤ g7 := by omega
           rw [hW7, hg7])
      have hb37 : Below W3.heap.size W3 W7 := HB35.out.trans (hb7.mono HB35.out.size)
      have hb07 : Below w.heap.size w W7 := HB5.out.trans (hb7.mono HB5.out.size)
      obtain ⟨z0, z1, z2, z3, zf, zl⟩ := v7.facts
      have ee := HEE.out W7 hb37
      clear hb7 hb37 v7 hg7
      go_wp2_with fail
      go_ret
      exact ⟨rfl, hb07⟩

/-- What Put makes of it. -/
def putG (G : AG) (t : Tk) (id pos : Int) (v : V4) : AG := ⟨G.sets, G.tasks ++ [⟨t, id, pos, v⟩]⟩
/-- A task comes into an envelope. -/
theorem AlP.putd (h : AlP w P q b1 b2 T1 T2 bl G) {t : Tk} {id : Int} {v : V4} {s : SetA} {k : Nat} (e : setA G id = some s) (_hkn : k < s.n) (hno : tkA G t = none) (hgd : GA (putG G t id k v)) {w6 w9 : World} (hc : ∀ j, j < w.heap.size → j ≠ bl id → w6.heap[j]? = w.heap[j]?) (hz : w.heap.size ≤ w6.heap.size)
    (hrow : OwnE encEnv 84 w6 0 (.slice (some ⟨bl id, 0, none⟩) s.n s.n) ((envs G s).set k ⟨s.up k, mv (leftA G s k) v⟩)) (hm : SeatsAt w9 b2 (enter T2 t ⟨id, k, v⟩)) (hg : w6.grownBy w9 (some b2)) :
    AlP w9 P q b1 b2 T1 (enter T2 t ⟨id, k, v⟩) bl (putG G t id k v) := by
  have hb2 := h.r2 e
  have hid := set_id h.good e
  have hl6 : ∀ j, P j → j < w6.heap.size := fun j hj => Nat.lt_of_lt_of_le (h.old j hj) hz
  refine h.upd (G' := putG G t id k v) (s' := s) e (Nat.le_trans hz hg.size) (fun j hj h2 h3 => (hg.block j (hl6 j hj) (by simpa using h2)).trans (hc j (h.old j hj) h3)) hm e rfl ?_ (fun _ _ => rfl) (fun j z hj hz => ?_) (fun u => ?_) hgd
  · have he : envs (putG G t id k v) s = (envs G s).set k ⟨s.up k, mv (leftA G s k) v⟩ := by
      refine envs_set rfl ⟨rfl, ?_⟩ fun j hj => ⟨rfl, ?_⟩
      · unfold putG; rw [left_put, if_pos ⟨hid, rfl⟩]
      · unfold putG; rw [left_put, if_neg]
        rintro ⟨_, k2⟩; omega
    rw [he]
    refine hrow.same fun i hi => ?_
    simp [Value.ownBlock] at hi; subst hi
    exact hg.block _ (hl6 _ (h.pr _ _ e)) (by simpa using hb2)
  · refine envs_ext rfl fun i _ => ⟨rfl, ?_⟩
    unfold putG; rw [left_put, if_neg]
    rintro ⟨k1, _⟩
    exact hj ((set_id h.good hz).symm.trans k1)
  · rw [look_enter]
    unfold putG
    rw [tkA_put hno]
    split
    · rfl
    · exact h.seats u
theorem maxLen_5 : maxLen = 9223372036854775807 := by unfold maxLen; decide

set_option maxRecDepth 100000 in
set_option maxHeartbeats 3200000 in
/-- Book.Put: it fits. -/
theorem aput_ok (s : Nat → Addr) (h : AlP w P q b1 b2 T1 T2 bl G) (hs : SentP s P w) {t : Tk} (ht : okT t) (v : V4) {id : Int} (hid : i64 id) {sA : SetA} {k : Nat} (e : setA G id = some sA) (hk : k < sA.n) (hg : goodV v = true) (hu : sA.up k = true) (hb : (tkA G t).isSome = false) (hf : fitsV v (leftA G sA k) = true) (hlen : G.tasks.length ≤ 100000) :
    Calls Tryd.prog 20 #[.pointer (some ⟨q, 0, none⟩), .agg #[.int .i64 t.job, .int .i64 t.ix], .int .i64 id, .int .i64 (k : Int), .agg #[.int .i64 v.a, .int .i64 v.b, .int .i64 v.c, .int .i64 v.d]] w fun e w' => e = .returned (errV s 0) ∧ AlP w' P q b1 b2 T1 (enter T2 t ⟨id, k, v⟩) bl (putG G t id k v) ∧ ChP P w w' := by
  obtain ⟨x, hx⟩ : ∃ x, seatA G t = x := ⟨_, rfl⟩
  obtain ⟨X, hX⟩ : ∃ X, w.heap.size = X := ⟨_, rfl⟩
  obtain ⟨W1, hW1⟩ : ∃ W1, (w.alloc (.cells #[.int .i64 t.job, .int .i64 t.ix] 32)).alloc (.cells #[.int .i64 v.a, .int .i64 v.b, .int .i64 v.c, .int .i64 v.d] 34) = W1 := ⟨_, rfl⟩
  have hb1 : Below w.heap.size w W1 := by rw [← hW1]; exact ((Below.refl _ _).alloc (Nat.le_refl _) _).alloc (by simp) _
  have k1 : W1.heap[X]? = some (.cells #[.int .i64 t.job, .int .i64 t.ix] 32 (0, 0)) := by rw [← hW1, ← hX]; exact (Below.heap_alloc _ _ _ (by simp)).trans (heap_alloc_new _ _)
  have v1 : Vb W1 (X + 1) v := by
    rw [← hW1, ← hX]
    have := Vb.new_at (w := w.alloc (.cells #[.int .i64 t.job, .int .i64 t.ix] 32)) (g := w.heap.size + 1) (by simp) v
    exact this
  have hXW : X + 1 < W1.heap.size := lt_of_row v1
  have h1 := h.on hb1
  have HC : Hid (∀ W, Below W1.heap.size W1 W → (W.cell? ⟨X, 0, none⟩ = some (.int .i64 t.job) ∧ W.cell? ⟨X, 1, none⟩ = some (.int .i64 t.ix) ∧ W.cell? ⟨q, 1, none⟩ = some (.map (some b2)) ∧ (Instr.lookup 75 (.map (some b2)) (.agg #[.int .i64 t.job, .int .i64 t.ix]) true).run Tryd.prog W = .ok (.tuple #[.agg #[.int .i64 x.set, .int .i64 x.pos, .int .i64 x.need.a, .int .i64 x.need.b, .int .i64 x.need.c, .int .i64 x.need.d], .bool false]) W)) := Lib.hid fun W hW => ⟨cell_of_heap ((hW.block X (by omega)).trans k1) 0, cell_of_heap ((hW.block X (by omega)).trans k1) 1, cell_of_heap (h1.on hW).box 1, (h1.on hW).lk2 ht hx hb⟩
  obtain ⟨W3, hW3⟩ : ∃ W3, (W1.alloc (.cells #[.int .i64 x.set, .int .i64 x.pos, .int .i64 x.need.a, .int .i64 x.need.b, .int .i64 x.need.c, .int .i64 x.need.d] 86)).drew = W3 := ⟨_, rfl⟩
  have hb3 : Below W1.heap.size W1 W3 := by rw [← hW3]; exact ((Below.refl _ _).alloc (Nat.le_refl _) _).drew
  have h3 := h1.on hb3
  have hs3 := (hs.on hb1).on hb3
  have v3 : Vb W3 (X + 1) v := v1.below hb3 hXW
  have hb3' : Below w.heap.size w W3 := hb1.trans (hb3.mono hb1.size)
  have HF := Lib.hid (afind_ok h1 e hk hid)
  obtain ⟨gE, hgE⟩ : ∃ gE, bl id = gE := ⟨_, rfl⟩
  rw [hgE] at HF
  have HX := Lib.hid hX; have HW1 := Lib.hid hW1; have HW3 := Lib.hid hW3; have HB3 := Lib.hid hb3'
  have HGD : Hid (∀ W, Calls Tryd.prog 30 #[.agg #[.int .i64 v.a, .int .i64 v.b, .int .i64 v.c, .int .i64 v.d]] W fun e w' => e = .returned (.bool (goodV v)) ∧ Below W.heap.size W w') := Lib.hid fun W => good_c v W
  have e0 := hs3.here.cell 0 (by omega)
  simp only [gnum, List.getD_cons_zero] at e0
  obtain ⟨c0, c1, c2, c3, c4, cf⟩ := h3.cells e hk
  rw [hgE] at c0 c1 c2 c3 c4 cf
  have HV3 := Lib.hid v3
  have HCE : Hid (∀ w5, Below W3.heap.size W3 w5 → w5.cell? ⟨gE, k * 5, none⟩ = some (.bool (sA.up k)) ∧ w5.cell? ⟨gE, k * 5 + 1, none⟩ = some (.int .i64 (leftA G sA k).a) ∧ w5.cell? ⟨gE, k * 5 + 2, none⟩ = some (.int .i64 (leftA G sA k).b) ∧ w5.cell? ⟨gE, k * 5 + 3, none⟩ = some (.int .i64 (leftA G sA k).c) ∧ w5.cell? ⟨gE, k * 5 + 4, none⟩ = some (.int .i64 (leftA G sA k).d) ∧ ∀ j, w5.frozen? ⟨gE, j, none⟩ = false) := Lib.hid fun w5 hb => by
    have := (h3.on hb).cells e hk
    rw [hgE] at this; exact this
  obtain ⟨l, hl⟩ : ∃ l, leftA G sA (k : Int) = l := ⟨_, rfl⟩
  have hlg : goodV l = true := by rw [← hl]; exact h.good.left sA (set_mem h.good e) _
  obtain ⟨z, hz⟩ : ∃ z, (subR l v).1 = z := ⟨_, rfl⟩
  obtain ⟨ez, hez⟩ : ∃ ez, errV s (subR l v).2 = ez := ⟨_, rfl⟩
  have HSB : Hid (∀ W, Below W3.heap.size W3 W → Calls Tryd.prog 35 #[.agg #[.int .i64 l.a, .int .i64 l.b, .int .i64 l.c, .int .i64 l.d], .agg #[.int .i64 v.a, .int .i64 v.b, .int .i64 v.c, .int .i64 v.d]] W fun e w' => e = .returned (.tuple #[.agg #[.int .i64 z.a, .int .i64 z.b, .int .i64 z.c, .int .i64 z.d], ez]) ∧ Below W.heap.size W w') := Lib.hid fun W hb => by
    have := sub_c s l v W (hs3.on hb).here
    rw [hz, hez] at this
    exact this
  rw [hl] at HCE
  rw [hl] at hf
  have hsub := sub_fit hlg hg hf
  have hz0 : mv l v = z := by rw [← hz, hsub]
  have hzz : ez = .nilIface := by rw [← hez, hsub]; rfl
  subst hzz
  rw [hu] at HCE
  have hgp := h3.pr _ _ e
  rw [hgE] at hgp
  have hXg : X ≠ gE := by have := h.old gE hgp; omega
  have hYg : X + 1 ≠ gE := by have := h.old gE hgp; omega
  have hqg : q ≠ gE := by rw [← hgE]; exact (h3.qr e).symm
  have hb2g : b2 ≠ gE := by rw [← hgE]; exact (h3.r2 e).symm
  have hgd : GA (putG G t id k v) := by
    have := h.good.put t id k v
    unfold putA at this
    rw [e] at this
    simp only at this
    rw [if_neg (by rw [hg]; simp; omega), if_neg (by rw [hu]; simp), if_neg (by rw [hb]; simp), if_neg (by rw [hl, hf]; simp)] at this
    exact this
  have hno : tkA G t = none := by cases e9 : tkA G t with | none => rfl | some y => rw [e9] at hb; cases hb
  have hml : T2.length < maxLen := by rw [h.len2, maxLen_5]; omega
  have HDL : Hid (∀ W7 : World, Below W3.heap.size W3 W7 → ((((W7.setCell ⟨gE, k * 5 + 1, none⟩ (.int .i64 z.a)).setCell ⟨gE, k * 5 + 2, none⟩ (.int .i64 z.b)).setCell ⟨gE, k * 5 + 3, none⟩ (.int .i64 z.c)).setCell ⟨gE, k * 5 + 4, none⟩ (.int .i64 z.d)).cell? ⟨X, 0, none⟩ = some (.int .i64 t.job) ∧ ((((W7.setCell ⟨gE, k * 5 + 1, none⟩ (.int .i64 z.a)).setCell ⟨gE, k * 5 + 2, none⟩ (.int .i64 z.b)).setCell ⟨gE, k * 5 + 3, none⟩ (.int .i64 z.c)).setCell ⟨gE, k * 5 + 4, none⟩ (.int .i64 z.d)).cell? ⟨X, 1, none⟩ = some (.int .i64 t.ix) ∧ ((((W7.setCell ⟨gE, k * 5 + 1, none⟩ (.int .i64 z.a)).setCell ⟨gE, k * 5 + 2, none⟩ (.int .i64 z.b)).setCell ⟨gE, k * 5 + 3, none⟩ (.int .i64 z.c)).setCell ⟨gE, k * 5 + 4, none⟩ (.int .i64 z.d)).cell? ⟨q, 1, none⟩ = some (.map (some b2)) ∧ SeatsAt ((((W7.setCell ⟨gE, k * 5 + 1, none⟩ (.int .i64 z.a)).setCell ⟨gE, k * 5 + 2, none⟩ (.int .i64 z.b)).setCell ⟨gE, k * 5 + 3, none⟩ (.int .i64 z.c)).setCell ⟨gE, k * 5 + 4, none⟩ (.int .i64 z.d)) b2 T2 ∧ Vb ((((W7.setCell ⟨gE, k * 5 + 1, none⟩ (.int .i64 z.a)).setCell ⟨gE, k * 5 + 2, none⟩ (.int .i64 z.b)).setCell ⟨gE, k * 5 + 3, none⟩ (.int .i64 z.c)).setCell ⟨gE, k * 5 + 4, none⟩ (.int .i64 z.d)) (X + 1) v) := Lib.hid fun W7 hb => by
    have hz7 : ∀ j, j ≠ gE → ((((W7.setCell ⟨gE, k * 5 + 1, none⟩ (.int .i64 z.a)).setCell ⟨gE, k * 5 + 2, none⟩ (.int .i64 z.b)).setCell ⟨gE, k * 5 + 3, none⟩ (.int .i64 z.c)).setCell ⟨gE, k * 5 + 4, none⟩ (.int .i64 z.d)).heap[j]? = W7.heap[j]? := fun j hj => by rw [heap_setCell_other _ _ _ _ hj, heap_setCell_other _ _ _ _ hj, heap_setCell_other _ _ _ _ hj, heap_setCell_other _ _ _ _ hj]
    have eX : ((((W7.setCell ⟨gE, k * 5 + 1, none⟩ (.int .i64 z.a)).setCell ⟨gE, k * 5 + 2, none⟩ (.int .i64 z.b)).setCell ⟨gE, k * 5 + 3, none⟩ (.int .i64 z.c)).setCell ⟨gE, k * 5 + 4, none⟩ (.int .i64 z.d)).heap[X]? = some (.cells #[.int .i64 t.job, .int .i64 t.ix] 32 (0, 0)) := by
      rw [hz7 X hXg, hb.block X (by have := hb3.size; omega), hb3.block X (by omega)]; exact k1
    have eq : ((((W7.setCell ⟨gE, k * 5 + 1, none⟩ (.int .i64 z.a)).setCell ⟨gE, k * 5 + 2, none⟩ (.int .i64 z.b)).setCell ⟨gE, k * 5 + 3, none⟩ (.int .i64 z.c)).setCell ⟨gE, k * 5 + 4, none⟩ (.int .i64 z.d)).heap[q]? = some (.cells #[.map (some b1), .map (some b2)] 77 (0, 0)) := by
      rw [hz7 q hqg]; exact (h3.on hb).box
    refine ⟨cell_of_heap eX 0, cell_of_heap eX 1, cell_of_heap eq 1, (h3.on hb).m2.same (hz7 b2 hb2g), ?_⟩
    unfold Vb
    rw [hz7 (X + 1) hYg]
    exact v3.below hb (lt_of_row v3)
  have HFIN : Hid (∀ W7 w9 : World, Below W3.heap.size W3 W7 → SeatsAt w9 b2 (enter T2 t ⟨id, k, v⟩) → ((((W7.setCell ⟨gE, k * 5 + 1, none⟩ (.int .i64 z.a)).setCell ⟨gE, k * 5 + 2, none⟩ (.int .i64 z.b)).setCell ⟨gE, k * 5 + 3, none⟩ (.int .i64 z.c)).setCell ⟨gE, k * 5 + 4, none⟩ (.int .i64 z.d)).grownBy w9 (some b2) → AlP w9 P q b1 b2 T1 (enter T2 t ⟨id, k, v⟩) bl (putG G t id k v) ∧ ChP P w w9) := Lib.hid fun W7 w9 hb hm9 hg9 => by
    have h7 := h3.on hb
    have hz7 : ∀ j, j ≠ gE → ((((W7.setCell ⟨gE, k * 5 + 1, none⟩ (.int .i64 z.a)).setCell ⟨gE, k * 5 + 2, none⟩ (.int .i64 z.b)).setCell ⟨gE, k * 5 + 3, none⟩ (.int .i64 z.c)).setCell ⟨gE, k * 5 + 4, none⟩ (.int .i64 z.d)).heap[j]? = W7.heap[j]? := fun j hj => by rw [heap_setCell_other _ _ _ _ hj, heap_setCell_other _ _ _ _ hj, heap_setCell_other _ _ _ _ hj, heap_setCell_other _ _ _ _ hj]
    have hsz : ((((W7.setCell ⟨gE, k * 5 + 1, none⟩ (.int .i64 z.a)).setCell ⟨gE, k * 5 + 2, none⟩ (.int .i64 z.b)).setCell ⟨gE, k * 5 + 3, none⟩ (.int .i64 z.c)).setCell ⟨gE, k * 5 + 4, none⟩ (.int .i64 z.d)).heap.size = W7.heap.size := by simp [World.setCell]
    have hrow7 := h7.rowL e
    rw [hgE] at hrow7
    have hr := own_left hrow7 (envs_at G sA hk) z
    rw [envs_len] at hr
    refine ⟨?_, ?_⟩
    · refine h7.putd e hk hno hgd (w6 := ((((W7.setCell ⟨gE, k * 5 + 1, none⟩ (.int .i64 z.a)).setCell ⟨gE, k * 5 + 2, none⟩ (.int .i64 z.b)).setCell ⟨gE, k * 5 + 3, none⟩ (.int .i64 z.c)).setCell ⟨gE, k * 5 + 4, none⟩ (.int .i64 z.d))) (fun j hj hne => ?_) (by rw [hsz]; exact Nat.le_refl _) ?_ hm9 hg9
      · rw [hgE] at hne; exact hz7 j hne
      · rw [hgE, hl, hz0]; exact hr
    · have c5 : ChP P w W7 := ChP.of_below (hb3'.trans (hb.mono hb3'.size))
      exact ((((c5.setCell (ad := ⟨gE, k * 5 + 1, none⟩) (.inl hgp) _).setCell (ad := ⟨gE, k * 5 + 2, none⟩) (.inl hgp) _).setCell (ad := ⟨gE, k * 5 + 3, none⟩) (.inl hgp) _).setCell (ad := ⟨gE, k * 5 + 4, none⟩) (.inl hgp) _).grown hg9 (fun i hi => .inl (by cases hi; exact h.p2))
  have HT := Lib.hid ht
  have HML := Lib.hid hml
  rw [hg] at HGD
  rw [errA0]
  clear h hs hX hW1 k1 v1 hb1 hXW h1 hb3 h3 hs3 v3 hb3' hgE hx hW3 e hk hb hg hu c0 c1 c2 c3 c4 cf e0 hf hez hz hl hlg hsub hz0 hgp hXg hYg hqg hb2g hgd hno hml hlen ht hid
  go_enter Tryd.func20, Tryd.ntmps20
  go_wp2_with fail
  rw [HW1.out, HX.out]
  refine HF.out.mono ?_
  rintro e w2 ⟨rfl, rfl⟩
  go_wp2_with fail
  go_region_held3 (fun W => W.cell? ⟨X, 0, none⟩ = some (.int .i64 t.job) ∧ W.cell? ⟨X, 1, none⟩ = some (.int .i64 t.ix) ∧ W.cell? ⟨q, 1, none⟩ = some (.map (some b2)) ∧ (Instr.lookup 75 (.map (some b2)) (.agg #[.int .i64 t.job, .int .i64 t.ix]) true).run Tryd.prog W = .ok (.tuple #[.agg #[.int .i64 x.set, .int .i64 x.pos, .int .i64 x.need.a, .int .i64 x.need.b, .int .i64 x.need.c, .int .i64 x.need.d], .bool false]) W)
    (first | exact HC.out _ (by (repeat' (first | (with_reducible exact Below.refl _ _) | (with_reducible refine below_drewN ?_ _) | (with_reducible refine Below.drew ?_) | (with_reducible refine Below.alloc ?_ ?_ _) | (with_reducible refine Below.setCell ?_ ?_ _) | (with_reducible refine Below.trans ?_ (Below.mono (by with_reducible assumption) ?_)) | omega | (simp only [World.size_alloc, World.size_setCell, World.size_drew, Go.Proofs.YtfikkjdkgigikaaDoor.World.size_drewN] at *; omega) | (with_reducible refine Below.size (B := 0) ?_)))))
    (fail)
  all_goals
    rw [HW3.out]
    obtain ⟨p0, p1, p2, p3, pf, pl⟩ := HV3.out.facts
    go_wp2_with fail
    refine (HGD.out _).mono ?_
    rintro e w5 ⟨rfl, b5⟩
    have hb5 : Below w.heap.size w w5 := HB3.out.trans (b5.mono HB3.out.size)
    have HB5 := Lib.hid hb5
    have HB35 := Lib.hid b5
    obtain ⟨c0, c1, c2, c3, c4, cf⟩ := HCE.out w5 b5
    have HS5 : Hid (∀ W, Below w5.heap.size w5 W → (W.cell? ⟨gE, k * 5 + 1, none⟩ = some (.int .i64 l.a) ∧ W.cell? ⟨gE, k * 5 + 2, none⟩ = some (.int .i64 l.b) ∧ W.cell? ⟨gE, k * 5 + 3, none⟩ = some (.int .i64 l.c) ∧ W.cell? ⟨gE, k * 5 + 4, none⟩ = some (.int .i64 l.d) ∧ W.cell? ⟨X + 1, 0, none⟩ = some (.int .i64 v.a) ∧ W.cell? ⟨X + 1, 1, none⟩ = some (.int .i64 v.b) ∧ W.cell? ⟨X + 1, 2, none⟩ = some (.int .i64 v.c) ∧ W.cell? ⟨X + 1, 3, none⟩ = some (.int .i64 v.d))) := Lib.hid fun W hb => by
      have hb3W : Below W3.heap.size W3 W := HB35.out.trans (hb.mono HB35.out.size)
      obtain ⟨_, c1, c2, c3, c4, _⟩ := HCE.out W hb3W
      obtain ⟨p0, p1, p2, p3, _, _⟩ := (HV3.out.below hb3W (lt_of_row HV3.out)).facts
      exact ⟨c1, c2, c3, c4, p0, p1, p2, p3⟩
    have HSV : Hid (∀ W, Below w5.heap.size w5 W → Calls Tryd.prog 35 #[.agg #[.int .i64 l.a, .int .i64 l.b, .int .i64 l.c, .int .i64 l.d], .agg #[.int .i64 v.a, .int .i64 v.b, .int .i64 v.c, .int .i64 v.d]] W fun e w' => e = .returned (.tuple #[.agg #[.int .i64 z.a, .int .i64 z.b, .int .i64 z.c, .int .i64 z.d], .nilIface]) ∧ Below W.heap.size W w') := Lib.hid fun W hb => HSB.out W (HB35.out.trans (hb.mono HB35.out.size))
    clear hb5 b5 c1 c2 c3 c4 p0 p1 p2 p3 pf pl
    go_wp2_with fail
    go_region_held3 (fun W => W.cell? ⟨gE, k * 5 + 1, none⟩ = some (.int .i64 l.a) ∧ W.cell? ⟨gE, k * 5 + 2, none⟩ = some (.int .i64 l.b) ∧ W.cell? ⟨gE, k * 5 + 3, none⟩ = some (.int .i64 l.c) ∧ W.cell? ⟨gE, k * 5 + 4, none⟩ = some (.int .i64 l.d) ∧ W.cell? ⟨X + 1, 0, none⟩ = some (.int .i64 v.a) ∧ W.cell? ⟨X + 1, 1, none⟩ = some (.int .i64 v.b) ∧ W.cell? ⟨X + 1, 2, none⟩ = some (.int .i64 v.c) ∧ W.cell? ⟨X + 1, 3, none⟩ = some (.int .i64 v.d))
      (first | exact HS5.out _ (by (repeat' (first | (with_reducible exact Below.refl _ _) | (with_reducible refine below_drewN ?_ _) | (with_reducible refine Below.drew ?_) | (with_reducible refine Below.alloc ?_ ?_ _) | (with_reducible refine Below.setCell ?_ ?_ _) | (with_reducible refine Below.trans ?_ (Below.mono (by with_reducible assumption) ?_)) | omega | (simp only [World.size_alloc, World.size_setCell, World.size_drew, Go.Proofs.YtfikkjdkgigikaaDoor.World.size_drewN] at *; omega) | (with_reducible refine Below.size (B := 0) ?_)))))
      (first
        | (go_at_call 35; (with_reducible refine (HSV.out _ (by (repeat' (first | (with_reducible exact Below.refl _ _) | (with_reducible refine below_drewN ?_ _) | (with_reducible refine Below.drew ?_) | (with_reducible refine Below.alloc ?_ ?_ _) | (with_reducible refine Below.setCell ?_ ?_ _) | (with_reducible refine Below.trans ?_ (Below.mono (by with_reducible assumption) ?_)) | omega | (simp only [World.size_alloc, World.size_setCell, World.size_drew, Go.Proofs.YtfikkjdkgigikaaDoor.World.size_drewN] at *; omega) | (with_reducible refine Below.size (B := 0) ?_))))).mono ?_); rintro e w6 ⟨rfl, b6⟩; (first | (have z6 : w6.heap[w5.heap.size]? = some vecO := vec_new (W := w5.drew) b6; obtain ⟨d0, d1, d2, d3, df⟩ := vec_cells z6; clear z6) | skip)))
    all_goals
      first
        | (obtain ⟨W7, hW7⟩ : ∃ W7, w6.alloc (.cells #[.int .i64 z.a, .int .i64 z.b, .int .i64 z.c, .int .i64 z.d] 34) = W7 := ⟨_, rfl⟩
           obtain ⟨g7, hg7⟩ : ∃ g7, w6.heap.size = g7 := ⟨_, rfl⟩
           have hb7 : Below w5.heap.size w5 W7 := by rw [← hW7]; (repeat' (first | (with_reducible exact Below.refl _ _) | (with_reducible refine below_drewN ?_ _) | (with_reducible refine Below.drew ?_) | (with_reducible refine Below.alloc ?_ ?_ _) | (with_reducible refine Below.setCell ?_ ?_ _) | (with_reducible refine Below.trans ?_ (Below.mono (by with_reducible assumption) ?_)) | omega | (simp only [World.size_alloc, World.size_setCell, World.size_drew, Go.Proofs.YtfikkjdkgigikaaDoor.World.size_drewN] at *; omega) | (with_reducible refine Below.size (B := 0) ?_)))
           have v7 : Vb W7 g7 z := by rw [← hW7, ← hg7]; exact Vb.new w6 z
           have hg7' : w5.heap.size ≤ g7 := by rw [← hg7]; have := b6.size; simpa using this
           rw [hW7, hg7])
        | (obtain ⟨W7, hW7⟩ : ∃ W7, ((((w6.setCell ⟨w5.heap.size, 0, none⟩ (.int .i64 z.a)).setCell ⟨w5.heap.size, 1, none⟩ (.int .i64 z.b)).setCell ⟨w5.heap.size, 2, none⟩ (.int .i64 z.c)).setCell ⟨w5.heap.size, 3, none⟩ (.int .i64 z.d)) = W7 := ⟨_, rfl⟩
           obtain ⟨g7, hg7⟩ : ∃ g7, w5.heap.size = g7 := ⟨_, rfl⟩
           have hb7 : Below w5.heap.size w5 W7 := by rw [← hW7]; (repeat' (first | (with_reducible exact Below.refl _ _) | (with_reducible refine below_drewN ?_ _) | (with_reducible refine Below.drew ?_) | (with_reducible refine Below.alloc ?_ ?_ _) | (with_reducible refine Below.setCell ?_ ?_ _) | (with_reducible refine Below.trans ?_ (Below.mono (by with_reducible assumption) ?_)) | omega | (simp only [World.size_alloc, World.size_setCell, World.size_drew, Go.Proofs.YtfikkjdkgigikaaDoor.World.size_drewN] at *; omega) | (with_reducible refine Below.size (B := 0) ?_)))
           have v7 : Vb W7 g7 z := by
             rw [← hW7, ← hg7]
             exact Vb.set4 (x := ⟨0, 0, 0, 0⟩) (vec_new (W := w5.drew) b6) z.a z.b z.c z.d
           have hg7' : w5.heap.size ≤ g7 := by omega
           rw [hW7, hg7])
      have hb37 : Below W3.heap.size W3 W7 := HB35.out.trans (hb7.mono HB35.out.size)
      have hb07 : Below w.heap.size w W7 := HB5.out.trans (hb7.mono HB5.out.size)
      obtain ⟨z0, z1, z2, z3, zf, zl⟩ := v7.facts
      obtain ⟨_, c1, c2, c3, c4, cf⟩ := HCE.out W7 hb37
      have HDF := Lib.hid (HDL.out W7 hb37)
      have HFN := Lib.hid (fun w9 => HFIN.out W7 w9 hb37)
      clear hb7 hb37 hb07 v7 hg7 HFIN HDL HCE HSV HS5 HC hg7'
      go_wp2_with fail
      obtain ⟨d0, d1, d2, d3, d4⟩ := HDF.out
      obtain ⟨W8, hW8⟩ : ∃ W8, ((((W7.setCell ⟨gE, k * 5 + 1, none⟩ (.int .i64 z.a)).setCell ⟨gE, k * 5 + 2, none⟩ (.int .i64 z.b)).setCell ⟨gE, k * 5 + 3, none⟩ (.int .i64 z.c)).setCell ⟨gE, k * 5 + 4, none⟩ (.int .i64 z.d)) = W8 := ⟨_, rfl⟩
      rw [hW8] at HFN d0 d1 d2 d3 d4 ⊢
      have HM8 : Hid (SeatsAt W8.drew b2 T2) := Lib.hid (d3.same rfl)
      obtain ⟨q0, q1, q2, q3, qf, ql⟩ := d4.facts
      clear hW8 d3 d4 HDF
      go_still_tail 9, (by kernel_rfl)
      change wpList _ _ _ _ _ W8.drew
      go_wp2_with (at_mapUpdate; refine wpList_putG _ kitT rfl _ _ _ 75 rfl 86 Tryd.underlying75 encSeat b2 T2 rfl HM8.out HML.out t rfl HT.out ⟨id, k, v⟩ rfl ?_; intro w9 hm9 hg9)
      go_ret
      exact ⟨rfl, HFN.out w9 hm9 ⟨hg9.os, hg9.tape, hg9.output, hg9.size, hg9.block⟩⟩
end
end Go.Proofs.YtfikkjdkgigikaaDoor
