/- The program's book of envelopes by contracts: Put. Conditions: the book lies in memory as its maps have it; the sentinels lie where the program's text lays them. -/
import Derived.Test.YtbdnfppbiplpmaaDoorMaB
import Derived.Test.YtbdnfppbiplpmaaDoorVbs
import Derived.Test.YtbdnfppbiplpmaaDoorRgo
import Derived.Deep.DeepCutAuto
import Derived.Deep.CutBlock
namespace Go.Proofs.YtbdnfppbiplpmaaDoor
open Go Go.RowKit Go.Maps

section
variable {w : World} {P : Nat → Prop} {q b1 b2 : Nat} {T1 : List (Int × Option (Nat × Nat))} {T2 : List (Tk × SeatR)} {bl : Int → Nat} {G : AG}
set_option maxRecDepth 100000 in
set_option maxHeartbeats 3200000 in
/-- Book.Put: there is no such envelope. -/
theorem aput_find (s : Nat → Addr) (h : AlP w P q b1 b2 T1 T2 bl G) (hs : SentP s P w) (t : Tk) (v : V4) {id pos : Int} (hid : i64 id) (h0 : 0 < findE G id pos) :
    Calls Tryd.prog 20 #[.pointer (some ⟨q, 0, none⟩), .agg #[.int .i64 t.job, .int .i64 t.ix], .int .i64 id, .int .i64 pos, .agg #[.int .i64 v.a, .int .i64 v.b, .int .i64 v.c, .int .i64 v.d]] w fun e w' => e = .returned (errV s (findE G id pos)) ∧ Below w.heap.size w w' := by
  obtain ⟨W1, hW1⟩ : ∃ W1, (w.alloc (.cells #[.int .i64 t.job, .int .i64 t.ix] 32)).alloc (.cells #[.int .i64 v.a, .int .i64 v.b, .int .i64 v.c, .int .i64 v.d] 34) = W1 := ⟨_, rfl⟩
  have hb1 : Below w.heap.size w W1 := by rw [← hW1]; exact ((Below.refl _ _).alloc (Nat.le_refl _) _).alloc (by simp) _
  have HF := Lib.hid (afind_no s (h.on hb1) (hs.on hb1).here h0 hid)
  have HW1 := Lib.hid hW1; have HB1 := Lib.hid hb1
  obtain ⟨E, hE⟩ : ∃ E, findE G id pos = E + 1 := ⟨findE G id pos - 1, by omega⟩
  rw [hE] at HF ⊢
  rw [errA s (E + 1) (by omega)] at HF ⊢
  clear h hs h0 hE hW1 hb1
  go_enter Tryd.func20, Tryd.ntmps20
  go_wp2_with fail
  rw [HW1.out]
  refine HF.out.mono ?_
  rintro e w2 ⟨rfl, b2⟩
  go_wp2_with fail
  go_ret
  exact ⟨rfl, HB1.out.trans (b2.mono HB1.out.size)⟩

set_option maxRecDepth 100000 in
set_option maxHeartbeats 3200000 in
/-- Book.Put: the demand is not valid. -/
theorem aput_arg (s : Nat → Addr) (h : AlP w P q b1 b2 T1 T2 bl G) (hs : SentP s P w) {t : Tk} (ht : okT t) (v : V4) {id : Int} (hid : i64 id) {sA : SetA} {k : Nat} (e : setA G id = some sA) (hk : k < sA.n) (hg : goodV v = false) :
    Calls Tryd.prog 20 #[.pointer (some ⟨q, 0, none⟩), .agg #[.int .i64 t.job, .int .i64 t.ix], .int .i64 id, .int .i64 (k : Int), .agg #[.int .i64 v.a, .int .i64 v.b, .int .i64 v.c, .int .i64 v.d]] w fun e w' => e = .returned (errV s 1) ∧ Below w.heap.size w w' := by
  obtain ⟨b, hb⟩ : ∃ b, (tkA G t).isSome = b := ⟨_, rfl⟩
  obtain ⟨x, hx⟩ : ∃ x, seatA G t = x := ⟨_, rfl⟩
  obtain ⟨X, hX⟩ : ∃ X, w.heap.size = X := ⟨_, rfl⟩
  obtain ⟨W1, hW1⟩ : ∃ W1, (w.alloc (.cells #[.int .i64 t.job, .int .i64 t.ix] 32)).alloc (.cells #[.int .i64 v.a, .int .i64 v.b, .int .i64 v.c, .int .i64 v.d] 34) = W1 := ⟨_, rfl⟩
  have hb1 : Below w.heap.size w W1 := by rw [← hW1]; exact ((Below.refl _ _).alloc (Nat.le_refl _) _).alloc (by simp) _
  have k1 : W1.heap[X]? = some (.cells #[.int .i64 t.job, .int .i64 t.ix] 32 (0, 0)) := by rw [← hW1, ← hX]; exact (Below.heap_alloc _ _ _ (by simp)).trans (heap_alloc_new _ _)
  have v1 : Vb W1 (X + 1) v := by
    rw [← hW1, ← hX]
    have := Vb.new_at (w := w.alloc (.cells #[.int .i64 t.job, .int .i64 t.ix] 32)) (g := w.heap.size + 1) (by simp) v
    exact this
  have hXW : X + 1 < W1.heap.size := lt_of_row v1
  have h1 := h.on hb1
  have HC : Hid (∀ W, Below W1.heap.size W1 W → (W.cell? ⟨X, 0, none⟩ = some (.int .i64 t.job) ∧ W.cell? ⟨X, 1, none⟩ = some (.int .i64 t.ix) ∧ W.cell? ⟨q, 1, none⟩ = some (.map (some b2)) ∧ (Instr.lookup 105 (.map (some b2)) (.agg #[.int .i64 t.job, .int .i64 t.ix]) true).run Tryd.prog W = .ok (.tuple #[.agg #[.int .i64 x.set, .int .i64 x.pos, .int .i64 x.need.a, .int .i64 x.need.b, .int .i64 x.need.c, .int .i64 x.need.d], .bool b]) W)) := Lib.hid fun W hW => ⟨cell_of_heap ((hW.block X (by omega)).trans k1) 0, cell_of_heap ((hW.block X (by omega)).trans k1) 1, cell_of_heap (h1.on hW).box 1, (h1.on hW).lk2 ht hx hb⟩
  obtain ⟨W3, hW3⟩ : ∃ W3, (W1.alloc (.cells #[.int .i64 x.set, .int .i64 x.pos, .int .i64 x.need.a, .int .i64 x.need.b, .int .i64 x.need.c, .int .i64 x.need.d] 116)).drew = W3 := ⟨_, rfl⟩
  have hb3 : Below W1.heap.size W1 W3 := by rw [← hW3]; exact ((Below.refl _ _).alloc (Nat.le_refl _) _).drew
  have h3 := h1.on hb3
  have hs3 := (hs.on hb1).on hb3
  have v3 : Vb W3 (X + 1) v := v1.below hb3 hXW
  have hb3' : Below w.heap.size w W3 := hb1.trans (hb3.mono hb1.size)
  have HF := Lib.hid (afind_ok h1 e hk hid)
  obtain ⟨gE, hgE⟩ : ∃ gE, bl id = gE := ⟨_, rfl⟩
  rw [hgE] at HF
  have HX := Lib.hid hX; have HW1 := Lib.hid hW1; have HW3 := Lib.hid hW3; have HB3 := Lib.hid hb3'
  have HGD : Hid (∀ W, Calls Tryd.prog 55 #[.agg #[.int .i64 v.a, .int .i64 v.b, .int .i64 v.c, .int .i64 v.d]] W fun e w' => e = .returned (.bool (goodV v)) ∧ Below W.heap.size W w') := Lib.hid fun W => good_c v W
  have e0 := hs3.here.cell 0 (by omega)
  simp only [gnum, List.getD_cons_zero] at e0
  obtain ⟨c0, c1, c2, c3, c4, cf⟩ := h3.cells e hk
  rw [hgE] at c0 c1 c2 c3 c4 cf
  have HV3 := Lib.hid v3
  have HCE : Hid (∀ w5, Below W3.heap.size W3 w5 → w5.cell? ⟨gE, k * 5, none⟩ = some (.bool (sA.up k)) ∧ w5.cell? ⟨gE, k * 5 + 1, none⟩ = some (.int .i64 (leftA G sA k).a) ∧ w5.cell? ⟨gE, k * 5 + 2, none⟩ = some (.int .i64 (leftA G sA k).b) ∧ w5.cell? ⟨gE, k * 5 + 3, none⟩ = some (.int .i64 (leftA G sA k).c) ∧ w5.cell? ⟨gE, k * 5 + 4, none⟩ = some (.int .i64 (leftA G sA k).d) ∧ ∀ j, w5.frozen? ⟨gE, j, none⟩ = false) := Lib.hid fun w5 hb => by
    have := (h3.on hb).cells e hk
    rw [hgE] at this; exact this
  have HEE : Hid (∀ w5, Below W3.heap.size W3 w5 → w5.cell? ⟨0, 0, none⟩ = some (.iface 225 (.pointer (some (s 0))))) := Lib.hid fun w5 hb => (hb.cell (lt_of_cell e0)).trans e0
  rw [hg] at HGD
  rw [errA s 1 (by omega)]
  clear h hs hX hW1 k1 v1 hb1 hXW h1 hb3 h3 hs3 v3 hb3' hgE hx hW3 e hk hb hg c0 c1 c2 c3 c4 cf e0
  go_enter Tryd.func20, Tryd.ntmps20
  go_wp2_with fail
  rw [HW1.out, HX.out]
  refine HF.out.mono ?_
  rintro e w2 ⟨rfl, rfl⟩
  go_wp2_with fail
  go_region_held3 (fun W => W.cell? ⟨X, 0, none⟩ = some (.int .i64 t.job) ∧ W.cell? ⟨X, 1, none⟩ = some (.int .i64 t.ix) ∧ W.cell? ⟨q, 1, none⟩ = some (.map (some b2)) ∧ (Instr.lookup 105 (.map (some b2)) (.agg #[.int .i64 t.job, .int .i64 t.ix]) true).run Tryd.prog W = .ok (.tuple #[.agg #[.int .i64 x.set, .int .i64 x.pos, .int .i64 x.need.a, .int .i64 x.need.b, .int .i64 x.need.c, .int .i64 x.need.d], .bool b]) W)
    (first | exact HC.out _ (by (repeat' (first | (with_reducible exact Below.refl _ _) | (with_reducible refine below_drewN ?_ _) | (with_reducible refine Below.drew ?_) | (with_reducible refine Below.alloc ?_ ?_ _) | (with_reducible refine Below.setCell ?_ ?_ _) | (with_reducible refine Below.trans ?_ (Below.mono (by with_reducible assumption) ?_)) | omega | (simp only [World.size_alloc, World.size_setCell, World.size_drew, Go.Proofs.YtbdnfppbiplpmaaDoor.World.size_drewN] at *; omega) | (with_reducible refine Below.size (B := 0) ?_)))))
    (fail)
  all_goals
    rw [HW3.out]
    obtain ⟨p0, p1, p2, p3, pf, pl⟩ := HV3.out.facts
    go_wp2_with fail
    refine (HGD.out _).mono ?_
    rintro e w5 ⟨rfl, b5⟩
    have hb5 : Below w.heap.size w w5 := HB3.out.trans (b5.mono HB3.out.size)
    obtain ⟨c0, c1, c2, c3, c4, cf⟩ := HCE.out w5 b5
    obtain ⟨p0, p1, p2, p3, pf, pl⟩ := (HV3.out.below b5 (lt_of_row HV3.out)).facts
    have ee := HEE.out w5 b5
    clear b5 c0 c1 c2 c3 c4 cf
    go_wp2_with fail
    go_ret
    exact ⟨rfl, hb5⟩

set_option maxRecDepth 100000 in
set_option maxHeartbeats 3200000 in
/-- Book.Put: the envelope is down. -/
theorem aput_down (s : Nat → Addr) (h : AlP w P q b1 b2 T1 T2 bl G) (hs : SentP s P w) {t : Tk} (ht : okT t) (v : V4) {id : Int} (hid : i64 id) {sA : SetA} {k : Nat} (e : setA G id = some sA) (hk : k < sA.n) (hg : goodV v = true) (hu : sA.up k = false) :
    Calls Tryd.prog 20 #[.pointer (some ⟨q, 0, none⟩), .agg #[.int .i64 t.job, .int .i64 t.ix], .int .i64 id, .int .i64 (k : Int), .agg #[.int .i64 v.a, .int .i64 v.b, .int .i64 v.c, .int .i64 v.d]] w fun e w' => e = .returned (errV s 13) ∧ Below w.heap.size w w' := by
  obtain ⟨b, hb⟩ : ∃ b, (tkA G t).isSome = b := ⟨_, rfl⟩
  obtain ⟨x, hx⟩ : ∃ x, seatA G t = x := ⟨_, rfl⟩
  obtain ⟨X, hX⟩ : ∃ X, w.heap.size = X := ⟨_, rfl⟩
  obtain ⟨W1, hW1⟩ : ∃ W1, (w.alloc (.cells #[.int .i64 t.job, .int .i64 t.ix] 32)).alloc (.cells #[.int .i64 v.a, .int .i64 v.b, .int .i64 v.c, .int .i64 v.d] 34) = W1 := ⟨_, rfl⟩
  have hb1 : Below w.heap.size w W1 := by rw [← hW1]; exact ((Below.refl _ _).alloc (Nat.le_refl _) _).alloc (by simp) _
  have k1 : W1.heap[X]? = some (.cells #[.int .i64 t.job, .int .i64 t.ix] 32 (0, 0)) := by rw [← hW1, ← hX]; exact (Below.heap_alloc _ _ _ (by simp)).trans (heap_alloc_new _ _)
  have v1 : Vb W1 (X + 1) v := by
    rw [← hW1, ← hX]
    have := Vb.new_at (w := w.alloc (.cells #[.int .i64 t.job, .int .i64 t.ix] 32)) (g := w.heap.size + 1) (by simp) v
    exact this
  have hXW : X + 1 < W1.heap.size := lt_of_row v1
  have h1 := h.on hb1
  have HC : Hid (∀ W, Below W1.heap.size W1 W → (W.cell? ⟨X, 0, none⟩ = some (.int .i64 t.job) ∧ W.cell? ⟨X, 1, none⟩ = some (.int .i64 t.ix) ∧ W.cell? ⟨q, 1, none⟩ = some (.map (some b2)) ∧ (Instr.lookup 105 (.map (some b2)) (.agg #[.int .i64 t.job, .int .i64 t.ix]) true).run Tryd.prog W = .ok (.tuple #[.agg #[.int .i64 x.set, .int .i64 x.pos, .int .i64 x.need.a, .int .i64 x.need.b, .int .i64 x.need.c, .int .i64 x.need.d], .bool b]) W)) := Lib.hid fun W hW => ⟨cell_of_heap ((hW.block X (by omega)).trans k1) 0, cell_of_heap ((hW.block X (by omega)).trans k1) 1, cell_of_heap (h1.on hW).box 1, (h1.on hW).lk2 ht hx hb⟩
  obtain ⟨W3, hW3⟩ : ∃ W3, (W1.alloc (.cells #[.int .i64 x.set, .int .i64 x.pos, .int .i64 x.need.a, .int .i64 x.need.b, .int .i64 x.need.c, .int .i64 x.need.d] 116)).drew = W3 := ⟨_, rfl⟩
  have hb3 : Below W1.heap.size W1 W3 := by rw [← hW3]; exact ((Below.refl _ _).alloc (Nat.le_refl _) _).drew
  have h3 := h1.on hb3
  have hs3 := (hs.on hb1).on hb3
  have v3 : Vb W3 (X + 1) v := v1.below hb3 hXW
  have hb3' : Below w.heap.size w W3 := hb1.trans (hb3.mono hb1.size)
  have HF := Lib.hid (afind_ok h1 e hk hid)
  obtain ⟨gE, hgE⟩ : ∃ gE, bl id = gE := ⟨_, rfl⟩
  rw [hgE] at HF
  have HX := Lib.hid hX; have HW1 := Lib.hid hW1; have HW3 := Lib.hid hW3; have HB3 := Lib.hid hb3'
  have HGD : Hid (∀ W, Calls Tryd.prog 55 #[.agg #[.int .i64 v.a, .int .i64 v.b, .int .i64 v.c, .int .i64 v.d]] W fun e w' => e = .returned (.bool (goodV v)) ∧ Below W.heap.size W w') := Lib.hid fun W => good_c v W
  have e12 := hs3.here.cell 12 (by omega)
  simp only [gnum, List.getD_cons_zero, List.getD_cons_succ] at e12
  obtain ⟨c0, c1, c2, c3, c4, cf⟩ := h3.cells e hk
  rw [hgE] at c0 c1 c2 c3 c4 cf
  have HV3 := Lib.hid v3
  have HCE : Hid (∀ w5, Below W3.heap.size W3 w5 → w5.cell? ⟨gE, k * 5, none⟩ = some (.bool (sA.up k)) ∧ w5.cell? ⟨gE, k * 5 + 1, none⟩ = some (.int .i64 (leftA G sA k).a) ∧ w5.cell? ⟨gE, k * 5 + 2, none⟩ = some (.int .i64 (leftA G sA k).b) ∧ w5.cell? ⟨gE, k * 5 + 3, none⟩ = some (.int .i64 (leftA G sA k).c) ∧ w5.cell? ⟨gE, k * 5 + 4, none⟩ = some (.int .i64 (leftA G sA k).d) ∧ ∀ j, w5.frozen? ⟨gE, j, none⟩ = false) := Lib.hid fun w5 hb => by
    have := (h3.on hb).cells e hk
    rw [hgE] at this; exact this
  have HEE : Hid (∀ w5, Below W3.heap.size W3 w5 → w5.cell? ⟨12, 0, none⟩ = some (.iface 225 (.pointer (some (s 12))))) := Lib.hid fun w5 hb => (hb.cell (lt_of_cell e12)).trans e12
  rw [hu] at HCE
  rw [hg] at HGD
  rw [errA s 13 (by omega)]
  clear h hs hX hW1 k1 v1 hb1 hXW h1 hb3 h3 hs3 v3 hb3' hgE hx hW3 e hk hb hg hu c0 c1 c2 c3 c4 cf e12
  go_enter Tryd.func20, Tryd.ntmps20
  go_wp2_with fail
  rw [HW1.out, HX.out]
  refine HF.out.mono ?_
  rintro e w2 ⟨rfl, rfl⟩
  go_wp2_with fail
  go_region_held3 (fun W => W.cell? ⟨X, 0, none⟩ = some (.int .i64 t.job) ∧ W.cell? ⟨X, 1, none⟩ = some (.int .i64 t.ix) ∧ W.cell? ⟨q, 1, none⟩ = some (.map (some b2)) ∧ (Instr.lookup 105 (.map (some b2)) (.agg #[.int .i64 t.job, .int .i64 t.ix]) true).run Tryd.prog W = .ok (.tuple #[.agg #[.int .i64 x.set, .int .i64 x.pos, .int .i64 x.need.a, .int .i64 x.need.b, .int .i64 x.need.c, .int .i64 x.need.d], .bool b]) W)
    (first | exact HC.out _ (by (repeat' (first | (with_reducible exact Below.refl _ _) | (with_reducible refine below_drewN ?_ _) | (with_reducible refine Below.drew ?_) | (with_reducible refine Below.alloc ?_ ?_ _) | (with_reducible refine Below.setCell ?_ ?_ _) | (with_reducible refine Below.trans ?_ (Below.mono (by with_reducible assumption) ?_)) | omega | (simp only [World.size_alloc, World.size_setCell, World.size_drew, Go.Proofs.YtbdnfppbiplpmaaDoor.World.size_drewN] at *; omega) | (with_reducible refine Below.size (B := 0) ?_)))))
    (fail)
  all_goals
    rw [HW3.out]
    obtain ⟨p0, p1, p2, p3, pf, pl⟩ := HV3.out.facts
    go_wp2_with fail
    refine (HGD.out _).mono ?_
    rintro e w5 ⟨rfl, b5⟩
    have hb5 : Below w.heap.size w w5 := HB3.out.trans (b5.mono HB3.out.size)
    obtain ⟨c0, c1, c2, c3, c4, cf⟩ := HCE.out w5 b5
    obtain ⟨p0, p1, p2, p3, pf, pl⟩ := (HV3.out.below b5 (lt_of_row HV3.out)).facts
    have ee := HEE.out w5 b5
    clear b5
    go_wp2_with fail
    go_ret
    exact ⟨rfl, hb5⟩

set_option maxRecDepth 100000 in
set_option maxHeartbeats 3200000 in
/-- Book.Put: the task is inside one. -/
theorem aput_dup (s : Nat → Addr) (h : AlP w P q b1 b2 T1 T2 bl G) (hs : SentP s P w) {t : Tk} (ht : okT t) (v : V4) {id : Int} (hid : i64 id) {sA : SetA} {k : Nat} (e : setA G id = some sA) (hk : k < sA.n) (hg : goodV v = true) (hu : sA.up k = true) (hb : (tkA G t).isSome = true) :
    Calls Tryd.prog 20 #[.pointer (some ⟨q, 0, none⟩), .agg #[.int .i64 t.job, .int .i64 t.ix], .int .i64 id, .int .i64 (k : Int), .agg #[.int .i64 v.a, .int .i64 v.b, .int .i64 v.c, .int .i64 v.d]] w fun e w' => e = .returned (errV s 6) ∧ Below w.heap.size w w' := by
  obtain ⟨x, hx⟩ : ∃ x, seatA G t = x := ⟨_, rfl⟩
  obtain ⟨X, hX⟩ : ∃ X, w.heap.size = X := ⟨_, rfl⟩
  obtain ⟨W1, hW1⟩ : ∃ W1, (w.alloc (.cells #[.int .i64 t.job, .int .i64 t.ix] 32)).alloc (.cells #[.int .i64 v.a, .int .i64 v.b, .int .i64 v.c, .int .i64 v.d] 34) = W1 := ⟨_, rfl⟩
  have hb1 : Below w.heap.size w W1 := by rw [← hW1]; exact ((Below.refl _ _).alloc (Nat.le_refl _) _).alloc (by simp) _
  have k1 : W1.heap[X]? = some (.cells #[.int .i64 t.job, .int .i64 t.ix] 32 (0, 0)) := by rw [← hW1, ← hX]; exact (Below.heap_alloc _ _ _ (by simp)).trans (heap_alloc_new _ _)
  have v1 : Vb W1 (X + 1) v := by
    rw [← hW1, ← hX]
    have := Vb.new_at (w := w.alloc (.cells #[.int .i64 t.job, .int .i64 t.ix] 32)) (g := w.heap.size + 1) (by simp) v
    exact this
  have hXW : X + 1 < W1.heap.size := lt_of_row v1
  have h1 := h.on hb1
  have HC : Hid (∀ W, Below W1.heap.size W1 W → (W.cell? ⟨X, 0, none⟩ = some (.int .i64 t.job) ∧ W.cell? ⟨X, 1, none⟩ = some (.int .i64 t.ix) ∧ W.cell? ⟨q, 1, none⟩ = some (.map (some b2)) ∧ (Instr.lookup 105 (.map (some b2)) (.agg #[.int .i64 t.job, .int .i64 t.ix]) true).run Tryd.prog W = .ok (.tuple #[.agg #[.int .i64 x.set, .int .i64 x.pos, .int .i64 x.need.a, .int .i64 x.need.b, .int .i64 x.need.c, .int .i64 x.need.d], .bool true]) W)) := Lib.hid fun W hW => ⟨cell_of_heap ((hW.block X (by omega)).trans k1) 0, cell_of_heap ((hW.block X (by omega)).trans k1) 1, cell_of_heap (h1.on hW).box 1, (h1.on hW).lk2 ht hx hb⟩
  obtain ⟨W3, hW3⟩ : ∃ W3, (W1.alloc (.cells #[.int .i64 x.set, .int .i64 x.pos, .int .i64 x.need.a, .int .i64 x.need.b, .int .i64 x.need.c, .int .i64 x.need.d] 116)).drew = W3 := ⟨_, rfl⟩
  have hb3 : Below W1.heap.size W1 W3 := by rw [← hW3]; exact ((Below.refl _ _).alloc (Nat.le_refl _) _).drew
  have h3 := h1.on hb3
  have hs3 := (hs.on hb1).on hb3
  have v3 : Vb W3 (X + 1) v := v1.below hb3 hXW
  have hb3' : Below w.heap.size w W3 := hb1.trans (hb3.mono hb1.size)
  have HF := Lib.hid (afind_ok h1 e hk hid)
  obtain ⟨gE, hgE⟩ : ∃ gE, bl id = gE := ⟨_, rfl⟩
  rw [hgE] at HF
  have HX := Lib.hid hX; have HW1 := Lib.hid hW1; have HW3 := Lib.hid hW3; have HB3 := Lib.hid hb3'
  have HGD : Hid (∀ W, Calls Tryd.prog 55 #[.agg #[.int .i64 v.a, .int .i64 v.b, .int .i64 v.c, .int .i64 v.d]] W fun e w' => e = .returned (.bool (goodV v)) ∧ Below W.heap.size W w') := Lib.hid fun W => good_c v W
  have e5 := hs3.here.cell 5 (by omega)
  simp only [gnum, List.getD_cons_zero, List.getD_cons_succ] at e5
  obtain ⟨c0, c1, c2, c3, c4, cf⟩ := h3.cells e hk
  rw [hgE] at c0 c1 c2 c3 c4 cf
  have HV3 := Lib.hid v3
  have HCE : Hid (∀ w5, Below W3.heap.size W3 w5 → w5.cell? ⟨gE, k * 5, none⟩ = some (.bool (sA.up k)) ∧ w5.cell? ⟨gE, k * 5 + 1, none⟩ = some (.int .i64 (leftA G sA k).a) ∧ w5.cell? ⟨gE, k * 5 + 2, none⟩ = some (.int .i64 (leftA G sA k).b) ∧ w5.cell? ⟨gE, k * 5 + 3, none⟩ = some (.int .i64 (leftA G sA k).c) ∧ w5.cell? ⟨gE, k * 5 + 4, none⟩ = some (.int .i64 (leftA G sA k).d) ∧ ∀ j, w5.frozen? ⟨gE, j, none⟩ = false) := Lib.hid fun w5 hb => by
    have := (h3.on hb).cells e hk
    rw [hgE] at this; exact this
  have HEE : Hid (∀ w5, Below W3.heap.size W3 w5 → w5.cell? ⟨5, 0, none⟩ = some (.iface 225 (.pointer (some (s 5))))) := Lib.hid fun w5 hb => (hb.cell (lt_of_cell e5)).trans e5
  rw [hu] at HCE
  rw [hg] at HGD
  rw [errA s 6 (by omega)]
  clear h hs hX hW1 k1 v1 hb1 hXW h1 hb3 h3 hs3 v3 hb3' hgE hx hW3 e hk hb hg hu c0 c1 c2 c3 c4 cf e5
  go_enter Tryd.func20, Tryd.ntmps20
  go_wp2_with fail
  rw [HW1.out, HX.out]
  refine HF.out.mono ?_
  rintro e w2 ⟨rfl, rfl⟩
  go_wp2_with fail
  go_region_held3 (fun W => W.cell? ⟨X, 0, none⟩ = some (.int .i64 t.job) ∧ W.cell? ⟨X, 1, none⟩ = some (.int .i64 t.ix) ∧ W.cell? ⟨q, 1, none⟩ = some (.map (some b2)) ∧ (Instr.lookup 105 (.map (some b2)) (.agg #[.int .i64 t.job, .int .i64 t.ix]) true).run Tryd.prog W = .ok (.tuple #[.agg #[.int .i64 x.set, .int .i64 x.pos, .int .i64 x.need.a, .int .i64 x.need.b, .int .i64 x.need.c, .int .i64 x.need.d], .bool true]) W)
    (first | exact HC.out _ (by (repeat' (first | (with_reducible exact Below.refl _ _) | (with_reducible refine below_drewN ?_ _) | (with_reducible refine Below.drew ?_) | (with_reducible refine Below.alloc ?_ ?_ _) | (with_reducible refine Below.setCell ?_ ?_ _) | (with_reducible refine Below.trans ?_ (Below.mono (by with_reducible assumption) ?_)) | omega | (simp only [World.size_alloc, World.size_setCell, World.size_drew, Go.Proofs.YtbdnfppbiplpmaaDoor.World.size_drewN] at *; omega) | (with_reducible refine Below.size (B := 0) ?_)))))
    (fail)
  all_goals
    rw [HW3.out]
    obtain ⟨p0, p1, p2, p3, pf, pl⟩ := HV3.out.facts
    go_wp2_with fail
    refine (HGD.out _).mono ?_
    rintro e w5 ⟨rfl, b5⟩
    have hb5 : Below w.heap.size w w5 := HB3.out.trans (b5.mono HB3.out.size)
    obtain ⟨c0, c1, c2, c3, c4, cf⟩ := HCE.out w5 b5
    obtain ⟨p0, p1, p2, p3, pf, pl⟩ := (HV3.out.below b5 (lt_of_row HV3.out)).facts
    have ee := HEE.out w5 b5
    clear b5
    go_wp2_with fail
    go_ret
    exact ⟨rfl, hb5⟩

/-- A block that a vector's variable begins with. -/
abbrev vecO : Obj := .cells #[.int .i64 0, .int .i64 0, .int .i64 0, .int .i64 0] 34
theorem vec_new {W w' : World} (h : Below (W.alloc vecO).heap.size (W.alloc vecO) w') : w'.heap[W.heap.size]? = some vecO := (h.block _ (by simp)).trans (heap_alloc_new W _)
theorem vec_cells {W : World} {g : Nat} (h : W.heap[g]? = some vecO) : W.cell? ⟨g, 0, none⟩ = some (.int .i64 0) ∧ W.cell? ⟨g, 1, none⟩ = some (.int .i64 0) ∧ W.cell? ⟨g, 2, none⟩ = some (.int .i64 0) ∧ W.cell? ⟨g, 3, none⟩ = some (.int .i64 0) ∧ ∀ j, W.frozen? ⟨g, j, none⟩ = false :=
  ⟨cell_of_heap h 0, cell_of_heap h 1, cell_of_heap h 2, cell_of_heap h 3, fun j => frozen_of_heap h j⟩
theorem sub_fit {x l : V4} (hx : goodV x = true) (hl : goodV l = true) (h : fitsV l x = true) : subR x l = (mv x l, 0) := by
  have h1 := good_comp.1 hx; have h2 := good_comp.1 hl; have h3 := fits_comp.1 h
  have hg : goodV (mv x l) = true := good_comp.2 fun r => by rw [comp_mv]; have := h1 r; have := h2 r; have := h3 r; omega
  rw [sub_yes hx hl]
  unfold checkR
  rw [show (⟨x.a - l.a, x.b - l.b, x.c - l.c, x.d - l.d⟩ : V4) = mv x l from rfl, if_pos hg]
theorem sub_unfit {x l : V4} (hx : goodV x = true) (hl : goodV l = true) (h : fitsV l x = false) : subR x l = (⟨0, 0, 0, 0⟩, 4) := by
  have hg : goodV (mv x l) = false := by
    cases e : goodV (mv x l) with
    | false => rfl
    | true =>
      have : fitsV l x = true := fits_comp.2 fun r => by have := good_comp.1 e r; rw [comp_mv] at this; omega
      rw [h] at this; cases this
  rw [sub_yes hx hl]
  unfold checkR
  rw [show (⟨x.a - l.a, x.b - l.b, x.c - l.c, x.d - l.d⟩ : V4) = mv x l from rfl, hg]
  rfl
theorem tkA_put {G : AG} {t : Tk} (h : tkA G t = none) (id pos : Int) (v : V4) (u : Tk) : tkA ⟨G.sets, G.tasks ++ [⟨t, id, pos, v⟩]⟩ u = if u = t then some ⟨t, id, pos, v⟩ else tkA G u := by
  unfold tkA
  simp only [List.find?_append]
  by_cases e : u = t
  · subst e
    rw [if_pos rfl, show G.tasks.find? (fun x => decide (x.tk = u)) = none from h]
    simp
  · rw [if_neg e]
    have : ¬ t = u := fun k => e k.symm
    simp [this]

set_option maxRecDepth 100000 in
set_option maxHeartbeats 3200000 in
/-- Book.Put: it does not fit. -/
theorem aput_room (s : Nat → Addr) (h : AlP w P q b1 b2 T1 T2 bl G) (hs : SentP s P w) {t : Tk} (ht : okT t) (v : V4) {id : Int} (hid : i64 id) {sA : SetA} {k : Nat} (e : setA G id = some sA) (hk : k < sA.n) (hg : goodV v = true) (hu : sA.up k = true) (hb : (tkA G t).isSome = false) (hf : fitsV v (leftA G sA k) = false) :
    Calls Tryd.prog 20 #[.pointer (some ⟨q, 0, none⟩), .agg #[.int .i64 t.job, .int .i64 t.ix], .int .i64 id, .int .i64 (k : Int), .agg #[.int .i64 v.a, .int .i64 v.b, .int .i64 v.c, .int .i64 v.d]] w fun e w' => e = .returned (errV s 10) ∧ Below w.heap.size w w' := by
  obtain ⟨x, hx⟩ : ∃ x, seatA G t = x := ⟨_, rfl⟩
  obtain ⟨X, hX⟩ : ∃ X, w.heap.size = X := ⟨_, rfl⟩
  obtain ⟨W1, hW1⟩ : ∃ W1, (w.alloc (.cells #[.int .i64 t.job, .int .i64 t.ix] 32)).alloc (.cells #[.int .i64 v.a, .int .i64 v.b, .int .i64 v.c, .int .i64 v.d] 34) = W1 := ⟨_, rfl⟩
  have hb1 : Below w.heap.size w W1 := by rw [← hW1]; exact ((Below.refl _ _).alloc (Nat.le_refl _) _).alloc (by simp) _
  have k1 : W1.heap[X]? = some (.cells #[.int .i64 t.job, .int .i64 t.ix] 32 (0, 0)) := by rw [← hW1, ← hX]; exact (Below.heap_alloc _ _ _ (by simp)).trans (heap_alloc_new _ _)
  have v1 : Vb W1 (X + 1) v := by
    rw [← hW1, ← hX]
    have := Vb.new_at (w := w.alloc (.cells #[.int .i64 t.job, .int .i64 t.ix] 32)) (g := w.heap.size + 1) (by simp) v
    exact this
  have hXW : X + 1 < W1.heap.size := lt_of_row v1
  have h1 := h.on hb1
  have HC : Hid (∀ W, Below W1.heap.size W1 W → (W.cell? ⟨X, 0, none⟩ = some (.int .i64 t.job) ∧ W.cell? ⟨X, 1, none⟩ = some (.int .i64 t.ix) ∧ W.cell? ⟨q, 1, none⟩ = some (.map (some b2)) ∧ (Instr.lookup 105 (.map (some b2)) (.agg #[.int .i64 t.job, .int .i64 t.ix]) true).run Tryd.prog W = .ok (.tuple #[.agg #[.int .i64 x.set, .int .i64 x.pos, .int .i64 x.need.a, .int .i64 x.need.b, .int .i64 x.need.c, .int .i64 x.need.d], .bool false]) W)) := Lib.hid fun W hW => ⟨cell_of_heap ((hW.block X (by omega)).trans k1) 0, cell_of_heap ((hW.block X (by omega)).trans k1) 1, cell_of_heap (h1.on hW).box 1, (h1.on hW).lk2 ht hx hb⟩
  obtain ⟨W3, hW3⟩ : ∃ W3, (W1.alloc (.cells #[.int .i64 x.set, .int .i64 x.pos, .int .i64 x.need.a, .int .i64 x.need.b, .int .i64 x.need.c, .int .i64 x.need.d] 116)).drew = W3 := ⟨_, rfl⟩
  have hb3 : Below W1.heap.size W1 W3 := by rw [← hW3]; exact ((Below.refl _ _).alloc (Nat.le_refl _) _).drew
  have h3 := h1.on hb3
  have hs3 := (hs.on hb1).on hb3
  have v3 : Vb W3 (X + 1) v := v1.below hb3 hXW
  have hb3' : Below w.heap.size w W3 := hb1.trans (hb3.mono hb1.size)
  have HF := Lib.hid (afind_ok h1 e hk hid)
  obtain ⟨gE, hgE⟩ : ∃ gE, bl id = gE := ⟨_, rfl⟩
  rw [hgE] at HF
  have HX := Lib.hid hX; have HW1 := Lib.hid hW1; have HW3 := Lib.hid hW3; have HB3 := Lib.hid hb3'
  have HGD : Hid (∀ W, Calls Tryd.prog 55 #[.agg #[.int .i64 v.a, .int .i64 v.b, .int .i64 v.c, .int .i64 v.d]] W fun e w' => e = .returned (.bool (goodV v)) ∧ Below W.heap.size W w') := Lib.hid fun W => good_c v W
  have e9 := hs3.here.cell 9 (by omega)
  simp only [gnum, List.getD_cons_zero, List.getD_cons_succ] at e9
  obtain ⟨c0, c1, c2, c3, c4, cf⟩ := h3.cells e hk
  rw [hgE] at c0 c1 c2 c3 c4 cf
  have HV3 := Lib.hid v3
  have HCE : Hid (∀ w5, Below W3.heap.size W3 w5 → w5.cell? ⟨gE, k * 5, none⟩ = some (.bool (sA.up k)) ∧ w5.cell? ⟨gE, k * 5 + 1, none⟩ = some (.int .i64 (leftA G sA k).a) ∧ w5.cell? ⟨gE, k * 5 + 2, none⟩ = some (.int .i64 (leftA G sA k).b) ∧ w5.cell? ⟨gE, k * 5 + 3, none⟩ = some (.int .i64 (leftA G sA k).c) ∧ w5.cell? ⟨gE, k * 5 + 4, none⟩ = some (.int .i64 (leftA G sA k).d) ∧ ∀ j, w5.frozen? ⟨gE, j, none⟩ = false) := Lib.hid fun w5 hb => by
    have := (h3.on hb).cells e hk
    rw [hgE] at this; exact this
  have HEE : Hid (∀ w5, Below W3.heap.size W3 w5 → w5.cell? ⟨9, 0, none⟩ = some (.iface 225 (.pointer (some (s 9))))) := Lib.hid fun w5 hb => (hb.cell (lt_of_cell e9)).trans e9
  obtain ⟨l, hl⟩ : ∃ l, leftA G sA (k : Int) = l := ⟨_, rfl⟩
  have hlg : goodV l = true := by rw [← hl]; exact h.good.left sA (set_mem h.good e) _
  obtain ⟨z, hz⟩ : ∃ z, (subR l v).1 = z := ⟨_, rfl⟩
  obtain ⟨ez, hez⟩ : ∃ ez, errV s (subR l v).2 = ez := ⟨_, rfl⟩
  have HSB : Hid (∀ W, Below W3.heap.size W3 W → Calls Tryd.prog 60 #[.agg #[.int .i64 l.a, .int .i64 l.b, .int .i64 l.c, .int .i64 l.d], .agg #[.int .i64 v.a, .int .i64 v.b, .int .i64 v.c, .int .i64 v.d]] W fun e w' => e = .returned (.tuple #[.agg #[.int .i64 z.a, .int .i64 z.b, .int .i64 z.c, .int .i64 z.d], ez]) ∧ Below W.heap.size W w') := Lib.hid fun W hb => by
    have := sub_c s l v W (hs3.on hb).here
    rw [hz, hez] at this
    exact this
  rw [hl] at HCE
  rw [hl] at hf
  have hzz : ez = .iface 225 (.pointer (some (s 3))) := by rw [← hez, sub_unfit hlg hg hf]; rfl
  subst hzz
  rw [hu] at HCE
  rw [hg] at HGD
  rw [errA s 10 (by omega)]
  clear h hs hX hW1 k1 v1 hb1 hXW h1 hb3 h3 hs3 v3 hb3' hgE hx hW3 e hk hb hg hu c0 c1 c2 c3 c4 cf e9 hf hez hz hl hlg
  go_enter Tryd.func20, Tryd.ntmps20
  go_wp2_with fail
  rw [HW1.out, HX.out]
  refine HF.out.mono ?_
  rintro e w2 ⟨rfl, rfl⟩
  go_wp2_with fail
  go_region_held3 (fun W => W.cell? ⟨X, 0, none⟩ = some (.int .i64 t.job) ∧ W.cell? ⟨X, 1, none⟩ = some (.int .i64 t.ix) ∧ W.cell? ⟨q, 1, none⟩ = some (.map (some b2)) ∧ (Instr.lookup 105 (.map (some b2)) (.agg #[.int .i64 t.job, .int .i64 t.ix]) true).run Tryd.prog W = .ok (.tuple #[.agg #[.int .i64 x.set, .int .i64 x.pos, .int .i64 x.need.a, .int .i64 x.need.b, .int .i64 x.need.c, .int .i64 x.need.d], .bool false]) W)
    (first | exact HC.out _ (by (repeat' (first | (with_reducible exact Below.refl _ _) | (with_reducible refine below_drewN ?_ _) | (with_reducible refine Below.drew ?_) | (with_reducible refine Below.alloc ?_ ?_ _) | (with_reducible refine Below.setCell ?_ ?_ _) | (with_reducible refine Below.trans ?_ (Below.mono (by with_reducible assumption) ?_)) | omega | (simp only [World.size_alloc, World.size_setCell, World.size_drew, Go.Proofs.YtbdnfppbiplpmaaDoor.World.size_drewN] at *; omega) | (with_reducible refine Below.size (B := 0) ?_)))))
    (fail)
  all_goals
    rw [HW3.out]
    obtain ⟨p0, p1, p2, p3, pf, pl⟩ := HV3.out.facts
    go_wp2_with fail
    refine (HGD.out _).mono ?_
    rintro e w5 ⟨rfl, b5⟩
    have hb5 : Below w.heap.size w w5 := HB3.out.trans (b5.mono HB3.out.size)
    have HB5 := Lib.hid hb5
    have HB35 := Lib.hid b5
    obtain ⟨c0, c1, c2, c3, c4, cf⟩ := HCE.out w5 b5
    have HS5 : Hid (∀ W, Below w5.heap.size w5 W → (W.cell? ⟨gE, k * 5 + 1, none⟩ = some (.int .i64 l.a) ∧ W.cell? ⟨gE, k * 5 + 2, none⟩ = some (.int .i64 l.b) ∧ W.cell? ⟨gE, k * 5 + 3, none⟩ = some (.int .i64 l.c) ∧ W.cell? ⟨gE, k * 5 + 4, none⟩ = some (.int .i64 l.d) ∧ W.cell? ⟨X + 1, 0, none⟩ = some (.int .i64 v.a) ∧ W.cell? ⟨X + 1, 1, none⟩ = some (.int .i64 v.b) ∧ W.cell? ⟨X + 1, 2, none⟩ = some (.int .i64 v.c) ∧ W.cell? ⟨X + 1, 3, none⟩ = some (.int .i64 v.d))) := Lib.hid fun W hb => by
      have hb3W : Below W3.heap.size W3 W := HB35.out.trans (hb.mono HB35.out.size)
      obtain ⟨_, c1, c2, c3, c4, _⟩ := HCE.out W hb3W
      obtain ⟨p0, p1, p2, p3, _, _⟩ := (HV3.out.below hb3W (lt_of_row HV3.out)).facts
      exact ⟨c1, c2, c3, c4, p0, p1, p2, p3⟩
    have HSV : Hid (∀ W, Below w5.heap.size w5 W → Calls Tryd.prog 60 #[.agg #[.int .i64 l.a, .int .i64 l.b, .int .i64 l.c, .int .i64 l.d], .agg #[.int .i64 v.a, .int .i64 v.b, .int .i64 v.c, .int .i64 v.d]] W fun e w' => e = .returned (.tuple #[.agg #[.int .i64 z.a, .int .i64 z.b, .int .i64 z.c, .int .i64 z.d], .iface 225 (.pointer (some (s 3)))]) ∧ Below W.heap.size W w') := Lib.hid fun W hb => HSB.out W (HB35.out.trans (hb.mono HB35.out.size))
    clear hb5 b5 c1 c2 c3 c4 p0 p1 p2 p3 pf pl
    go_wp2_with fail
    go_region_held3 (fun W => W.cell? ⟨gE, k * 5 + 1, none⟩ = some (.int .i64 l.a) ∧ W.cell? ⟨gE, k * 5 + 2, none⟩ = some (.int .i64 l.b) ∧ W.cell? ⟨gE, k * 5 + 3, none⟩ = some (.int .i64 l.c) ∧ W.cell? ⟨gE, k * 5 + 4, none⟩ = some (.int .i64 l.d) ∧ W.cell? ⟨X + 1, 0, none⟩ = some (.int .i64 v.a) ∧ W.cell? ⟨X + 1, 1, none⟩ = some (.int .i64 v.b) ∧ W.cell? ⟨X + 1, 2, none⟩ = some (.int .i64 v.c) ∧ W.cell? ⟨X + 1, 3, none⟩ = some (.int .i64 v.d))
      (first | exact HS5.out _ (by (repeat' (first | (with_reducible exact Below.refl _ _) | (with_reducible refine below_drewN ?_ _) | (with_reducible refine Below.drew ?_) | (with_reducible refine Below.alloc ?_ ?_ _) | (with_reducible refine Below.setCell ?_ ?_ _) | (with_reducible refine Below.trans ?_ (Below.mono (by with_reducible assumption) ?_)) | omega | (simp only [World.size_alloc, World.size_setCell, World.size_drew, Go.Proofs.YtbdnfppbiplpmaaDoor.World.size_drewN] at *; omega) | (with_reducible refine Below.size (B := 0) ?_)))))
      (first
        | (go_at_call 60; (with_reducible refine (HSV.out _ (by (repeat' (first | (with_reducible exact Below.refl _ _) | (with_reducible refine below_drewN ?_ _) | (with_reducible refine Below.drew ?_) | (with_reducible refine Below.alloc ?_ ?_ _) | (with_reducible refine Below.setCell ?_ ?_ _) | (with_reducible refine Below.trans ?_ (Below.mono (by with_reducible assumption) ?_)) | omega | (simp only [World.size_alloc, World.size_setCell, World.size_drew, Go.Proofs.YtbdnfppbiplpmaaDoor.World.size_drewN] at *; omega) | (with_reducible refine Below.size (B := 0) ?_))))).mono ?_); rintro e w6 ⟨rfl, b6⟩; (first | (have z6 : w6.heap[w5.heap.size]? = some vecO := vec_new (W := w5.drew) b6; obtain ⟨d0, d1, d2, d3, df⟩ := vec_cells z6; clear z6) | skip)))
    all_goals
      first
        | (obtain ⟨W7, hW7⟩ : ∃ W7, w6.alloc (.cells #[.int .i64 z.a, .int .i64 z.b, .int .i64 z.c, .int .i64 z.d] 34) = W7 := ⟨_, rfl⟩
           obtain ⟨g7, hg7⟩ : ∃ g7, w6.heap.size = g7 := ⟨_, rfl⟩
           have hb7 : Below w5.heap.size w5 W7 := by rw [← hW7]; (repeat' (first | (with_reducible exact Below.refl _ _) | (with_reducible refine below_drewN ?_ _) | (with_reducible refine Below.drew ?_) | (with_reducible refine Below.alloc ?_ ?_ _) | (with_reducible refine Below.setCell ?_ ?_ _) | (with_reducible refine Below.trans ?_ (Below.mono (by with_reducible assumption) ?_)) | omega | (simp only [World.size_alloc, World.size_setCell, World.size_drew, Go.Proofs.YtbdnfppbiplpmaaDoor.World.size_drewN] at *; omega) | (with_reducible refine Below.size (B := 0) ?_)))
           have v7 : Vb W7 g7 z := by rw [← hW7, ← hg7]; exact Vb.new w6 z
           have hg7' : w5.heap.size ≤ g7 := by rw [← hg7]; have := b6.size; simpa using this
           rw [hW7, hg7])
        | (obtain ⟨W7, hW7⟩ : ∃ W7, ((((w6.setCell ⟨w5.heap.size, 0, none⟩ (.int .i64 z.a)).setCell ⟨w5.heap.size, 1, none⟩ (.int .i64 z.b)).setCell ⟨w5.heap.size, 2, none⟩ (.int .i64 z.c)).setCell ⟨w5.heap.size, 3, none⟩ (.int .i64 z.d)) = W7 := ⟨_, rfl⟩
           obtain ⟨g7, hg7⟩ : ∃ g7, w5.heap.size = g7 := ⟨_, rfl⟩
           have hb7 : Below w5.heap.size w5 W7 := by rw [← hW7]; (repeat' (first | (with_reducible exact Below.refl _ _) | (with_reducible refine below_drewN ?_ _) | (with_reducible refine Below.drew ?_) | (with_reducible refine Below.alloc ?_ ?_ _) | (with_reducible refine Below.setCell ?_ ?_ _) | (with_reducible refine Below.trans ?_ (Below.mono (by with_reducible assumption) ?_)) | omega | (simp only [World.size_alloc, World.size_setCell, World.size_drew, Go.Proofs.YtbdnfppbiplpmaaDoor.World.size_drewN] at *; omega) | (with_reducible refine Below.size (B := 0) ?_)))
           have v7 : Vb W7 g7 z := by
             rw [← hW7, ← hg7]
             exact Vb.set4 (x := ⟨0, 0, 0, 0⟩) (vec_new (W := w5.drew) b6) z.a z.b z.c z.d
           have hg7' : w5.heap.size ≤ g7 := by omega
           rw [hW7, hg7])
      have hb37 : Below W3.heap.size W3 W7 := HB35.out.trans (hb7.mono HB35.out.size)
      have hb07 : Below w.heap.size w W7 := HB5.out.trans (hb7.mono HB5.out.size)
      obtain ⟨z0, z1, z2, z3, zf, zl⟩ := v7.facts
      have ee := HEE.out W7 hb37
      clear hb7 hb37 v7 hg7
      go_wp2_with fail
      go_ret
      exact ⟨rfl, hb07⟩

/-- What Put makes of it. -/
def putG (G : AG) (t : Tk) (id pos : Int) (v : V4) : AG := ⟨G.sets, G.tasks ++ [⟨t, id, pos, v⟩]⟩
/-- A task comes into an envelope. -/
theorem AlP.putd (h : AlP w P q b1 b2 T1 T2 bl G) {t : Tk} {id : Int} {v : V4} {s : SetA} {k : Nat} (e : setA G id = some s) (_hkn : k < s.n) (hno : tkA G t = none) (hgd : GA (putG G t id k v)) {w6 w9 : World} (hc : ∀ j, j < w.heap.size → j ≠ bl id → w6.heap[j]? = w.heap[j]?) (hz : w.heap.size ≤ w6.heap.size)
    (hrow : OwnE encEnv 114 w6 0 (.slice (some ⟨bl id, 0, none⟩) s.n s.n) ((envs G s).set k ⟨s.up k, mv (leftA G s k) v⟩)) (hm : SeatsAt w9 b2 (enter T2 t ⟨id, k, v⟩)) (hg : w6.grownBy w9 (some b2)) :
    AlP w9 P q b1 b2 T1 (enter T2 t ⟨id, k, v⟩) bl (putG G t id k v) := by
  have hb2 := h.r2 e
  have hid := set_id h.good e
  have hl6 : ∀ j, P j → j < w6.heap.size := fun j hj => Nat.lt_of_lt_of_le (h.old j hj) hz
  refine h.upd (G' := putG G t id k v) (s' := s) e (Nat.le_trans hz hg.size) (fun j hj h2 h3 => (hg.block j (hl6 j hj) (by simpa using h2)).trans (hc j (h.old j hj) h3)) hm e rfl ?_ (fun _ _ => rfl) (fun j z hj hz => ?_) (fun u => ?_) hgd
  · have he : envs (putG G t id k v) s = (envs G s).set k ⟨s.up k, mv (leftA G s k) v⟩ := by
      refine envs_set rfl ⟨rfl, ?_⟩ fun j hj => ⟨rfl, ?_⟩
      · unfold putG; rw [left_put, if_pos ⟨hid, rfl⟩]
      · unfold putG; rw [left_put, if_neg]
        rintro ⟨_, k2⟩; omega
    rw [he]
    refine hrow.same fun i hi => ?_
    simp [Value.ownBlock] at hi; subst hi
    exact hg.block _ (hl6 _ (h.pr _ _ e)) (by simpa using hb2)
  · refine envs_ext rfl fun i _ => ⟨rfl, ?_⟩
    unfold putG; rw [left_put, if_neg]
    rintro ⟨k1, _⟩
    exact hj ((set_id h.good hz).symm.trans k1)
  · rw [look_enter]
    unfold putG
    rw [tkA_put hno]
    split
    · rfl
    · exact h.seats u
theorem maxLen_5 : maxLen = 9223372036854775807 := by unfold maxLen; decide

set_option maxRecDepth 100000 in
set_option maxHeartbeats 3200000 in
/-- Book.Put: it fits. -/
theorem aput_ok (s : Nat → Addr) (h : AlP w P q b1 b2 T1 T2 bl G) (hs : SentP s P w) {t : Tk} (ht : okT t) (v : V4) {id : Int} (hid : i64 id) {sA : SetA} {k : Nat} (e : setA G id = some sA) (hk : k < sA.n) (hg : goodV v = true) (hu : sA.up k = true) (hb : (tkA G t).isSome = false) (hf : fitsV v (leftA G sA k) = true) (hlen : G.tasks.length ≤ 100000) :
    Calls Tryd.prog 20 #[.pointer (some ⟨q, 0, none⟩), .agg #[.int .i64 t.job, .int .i64 t.ix], .int .i64 id, .int .i64 (k : Int), .agg #[.int .i64 v.a, .int .i64 v.b, .int .i64 v.c, .int .i64 v.d]] w fun e w' => e = .returned (errV s 0) ∧ AlP w' P q b1 b2 T1 (enter T2 t ⟨id, k, v⟩) bl (putG G t id k v) ∧ ChP P w w' := by
  obtain ⟨x, hx⟩ : ∃ x, seatA G t = x := ⟨_, rfl⟩
  obtain ⟨X, hX⟩ : ∃ X, w.heap.size = X := ⟨_, rfl⟩
  obtain ⟨W1, hW1⟩ : ∃ W1, (w.alloc (.cells #[.int .i64 t.job, .int .i64 t.ix] 32)).alloc (.cells #[.int .i64 v.a, .int .i64 v.b, .int .i64 v.c, .int .i64 v.d] 34) = W1 := ⟨_, rfl⟩
  have hb1 : Below w.heap.size w W1 := by rw [← hW1]; exact ((Below.refl _ _).alloc (Nat.le_refl _) _).alloc (by simp) _
  have k1 : W1.heap[X]? = some (.cells #[.int .i64 t.job, .int .i64 t.ix] 32 (0, 0)) := by rw [← hW1, ← hX]; exact (Below.heap_alloc _ _ _ (by simp)).trans (heap_alloc_new _ _)
  have v1 : Vb W1 (X + 1) v := by
    rw [← hW1, ← hX]
    have := Vb.new_at (w := w.alloc (.cells #[.int .i64 t.job, .int .i64 t.ix] 32)) (g := w.heap.size + 1) (by simp) v
    exact this
  have hXW : X + 1 < W1.heap.size := lt_of_row v1
  have h1 := h.on hb1
  have HC : Hid (∀ W, Below W1.heap.size W1 W → (W.cell? ⟨X, 0, none⟩ = some (.int .i64 t.job) ∧ W.cell? ⟨X, 1, none⟩ = some (.int .i64 t.ix) ∧ W.cell? ⟨q, 1, none⟩ = some (.map (some b2)) ∧ (Instr.lookup 105 (.map (some b2)) (.agg #[.int .i64 t.job, .int .i64 t.ix]) true).run Tryd.prog W = .ok (.tuple #[.agg #[.int .i64 x.set, .int .i64 x.pos, .int .i64 x.need.a, .int .i64 x.need.b, .int .i64 x.need.c, .int .i64 x.need.d], .bool false]) W)) := Lib.hid fun W hW => ⟨cell_of_heap ((hW.block X (by omega)).trans k1) 0, cell_of_heap ((hW.block X (by omega)).trans k1) 1, cell_of_heap (h1.on hW).box 1, (h1.on hW).lk2 ht hx hb⟩
  obtain ⟨W3, hW3⟩ : ∃ W3, (W1.alloc (.cells #[.int .i64 x.set, .int .i64 x.pos, .int .i64 x.need.a, .int .i64 x.need.b, .int .i64 x.need.c, .int .i64 x.need.d] 116)).drew = W3 := ⟨_, rfl⟩
  have hb3 : Below W1.heap.size W1 W3 := by rw [← hW3]; exact ((Below.refl _ _).alloc (Nat.le_refl _) _).drew
  have h3 := h1.on hb3
  have hs3 := (hs.on hb1).on hb3
  have v3 : Vb W3 (X + 1) v := v1.below hb3 hXW
  have hb3' : Below w.heap.size w W3 := hb1.trans (hb3.mono hb1.size)
  have HF := Lib.hid (afind_ok h1 e hk hid)
  obtain ⟨gE, hgE⟩ : ∃ gE, bl id = gE := ⟨_, rfl⟩
  rw [hgE] at HF
  have HX := Lib.hid hX; have HW1 := Lib.hid hW1; have HW3 := Lib.hid hW3; have HB3 := Lib.hid hb3'
  have HGD : Hid (∀ W, Calls Tryd.prog 55 #[.agg #[.int .i64 v.a, .int .i64 v.b, .int .i64 v.c, .int .i64 v.d]] W fun e w' => e = .returned (.bool (goodV v)) ∧ Below W.heap.size W w') := Lib.hid fun W => good_c v W
  have e0 := hs3.here.cell 0 (by omega)
  simp only [gnum, List.getD_cons_zero] at e0
  obtain ⟨c0, c1, c2, c3, c4, cf⟩ := h3.cells e hk
  rw [hgE] at c0 c1 c2 c3 c4 cf
  have HV3 := Lib.hid v3
  have HCE : Hid (∀ w5, Below W3.heap.size W3 w5 → w5.cell? ⟨gE, k * 5, none⟩ = some (.bool (sA.up k)) ∧ w5.cell? ⟨gE, k * 5 + 1, none⟩ = some (.int .i64 (leftA G sA k).a) ∧ w5.cell? ⟨gE, k * 5 + 2, none⟩ = some (.int .i64 (leftA G sA k).b) ∧ w5.cell? ⟨gE, k * 5 + 3, none⟩ = some (.int .i64 (leftA G sA k).c) ∧ w5.cell? ⟨gE, k * 5 + 4, none⟩ = some (.int .i64 (leftA G sA k).d) ∧ ∀ j, w5.frozen? ⟨gE, j, none⟩ = false) := Lib.hid fun w5 hb => by
    have := (h3.on hb).cells e hk
    rw [hgE] at this; exact this
  obtain ⟨l, hl⟩ : ∃ l, leftA G sA (k : Int) = l := ⟨_, rfl⟩
  have hlg : goodV l = true := by rw [← hl]; exact h.good.left sA (set_mem h.good e) _
  obtain ⟨z, hz⟩ : ∃ z, (subR l v).1 = z := ⟨_, rfl⟩
  obtain ⟨ez, hez⟩ : ∃ ez, errV s (subR l v).2 = ez := ⟨_, rfl⟩
  have HSB : Hid (∀ W, Below W3.heap.size W3 W → Calls Tryd.prog 60 #[.agg #[.int .i64 l.a, .int .i64 l.b, .int .i64 l.c, .int .i64 l.d], .agg #[.int .i64 v.a, .int .i64 v.b, .int .i64 v.c, .int .i64 v.d]] W fun e w' => e = .returned (.tuple #[.agg #[.int .i64 z.a, .int .i64 z.b, .int .i64 z.c, .int .i64 z.d], ez]) ∧ Below W.heap.size W w') := Lib.hid fun W hb => by
    have := sub_c s l v W (hs3.on hb).here
    rw [hz, hez] at this
    exact this
  rw [hl] at HCE
  rw [hl] at hf
  have hsub := sub_fit hlg hg hf
  have hz0 : mv l v = z := by rw [← hz, hsub]
  have hzz : ez = .nilIface := by rw [← hez, hsub]; rfl
  subst hzz
  rw [hu] at HCE
  have hgp := h3.pr _ _ e
  rw [hgE] at hgp
  have hXg : X ≠ gE := by have := h.old gE hgp; omega
  have hYg : X + 1 ≠ gE := by have := h.old gE hgp; omega
  have hqg : q ≠ gE := by rw [← hgE]; exact (h3.qr e).symm
  have hb2g : b2 ≠ gE := by rw [← hgE]; exact (h3.r2 e).symm
  have hgd : GA (putG G t id k v) := by
    have := h.good.put t id k v
    unfold putA at this
    rw [e] at this
    simp only at this
    rw [if_neg (by rw [hg]; simp; omega), if_neg (by rw [hu]; simp), if_neg (by rw [hb]; simp), if_neg (by rw [hl, hf]; simp)] at this
    exact this
  have hno : tkA G t = none := by cases e9 : tkA G t with | none => rfl | some y => rw [e9] at hb; cases hb
  have hml : T2.length < maxLen := by rw [h.len2, maxLen_5]; omega
  have HDL : Hid (∀ W7 : World, Below W3.heap.size W3 W7 → ((((W7.setCell ⟨gE, k * 5 + 1, none⟩ (.int .i64 z.a)).setCell ⟨gE, k * 5 + 2, none⟩ (.int .i64 z.b)).setCell ⟨gE, k * 5 + 3, none⟩ (.int .i64 z.c)).setCell ⟨gE, k * 5 + 4, none⟩ (.int .i64 z.d)).cell? ⟨X, 0, none⟩ = some (.int .i64 t.job) ∧ ((((W7.setCell ⟨gE, k * 5 + 1, none⟩ (.int .i64 z.a)).setCell ⟨gE, k * 5 + 2, none⟩ (.int .i64 z.b)).setCell ⟨gE, k * 5 + 3, none⟩ (.int .i64 z.c)).setCell ⟨gE, k * 5 + 4, none⟩ (.int .i64 z.d)).cell? ⟨X, 1, none⟩ = some (.int .i64 t.ix) ∧ ((((W7.setCell ⟨gE, k * 5 + 1, none⟩ (.int .i64 z.a)).setCell ⟨gE, k * 5 + 2, none⟩ (.int .i64 z.b)).setCell ⟨gE, k * 5 + 3, none⟩ (.int .i64 z.c)).setCell ⟨gE, k * 5 + 4, none⟩ (.int .i64 z.d)).cell? ⟨q, 1, none⟩ = some (.map (some b2)) ∧ SeatsAt ((((W7.setCell ⟨gE, k * 5 + 1, none⟩ (.int .i64 z.a)).setCell ⟨gE, k * 5 + 2, none⟩ (.int .i64 z.b)).setCell ⟨gE, k * 5 + 3, none⟩ (.int .i64 z.c)).setCell ⟨gE, k * 5 + 4, none⟩ (.int .i64 z.d)) b2 T2 ∧ Vb ((((W7.setCell ⟨gE, k * 5 + 1, none⟩ (.int .i64 z.a)).setCell ⟨gE, k * 5 + 2, none⟩ (.int .i64 z.b)).setCell ⟨gE, k * 5 + 3, none⟩ (.int .i64 z.c)).setCell ⟨gE, k * 5 + 4, none⟩ (.int .i64 z.d)) (X + 1) v) := Lib.hid fun W7 hb => by
    have hz7 : ∀ j, j ≠ gE → ((((W7.setCell ⟨gE, k * 5 + 1, none⟩ (.int .i64 z.a)).setCell ⟨gE, k * 5 + 2, none⟩ (.int .i64 z.b)).setCell ⟨gE, k * 5 + 3, none⟩ (.int .i64 z.c)).setCell ⟨gE, k * 5 + 4, none⟩ (.int .i64 z.d)).heap[j]? = W7.heap[j]? := fun j hj => by rw [heap_setCell_other _ _ _ _ hj, heap_setCell_other _ _ _ _ hj, heap_setCell_other _ _ _ _ hj, heap_setCell_other _ _ _ _ hj]
    have eX : ((((W7.setCell ⟨gE, k * 5 + 1, none⟩ (.int .i64 z.a)).setCell ⟨gE, k * 5 + 2, none⟩ (.int .i64 z.b)).setCell ⟨gE, k * 5 + 3, none⟩ (.int .i64 z.c)).setCell ⟨gE, k * 5 + 4, none⟩ (.int .i64 z.d)).heap[X]? = some (.cells #[.int .i64 t.job, .int .i64 t.ix] 32 (0, 0)) := by
      rw [hz7 X hXg, hb.block X (by have := hb3.size; omega), hb3.block X (by omega)]; exact k1
    have eq : ((((W7.setCell ⟨gE, k * 5 + 1, none⟩ (.int .i64 z.a)).setCell ⟨gE, k * 5 + 2, none⟩ (.int .i64 z.b)).setCell ⟨gE, k * 5 + 3, none⟩ (.int .i64 z.c)).setCell ⟨gE, k * 5 + 4, none⟩ (.int .i64 z.d)).heap[q]? = some (.cells #[.map (some b1), .map (some b2)] 107 (0, 0)) := by
      rw [hz7 q hqg]; exact (h3.on hb).box
    refine ⟨cell_of_heap eX 0, cell_of_heap eX 1, cell_of_heap eq 1, (h3.on hb).m2.same (hz7 b2 hb2g), ?_⟩
    unfold Vb
    rw [hz7 (X + 1) hYg]
    exact v3.below hb (lt_of_row v3)
  have HFIN : Hid (∀ W7 w9 : World, Below W3.heap.size W3 W7 → SeatsAt w9 b2 (enter T2 t ⟨id, k, v⟩) → ((((W7.setCell ⟨gE, k * 5 + 1, none⟩ (.int .i64 z.a)).setCell ⟨gE, k * 5 + 2, none⟩ (.int .i64 z.b)).setCell ⟨gE, k * 5 + 3, none⟩ (.int .i64 z.c)).setCell ⟨gE, k * 5 + 4, none⟩ (.int .i64 z.d)).grownBy w9 (some b2) → AlP w9 P q b1 b2 T1 (enter T2 t ⟨id, k, v⟩) bl (putG G t id k v) ∧ ChP P w w9) := Lib.hid fun W7 w9 hb hm9 hg9 => by
    have h7 := h3.on hb
    have hz7 : ∀ j, j ≠ gE → ((((W7.setCell ⟨gE, k * 5 + 1, none⟩ (.int .i64 z.a)).setCell ⟨gE, k * 5 + 2, none⟩ (.int .i64 z.b)).setCell ⟨gE, k * 5 + 3, none⟩ (.int .i64 z.c)).setCell ⟨gE, k * 5 + 4, none⟩ (.int .i64 z.d)).heap[j]? = W7.heap[j]? := fun j hj => by rw [heap_setCell_other _ _ _ _ hj, heap_setCell_other _ _ _ _ hj, heap_setCell_other _ _ _ _ hj, heap_setCell_other _ _ _ _ hj]
    have hsz : ((((W7.setCell ⟨gE, k * 5 + 1, none⟩ (.int .i64 z.a)).setCell ⟨gE, k * 5 + 2, none⟩ (.int .i64 z.b)).setCell ⟨gE, k * 5 + 3, none⟩ (.int .i64 z.c)).setCell ⟨gE, k * 5 + 4, none⟩ (.int .i64 z.d)).heap.size = W7.heap.size := by simp [World.setCell]
    have hrow7 := h7.rowL e
    rw [hgE] at hrow7
    have hr := own_left hrow7 (envs_at G sA hk) z
    rw [envs_len] at hr
    refine ⟨?_, ?_⟩
    · refine h7.putd e hk hno hgd (w6 := ((((W7.setCell ⟨gE, k * 5 + 1, none⟩ (.int .i64 z.a)).setCell ⟨gE, k * 5 + 2, none⟩ (.int .i64 z.b)).setCell ⟨gE, k * 5 + 3, none⟩ (.int .i64 z.c)).setCell ⟨gE, k * 5 + 4, none⟩ (.int .i64 z.d))) (fun j hj hne => ?_) (by rw [hsz]; exact Nat.le_refl _) ?_ hm9 hg9
      · rw [hgE] at hne; exact hz7 j hne
      · rw [hgE, hl, hz0]; exact hr
    · have c5 : ChP P w W7 := ChP.of_below (hb3'.trans (hb.mono hb3'.size))
      exact ((((c5.setCell (ad := ⟨gE, k * 5 + 1, none⟩) (.inl hgp) _).setCell (ad := ⟨gE, k * 5 + 2, none⟩) (.inl hgp) _).setCell (ad := ⟨gE, k * 5 + 3, none⟩) (.inl hgp) _).setCell (ad := ⟨gE, k * 5 + 4, none⟩) (.inl hgp) _).grown hg9 (fun i hi => .inl (by cases hi; exact h.p2))
  have HT := Lib.hid ht
  have HML := Lib.hid hml
  rw [hg] at HGD
  rw [errA0]
  clear h hs hX hW1 k1 v1 hb1 hXW h1 hb3 h3 hs3 v3 hb3' hgE hx hW3 e hk hb hg hu c0 c1 c2 c3 c4 cf e0 hf hez hz hl hlg hsub hz0 hgp hXg hYg hqg hb2g hgd hno hml hlen ht hid
  go_enter Tryd.func20, Tryd.ntmps20
  go_wp2_with fail
  rw [HW1.out, HX.out]
  refine HF.out.mono ?_
  rintro e w2 ⟨rfl, rfl⟩
  go_wp2_with fail
  go_region_held3 (fun W => W.cell? ⟨X, 0, none⟩ = some (.int .i64 t.job) ∧ W.cell? ⟨X, 1, none⟩ = some (.int .i64 t.ix) ∧ W.cell? ⟨q, 1, none⟩ = some (.map (some b2)) ∧ (Instr.lookup 105 (.map (some b2)) (.agg #[.int .i64 t.job, .int .i64 t.ix]) true).run Tryd.prog W = .ok (.tuple #[.agg #[.int .i64 x.set, .int .i64 x.pos, .int .i64 x.need.a, .int .i64 x.need.b, .int .i64 x.need.c, .int .i64 x.need.d], .bool false]) W)
    (first | exact HC.out _ (by (repeat' (first | (with_reducible exact Below.refl _ _) | (with_reducible refine below_drewN ?_ _) | (with_reducible refine Below.drew ?_) | (with_reducible refine Below.alloc ?_ ?_ _) | (with_reducible refine Below.setCell ?_ ?_ _) | (with_reducible refine Below.trans ?_ (Below.mono (by with_reducible assumption) ?_)) | omega | (simp only [World.size_alloc, World.size_setCell, World.size_drew, Go.Proofs.YtbdnfppbiplpmaaDoor.World.size_drewN] at *; omega) | (with_reducible refine Below.size (B := 0) ?_)))))
    (fail)
  all_goals
    rw [HW3.out]
    obtain ⟨p0, p1, p2, p3, pf, pl⟩ := HV3.out.facts
    go_wp2_with fail
    refine (HGD.out _).mono ?_
    rintro e w5 ⟨rfl, b5⟩
    have hb5 : Below w.heap.size w w5 := HB3.out.trans (b5.mono HB3.out.size)
    have HB5 := Lib.hid hb5
    have HB35 := Lib.hid b5
    obtain ⟨c0, c1, c2, c3, c4, cf⟩ := HCE.out w5 b5
    have HS5 : Hid (∀ W, Below w5.heap.size w5 W → (W.cell? ⟨gE, k * 5 + 1, none⟩ = some (.int .i64 l.a) ∧ W.cell? ⟨gE, k * 5 + 2, none⟩ = some (.int .i64 l.b) ∧ W.cell? ⟨gE, k * 5 + 3, none⟩ = some (.int .i64 l.c) ∧ W.cell? ⟨gE, k * 5 + 4, none⟩ = some (.int .i64 l.d) ∧ W.cell? ⟨X + 1, 0, none⟩ = some (.int .i64 v.a) ∧ W.cell? ⟨X + 1, 1, none⟩ = some (.int .i64 v.b) ∧ W.cell? ⟨X + 1, 2, none⟩ = some (.int .i64 v.c) ∧ W.cell? ⟨X + 1, 3, none⟩ = some (.int .i64 v.d))) := Lib.hid fun W hb => by
      have hb3W : Below W3.heap.size W3 W := HB35.out.trans (hb.mono HB35.out.size)
      obtain ⟨_, c1, c2, c3, c4, _⟩ := HCE.out W hb3W
      obtain ⟨p0, p1, p2, p3, _, _⟩ := (HV3.out.below hb3W (lt_of_row HV3.out)).facts
      exact ⟨c1, c2, c3, c4, p0, p1, p2, p3⟩
    have HSV : Hid (∀ W, Below w5.heap.size w5 W → Calls Tryd.prog 60 #[.agg #[.int .i64 l.a, .int .i64 l.b, .int .i64 l.c, .int .i64 l.d], .agg #[.int .i64 v.a, .int .i64 v.b, .int .i64 v.c, .int .i64 v.d]] W fun e w' => e = .returned (.tuple #[.agg #[.int .i64 z.a, .int .i64 z.b, .int .i64 z.c, .int .i64 z.d], .nilIface]) ∧ Below W.heap.size W w') := Lib.hid fun W hb => HSB.out W (HB35.out.trans (hb.mono HB35.out.size))
    clear hb5 b5 c1 c2 c3 c4 p0 p1 p2 p3 pf pl
    go_wp2_with fail
    go_region_held3 (fun W => W.cell? ⟨gE, k * 5 + 1, none⟩ = some (.int .i64 l.a) ∧ W.cell? ⟨gE, k * 5 + 2, none⟩ = some (.int .i64 l.b) ∧ W.cell? ⟨gE, k * 5 + 3, none⟩ = some (.int .i64 l.c) ∧ W.cell? ⟨gE, k * 5 + 4, none⟩ = some (.int .i64 l.d) ∧ W.cell? ⟨X + 1, 0, none⟩ = some (.int .i64 v.a) ∧ W.cell? ⟨X + 1, 1, none⟩ = some (.int .i64 v.b) ∧ W.cell? ⟨X + 1, 2, none⟩ = some (.int .i64 v.c) ∧ W.cell? ⟨X + 1, 3, none⟩ = some (.int .i64 v.d))
      (first | exact HS5.out _ (by (repeat' (first | (with_reducible exact Below.refl _ _) | (with_reducible refine below_drewN ?_ _) | (with_reducible refine Below.drew ?_) | (with_reducible refine Below.alloc ?_ ?_ _) | (with_reducible refine Below.setCell ?_ ?_ _) | (with_reducible refine Below.trans ?_ (Below.mono (by with_reducible assumption) ?_)) | omega | (simp only [World.size_alloc, World.size_setCell, World.size_drew, Go.Proofs.YtbdnfppbiplpmaaDoor.World.size_drewN] at *; omega) | (with_reducible refine Below.size (B := 0) ?_)))))
      (first
        | (go_at_call 60; (with_reducible refine (HSV.out _ (by (repeat' (first | (with_reducible exact Below.refl _ _) | (with_reducible refine below_drewN ?_ _) | (with_reducible refine Below.drew ?_) | (with_reducible refine Below.alloc ?_ ?_ _) | (with_reducible refine Below.setCell ?_ ?_ _) | (with_reducible refine Below.trans ?_ (Below.mono (by with_reducible assumption) ?_)) | omega | (simp only [World.size_alloc, World.size_setCell, World.size_drew, Go.Proofs.YtbdnfppbiplpmaaDoor.World.size_drewN] at *; omega) | (with_reducible refine Below.size (B := 0) ?_))))).mono ?_); rintro e w6 ⟨rfl, b6⟩; (first | (have z6 : w6.heap[w5.heap.size]? = some vecO := vec_new (W := w5.drew) b6; obtain ⟨d0, d1, d2, d3, df⟩ := vec_cells z6; clear z6) | skip)))
    all_goals
      first
        | (obtain ⟨W7, hW7⟩ : ∃ W7, w6.alloc (.cells #[.int .i64 z.a, .int .i64 z.b, .int .i64 z.c, .int .i64 z.d] 34) = W7 := ⟨_, rfl⟩
           obtain ⟨g7, hg7⟩ : ∃ g7, w6.heap.size = g7 := ⟨_, rfl⟩
           have hb7 : Below w5.heap.size w5 W7 := by rw [← hW7]; (repeat' (first | (with_reducible exact Below.refl _ _) | (with_reducible refine below_drewN ?_ _) | (with_reducible refine Below.drew ?_) | (with_reducible refine Below.alloc ?_ ?_ _) | (with_reducible refine Below.setCell ?_ ?_ _) | (with_reducible refine Below.trans ?_ (Below.mono (by with_reducible assumption) ?_)) | omega | (simp only [World.size_alloc, World.size_setCell, World.size_drew, Go.Proofs.YtbdnfppbiplpmaaDoor.World.size_drewN] at *; omega) | (with_reducible refine Below.size (B := 0) ?_)))
           have v7 : Vb W7 g7 z := by rw [← hW7, ← hg7]; exact Vb.new w6 z
           have hg7' : w5.heap.size ≤ g7 := by rw [← hg7]; have := b6.size; simpa using this
           rw [hW7, hg7])
        | (obtain ⟨W7, hW7⟩ : ∃ W7, ((((w6.setCell ⟨w5.heap.size, 0, none⟩ (.int .i64 z.a)).setCell ⟨w5.heap.size, 1, none⟩ (.int .i64 z.b)).setCell ⟨w5.heap.size, 2, none⟩ (.int .i64 z.c)).setCell ⟨w5.heap.size, 3, none⟩ (.int .i64 z.d)) = W7 := ⟨_, rfl⟩
           obtain ⟨g7, hg7⟩ : ∃ g7, w5.heap.size = g7 := ⟨_, rfl⟩
           have hb7 : Below w5.heap.size w5 W7 := by rw [← hW7]; (repeat' (first | (with_reducible exact Below.refl _ _) | (with_reducible refine below_drewN ?_ _) | (with_reducible refine Below.drew ?_) | (with_reducible refine Below.alloc ?_ ?_ _) | (with_reducible refine Below.setCell ?_ ?_ _) | (with_reducible refine Below.trans ?_ (Below.mono (by with_reducible assumption) ?_)) | omega | (simp only [World.size_alloc, World.size_setCell, World.size_drew, Go.Proofs.YtbdnfppbiplpmaaDoor.World.size_drewN] at *; omega) | (with_reducible refine Below.size (B := 0) ?_)))
           have v7 : Vb W7 g7 z := by
             rw [← hW7, ← hg7]
             exact Vb.set4 (x := ⟨0, 0, 0, 0⟩) (vec_new (W := w5.drew) b6) z.a z.b z.c z.d
           have hg7' : w5.heap.size ≤ g7 := by omega
           rw [hW7, hg7])
      have hb37 : Below W3.heap.size W3 W7 := HB35.out.trans (hb7.mono HB35.out.size)
      have hb07 : Below w.heap.size w W7 := HB5.out.trans (hb7.mono HB5.out.size)
      obtain ⟨z0, z1, z2, z3, zf, zl⟩ := v7.facts
      obtain ⟨_, c1, c2, c3, c4, cf⟩ := HCE.out W7 hb37
      have HDF := Lib.hid (HDL.out W7 hb37)
      have HFN := Lib.hid (fun w9 => HFIN.out W7 w9 hb37)
      clear hb7 hb37 hb07 v7 hg7 HFIN HDL HCE HSV HS5 HC hg7'
      go_wp2_with fail
      obtain ⟨d0, d1, d2, d3, d4⟩ := HDF.out
      obtain ⟨W8, hW8⟩ : ∃ W8, ((((W7.setCell ⟨gE, k * 5 + 1, none⟩ (.int .i64 z.a)).setCell ⟨gE, k * 5 + 2, none⟩ (.int .i64 z.b)).setCell ⟨gE, k * 5 + 3, none⟩ (.int .i64 z.c)).setCell ⟨gE, k * 5 + 4, none⟩ (.int .i64 z.d)) = W8 := ⟨_, rfl⟩
      rw [hW8] at HFN d0 d1 d2 d3 d4 ⊢
      have HM8 : Hid (SeatsAt W8.drew b2 T2) := Lib.hid (d3.same rfl)
      obtain ⟨q0, q1, q2, q3, qf, ql⟩ := d4.facts
      clear hW8 d3 d4 HDF
      go_still_tail 9, (by kernel_rfl)
      change wpList _ _ _ _ _ W8.drew
      go_wp2_with (at_mapUpdate; refine wpList_putG _ kitT rfl _ _ _ 105 rfl 116 Tryd.underlying105 encSeat b2 T2 rfl HM8.out HML.out t rfl HT.out ⟨id, k, v⟩ rfl ?_; intro w9 hm9 hg9)
      go_ret
      exact ⟨rfl, HFN.out w9 hm9 ⟨hg9.os, hg9.tape, hg9.output, hg9.size, hg9.block⟩⟩
end
end Go.Proofs.YtbdnfppbiplpmaaDoor

/- The program's book of envelopes by contracts: Open. Conditions: the book lies in memory as its maps have it; the sentinels lie where the program's text lays them. -/
namespace Go.Proofs.YtbdnfppbiplpmaaDoor
open Go Go.RowKit Go.Maps

/-- An entry of a map: one operation of a region that draws its order. -/
theorem opwp_putG {P : Program} {k : TypeId} {κ α : Type} [DecidableEq κ] {kv : κ → Value} {kl : κ → Lit} {ok : κ → Prop} (K : KeyKit P k kv kl ok) {o : Oper} {a : Act} {w : World} {Q : Exit → Act → World → Prop} {Kc : Act → World → Prop} {ys : Tmp → Option Bool}
    (hg : o.guard = none) (m x v : Operand) (t : TypeId) (hop : o.op = Op.mapUpdate t m x v) (e : TypeId) (ht : P.underlying t = some (.map k e))
    (enc : α → Value) (b : Nat) (T : List (κ × α)) (hm : a.eval m = .map (some b)) (h : MapG P k kl ok enc w b T) (hn : T.length < maxLen) (y : κ) (hx : a.eval x = kv y) (hy : ok y) (u : α) (hv : a.eval v = enc u)
    (hK : ∀ w', MapG P k kl ok enc w' b (enter T y u) → w.grownBy w' (some b) → Kc (a.put o.dst undef) w') : if Region.wanted o ys = true then Oper.wp P o a w Kc Q else Kc (a.put o.dst undef) w := by
  obtain ⟨D, hown, hme⟩ := h
  rw [if_pos (by simp [Region.wanted, hg])]
  obtain ⟨w', hrun, r1, r2⟩ := hown.update K.keyed ht hn (val := enc u) (d := .held (enc u)) (ps := []) (K.of hy) rfl
  unfold Oper.wp
  simp [execOp, hop, hm, hx, hv, hrun, Result.andThen]
  have hme' := hme.put K (hown.tidy K.keyed) hy u
  exact hK w' ⟨_, own_fitG r1 (Nat.le_of_eq hme'.size), hme'⟩ r2
section
variable {w : World} {P : Nat → Prop} {q b1 b2 : Nat} {T1 : List (Int × Option (Nat × Nat))} {T2 : List (Tk × SeatR)} {bl : Int → Nat} {G : AG}
/-- What Open makes of it. -/
def openG (G : AG) (id : Int) (n : Nat) (v : V4) : AG := ⟨G.sets ++ [⟨id, n, v, fun _ => false⟩], G.tasks⟩
theorem setA_open {G : AG} {id : Int} (h : setA G id = none) (n : Nat) (v : V4) (j : Int) : setA (openG G id n v) j = if j = id then some ⟨id, n, v, fun _ => false⟩ else setA G j := by
  unfold setA openG
  simp only [List.find?_append]
  by_cases e : j = id
  · subst e
    rw [if_pos rfl, show G.sets.find? (fun s => decide (s.id = j)) = none from h]
    simp
  · rw [if_neg e]
    have : ¬ id = j := fun k => e k.symm
    simp [this]
/-- A set comes. -/
theorem AlP.opened (h : AlP w P q b1 b2 T1 T2 bl G) {id : Int} {n : Nat} {v : V4} (hno : setA G id = none) (hgd : GA (openG G id n v)) {w6 w9 : World} {g : Nat} (hb : Below w.heap.size w w6) (hgw : w.heap.size ≤ g)
    (ho : OwnE encEnv 114 w6 0 (.slice (some ⟨g, 0, none⟩) n n) (List.replicate n ⟨false, v⟩)) (hm : SetsAt w9 b1 (enter T1 id (some (g, n)))) (hg : w6.grownBy w9 (some b1)) :
    AlP w9 (fun k => P k ∨ k = g) q b1 b2 (enter T1 id (some (g, n))) T2 (fun j => if j = id then g else bl j) (openG G id n v) ∧ ChP P w w9 := by
  have h6 := h.on hb
  have keep : ∀ k, P k → k ≠ b1 → w9.heap[k]? = w6.heap[k]? := fun k hk hne => hg.block k (h6.old k hk) (by simpa using hne)
  have hold : ∀ k, P k → k ≠ g := fun k hk => by have := h.old k hk; omega
  have hg6 : g < w6.heap.size := by obtain ⟨cur, hh, _⟩ := ownE_raw ho; exact lt_of_row hh
  have hg1 : g ≠ b1 := (hold b1 h.p1).symm
  have hid : ∀ j t, setA (openG G id n v) j = some t → j ≠ id → setA G j = some t := fun j t ht hj => by rw [setA_open hno, if_neg hj] at ht; exact ht
  have hle : ∀ (z : SetA) j, leftA (openG G id n v) z j = leftA G z j := fun _ _ => rfl
  refine ⟨⟨(keep q h.pq h.q1).trans h6.box, hm, h6.m2.same (keep b2 h.p2 h.ne.symm), h.ne, fun j => ?_, fun j t ht => ?_, fun i j a b ha hb' hab => ?_, h.seats, hgd, .inl h.pq, .inl h.p1, .inl h.p2, fun j t ht => ?_, fun k hk => ?_⟩, (ChP.of_below hb).grown hg (fun k e => .inl (by cases e; exact h.p1))⟩
  · rw [look_enter, setA_open hno]
    by_cases hj : j = id
    · simp [hj]
    · simp only [if_neg hj]; exact h.sets j
  · by_cases hj : j = id
    · subst hj
      rw [setA_open hno, if_pos rfl] at ht
      obtain rfl := Option.some.inj ht
      simp only [if_true]
      have he : envs (openG G j n v) ⟨j, n, v, fun _ => false⟩ = List.replicate n ⟨false, v⟩ := by
        unfold envs
        apply List.ext_getElem?
        intro i
        simp only [List.getElem?_map, List.getElem?_replicate]
        by_cases hi : i < n
        · rw [List.getElem?_range hi, if_pos hi, Option.map_some]
          rw [hle, left_none]
          intro x hx
          obtain ⟨_, s, hs, _⟩ := h.good.task x hx
          unfold inE
          have : ¬ x.set = j := fun e => by rw [e, hno] at hs; cases hs
          simp [this]
        · rw [if_neg hi, List.getElem?_eq_none (by simpa using hi)]; rfl
      rw [he]
      refine ho.same fun k hk => ?_
      simp [Value.ownBlock] at hk; subst hk
      exact hg.block _ hg6 (by simpa using hg1)
    · have ht' := hid j t ht hj
      simp only [if_neg hj]
      have he : envs (openG G id n v) t = envs G t := envs_ext rfl fun k _ => ⟨rfl, hle t k⟩
      rw [he]
      refine (h6.rows j t ht').same fun k hk => ?_
      simp [Value.ownBlock] at hk; subst hk
      exact keep _ (h.pr j t ht') (h.r1 ht')
  · by_cases hi : i = id
    · by_cases hj : j = id
      · rw [hi, hj]
      · simp only [if_pos hi, if_neg hj] at hab
        exact absurd hab.symm (hold _ (h.pr j b (hid j b hb' hj)))
    · by_cases hj : j = id
      · simp only [if_neg hi, if_pos hj] at hab
        exact absurd hab (hold _ (h.pr i a (hid i a ha hi)))
      · simp only [if_neg hi, if_neg hj] at hab
        exact h.inj i j a b (hid i a ha hi) (hid j b hb' hj) hab
  · by_cases hj : j = id
    · simp only [if_pos hj]; exact .inr trivial
    · simp only [if_neg hj]; exact .inl (h.pr j t (hid j t ht hj))
  · rcases hk with hk | rfl
    · exact Nat.lt_of_lt_of_le (h6.old k hk) hg.size
    · exact Nat.lt_of_lt_of_le hg6 hg.size
set_option maxRecDepth 100000 in
set_option maxHeartbeats 3200000 in
/-- Book.Open: a number is out of range. -/
theorem aopen_arg (s : Nat → Addr) (h : AlP w P q b1 b2 T1 T2 bl G) (hs : SentP s P w) (v : V4) {id N : Int} (hr : id < 1 ∨ 999 < id ∨ N < 1 ∨ 8 < N) :
    Calls Tryd.prog 9 #[.pointer (some ⟨q, 0, none⟩), .int .i64 id, .int .i64 N, .agg #[.int .i64 v.a, .int .i64 v.b, .int .i64 v.c, .int .i64 v.d]] w fun e w' => e = .returned (errV s 1) ∧ Below w.heap.size w w' := by
  obtain ⟨X, hX⟩ : ∃ X, w.heap.size = X := ⟨_, rfl⟩
  obtain ⟨W1, hW1⟩ : ∃ W1, w.alloc (.cells #[.int .i64 v.a, .int .i64 v.b, .int .i64 v.c, .int .i64 v.d] 34) = W1 := ⟨_, rfl⟩
  have hb1 : Below w.heap.size w W1 := by rw [← hW1]; exact (Below.refl _ _).alloc (Nat.le_refl _) _
  have v1 : Vb W1 X v := by rw [← hW1, ← hX]; exact Vb.new w v
  have h1 := h.on hb1
  have hs1 := hs.on hb1
  have HX := Lib.hid hX; have HW1 := Lib.hid hW1; have HB1 := Lib.hid hb1
  have c0 : W1.cell? ⟨q, 0, none⟩ = some (.map (some b1)) := cell_of_heap h1.box 0
  obtain ⟨p0, p1, p2, p3, pf, pl⟩ := v1.facts
  have e0 := hs1.here.cell 0 (by omega)
  simp only [gnum, List.getD_cons_zero] at e0
  rw [errA s 1 (by omega)]
  clear h hs hX hW1 hb1 v1 h1 hs1
  by_cases r1 : id < 1
  · clear hr
    go_enter Tryd.func9, Tryd.ntmps9
    go_upto_region 1 with fail
    rw [HW1.out, HX.out]
    go_wp2_with fail
    go_ret
    exact ⟨rfl, HB1.out⟩
  · by_cases r2 : 999 < id
    · clear hr
      go_enter Tryd.func9, Tryd.ntmps9
      go_upto_region 1 with fail
      rw [HW1.out, HX.out]
      go_wp2_with fail
      go_ret
      exact ⟨rfl, HB1.out⟩
    · by_cases r3 : N < 1
      · clear hr
        go_enter Tryd.func9, Tryd.ntmps9
        go_upto_region 1 with fail
        rw [HW1.out, HX.out]
        go_wp2_with fail
        go_ret
        exact ⟨rfl, HB1.out⟩
      · have r4 : 8 < N := by omega
        clear hr
        go_enter Tryd.func9, Tryd.ntmps9
        go_upto_region 1 with fail
        rw [HW1.out, HX.out]
        go_wp2_with fail
        go_ret
        exact ⟨rfl, HB1.out⟩
set_option maxRecDepth 100000 in
set_option maxHeartbeats 3200000 in
/-- Book.Open: the capacity is not valid. -/
theorem aopen_bad (s : Nat → Addr) (h : AlP w P q b1 b2 T1 T2 bl G) (hs : SentP s P w) (v : V4) {id N : Int} (hr : 1 ≤ id ∧ id ≤ 999 ∧ 1 ≤ N ∧ N ≤ 8) (hg : goodV v = false) :
    Calls Tryd.prog 9 #[.pointer (some ⟨q, 0, none⟩), .int .i64 id, .int .i64 N, .agg #[.int .i64 v.a, .int .i64 v.b, .int .i64 v.c, .int .i64 v.d]] w fun e w' => e = .returned (errV s 1) ∧ Below w.heap.size w w' := by
  obtain ⟨X, hX⟩ : ∃ X, w.heap.size = X := ⟨_, rfl⟩
  obtain ⟨W1, hW1⟩ : ∃ W1, w.alloc (.cells #[.int .i64 v.a, .int .i64 v.b, .int .i64 v.c, .int .i64 v.d] 34) = W1 := ⟨_, rfl⟩
  have hb1 : Below w.heap.size w W1 := by rw [← hW1]; exact (Below.refl _ _).alloc (Nat.le_refl _) _
  have v1 : Vb W1 X v := by rw [← hW1, ← hX]; exact Vb.new w v
  have h1 := h.on hb1
  have hs1 := hs.on hb1
  have HX := Lib.hid hX; have HW1 := Lib.hid hW1; have HB1 := Lib.hid hb1
  have c0 : W1.cell? ⟨q, 0, none⟩ = some (.map (some b1)) := cell_of_heap h1.box 0
  obtain ⟨p0, p1, p2, p3, pf, pl⟩ := v1.facts
  have HGD := Lib.hid (good_c v W1)
  obtain ⟨r1, r2, r3, r4⟩ := hr
  have HE : Hid (∀ W, Below W1.heap.size W1 W → W.cell? ⟨0, 0, none⟩ = some (.iface 225 (.pointer (some (s 0))))) := Lib.hid fun W hb => by
    have := (hs1.on hb).here.cell 0 (by omega)
    simpa only [gnum, List.getD_cons_zero, List.getD_cons_succ] using this
  rw [hg] at HGD
  rw [errA s 1 (by omega)]
  clear h hs hX hW1 hb1 v1 h1 hs1 hg
  go_enter Tryd.func9, Tryd.ntmps9
  go_upto_region 1 with fail
  rw [HW1.out, HX.out]
  go_wp2_with fail
  refine HGD.out.mono ?_
  rintro e w3 ⟨rfl, b3⟩
  have e0 := HE.out w3 b3
  have HB3 : Hid (Below w.heap.size w w3) := Lib.hid (HB1.out.trans (b3.mono HB1.out.size))
  clear b3
  go_wp2_with fail
  go_ret
  exact ⟨rfl, HB3.out⟩
set_option maxRecDepth 100000 in
set_option maxHeartbeats 3200000 in
/-- Book.Open: there is such a set. -/
theorem aopen_dup (s : Nat → Addr) (h : AlP w P q b1 b2 T1 T2 bl G) (hs : SentP s P w) (v : V4) {id N : Int} (hr : 1 ≤ id ∧ id ≤ 999 ∧ 1 ≤ N ∧ N ≤ 8) (hg : goodV v = true) {sA : SetA} (e : setA G id = some sA) :
    Calls Tryd.prog 9 #[.pointer (some ⟨q, 0, none⟩), .int .i64 id, .int .i64 N, .agg #[.int .i64 v.a, .int .i64 v.b, .int .i64 v.c, .int .i64 v.d]] w fun e w' => e = .returned (errV s 6) ∧ Below w.heap.size w w' := by
  obtain ⟨X, hX⟩ : ∃ X, w.heap.size = X := ⟨_, rfl⟩
  obtain ⟨W1, hW1⟩ : ∃ W1, w.alloc (.cells #[.int .i64 v.a, .int .i64 v.b, .int .i64 v.c, .int .i64 v.d] 34) = W1 := ⟨_, rfl⟩
  have hb1 : Below w.heap.size w W1 := by rw [← hW1]; exact (Below.refl _ _).alloc (Nat.le_refl _) _
  have v1 : Vb W1 X v := by rw [← hW1, ← hX]; exact Vb.new w v
  have h1 := h.on hb1
  have hs1 := hs.on hb1
  have HX := Lib.hid hX; have HW1 := Lib.hid hW1; have HB1 := Lib.hid hb1
  have c0 : W1.cell? ⟨q, 0, none⟩ = some (.map (some b1)) := cell_of_heap h1.box 0
  obtain ⟨p0, p1, p2, p3, pf, pl⟩ := v1.facts
  have HGD := Lib.hid (good_c v W1)
  obtain ⟨r1, r2, r3, r4⟩ := hr
  have hid : i64 id := by unfold i64; omega
  have HON : Hid (∀ W, Below W1.heap.size W1 W → W.cell? ⟨5, 0, none⟩ = some (.iface 225 (.pointer (some (s 5)))) ∧ SetsAt W b1 T1 ∧ W.cell? ⟨q, 0, none⟩ = some (.map (some b1))) := Lib.hid fun W hb => by
    have := (hs1.on hb).here.cell 5 (by omega)
    exact ⟨by simpa only [gnum, List.getD_cons_zero, List.getD_cons_succ] using this, (h1.on hb).m1, cell_of_heap (h1.on hb).box 0⟩
  have hE0 := neqS
  rw [hg] at HGD
  have hv : slV ((look T1 id).getD none) = .slice (some ⟨bl id, 0, none⟩) sA.n sA.n := by rw [h.hit e]; simp [slV]
  rw [errA s 6 (by omega)]
  clear h hs hX hW1 hb1 v1 h1 hs1 hg e
  go_enter Tryd.func9, Tryd.ntmps9
  go_upto_region 1 with fail
  rw [HW1.out, HX.out]
  go_wp2_with fail
  refine HGD.out.mono ?_
  rintro e w3 ⟨rfl, b3⟩
  obtain ⟨e5, hm3, c3⟩ := HON.out w3 b3
  have HM3 := Lib.hid hm3
  have HB3 : Hid (Below w.heap.size w w3) := Lib.hid (HB1.out.trans (b3.mono HB1.out.size))
  clear b3 hm3
  go_wp2_with (at_lookup; refine wpList_lookG _ kitI rfl _ _ 104 rfl 111 Tryd.underlying104 slV none (Tryd.zeroSl _) b1 T1 rfl HM3.out id rfl hid _ hv ?_)
  go_ret
  exact ⟨rfl, HB3.out⟩
set_option maxRecDepth 100000 in
set_option maxHeartbeats 3200000 in
/-- Book.Open: there are too many. -/
theorem aopen_full (s : Nat → Addr) (h : AlP w P q b1 b2 T1 T2 bl G) (hs : SentP s P w) (v : V4) {id N : Int} (hr : 1 ≤ id ∧ id ≤ 999 ∧ 1 ≤ N ∧ N ≤ 8) (hg : goodV v = true) (e : setA G id = none) (hf : 8 ≤ G.sets.length) :
    Calls Tryd.prog 9 #[.pointer (some ⟨q, 0, none⟩), .int .i64 id, .int .i64 N, .agg #[.int .i64 v.a, .int .i64 v.b, .int .i64 v.c, .int .i64 v.d]] w fun e w' => e = .returned (errV s 7) ∧ Below w.heap.size w w' := by
  obtain ⟨X, hX⟩ : ∃ X, w.heap.size = X := ⟨_, rfl⟩
  obtain ⟨W1, hW1⟩ : ∃ W1, w.alloc (.cells #[.int .i64 v.a, .int .i64 v.b, .int .i64 v.c, .int .i64 v.d] 34) = W1 := ⟨_, rfl⟩
  have hb1 : Below w.heap.size w W1 := by rw [← hW1]; exact (Below.refl _ _).alloc (Nat.le_refl _) _
  have v1 : Vb W1 X v := by rw [← hW1, ← hX]; exact Vb.new w v
  have h1 := h.on hb1
  have hs1 := hs.on hb1
  have HX := Lib.hid hX; have HW1 := Lib.hid hW1; have HB1 := Lib.hid hb1
  have c0 : W1.cell? ⟨q, 0, none⟩ = some (.map (some b1)) := cell_of_heap h1.box 0
  obtain ⟨p0, p1, p2, p3, pf, pl⟩ := v1.facts
  have HGD := Lib.hid (good_c v W1)
  obtain ⟨r1, r2, r3, r4⟩ := hr
  have hid : i64 id := by unfold i64; omega
  have HON : Hid (∀ W, Below W1.heap.size W1 W → W.cell? ⟨6, 0, none⟩ = some (.iface 225 (.pointer (some (s 6)))) ∧ SetsAt W b1 T1 ∧ W.cell? ⟨q, 0, none⟩ = some (.map (some b1))) := Lib.hid fun W hb => by
    have := (hs1.on hb).here.cell 6 (by omega)
    exact ⟨by simpa only [gnum, List.getD_cons_zero, List.getD_cons_succ] using this, (h1.on hb).m1, cell_of_heap (h1.on hb).box 0⟩
  have hE0 := neqS
  rw [hg] at HGD
  have hv : slV ((look T1 id).getD none) = .slice none 0 0 := by rw [h.miss e]; rfl
  have hl8 : (8 : Int) ≤ (T1.length : Int) := by rw [h.len1]; omega
  rw [errA s 7 (by omega)]
  clear h hs hX hW1 hb1 v1 h1 hs1 hg e hf
  go_enter Tryd.func9, Tryd.ntmps9
  go_upto_region 1 with fail
  rw [HW1.out, HX.out]
  go_wp2_with fail
  refine HGD.out.mono ?_
  rintro e w3 ⟨rfl, b3⟩
  obtain ⟨e5, hm3, c3⟩ := HON.out w3 b3
  have HM3 := Lib.hid hm3
  have HB3 : Hid (Below w.heap.size w w3) := Lib.hid (HB1.out.trans (b3.mono HB1.out.size))
  clear b3 hm3
  go_wp2_with (first | (at_lookup; refine wpList_lookG _ kitI rfl _ _ 104 rfl 111 Tryd.underlying104 slV none (Tryd.zeroSl _) b1 T1 rfl HM3.out id rfl hid _ hv ?_) | (at_len; refine wpList_lenG _ rfl _ 104 rfl 111 Tryd.underlying104 slV b1 T1 rfl HM3.out ?_) | fail)
  go_ret
  exact ⟨rfl, HB3.out⟩
set_option maxRecDepth 100000 in
set_option maxHeartbeats 6400000 in
/-- Book.Open: the set comes. -/
theorem aopen_ok (h : AlP w P q b1 b2 T1 T2 bl G) (v : V4) {id : Int} {n : Nat} (hr : 1 ≤ id ∧ id ≤ 999 ∧ 1 ≤ n ∧ n ≤ 8) (hg : goodV v = true) (e : setA G id = none) (hf : G.sets.length < 8) :
    Calls Tryd.prog 9 #[.pointer (some ⟨q, 0, none⟩), .int .i64 id, .int .i64 (n : Int), .agg #[.int .i64 v.a, .int .i64 v.b, .int .i64 v.c, .int .i64 v.d]] w fun e w' => e = .returned .nilIface ∧ (∃ P', AlW w' P' q (openG G id n v) ∧ ∀ k, P' k → P k ∨ w.heap.size ≤ k) ∧ ChP P w w' := by
  obtain ⟨X, hX⟩ : ∃ X, w.heap.size = X := ⟨_, rfl⟩
  obtain ⟨W1, hW1⟩ : ∃ W1, w.alloc (.cells #[.int .i64 v.a, .int .i64 v.b, .int .i64 v.c, .int .i64 v.d] 34) = W1 := ⟨_, rfl⟩
  have hb1 : Below w.heap.size w W1 := by rw [← hW1]; exact (Below.refl _ _).alloc (Nat.le_refl _) _
  have v1 : Vb W1 X v := by rw [← hW1, ← hX]; exact Vb.new w v
  have h1 := h.on hb1
  have HX := Lib.hid hX; have HW1 := Lib.hid hW1; have HB1 := Lib.hid hb1
  have c0 : W1.cell? ⟨q, 0, none⟩ = some (.map (some b1)) := cell_of_heap h1.box 0
  obtain ⟨p0, p1, p2, p3, pf, pl⟩ := v1.facts
  have HGD := Lib.hid (good_c v W1)
  obtain ⟨r1, r2, r3, r4⟩ := hr
  have hid : i64 id := by unfold i64; omega
  have hgd : GA (openG G id n v) := by
    have := h.good.open id n v
    unfold openA at this
    rw [if_neg (by rw [hg]; simp; omega), if_neg (by rw [e]; simp), if_neg (by omega)] at this
    rw [show ((n : Int)).toNat = n from Int.toNat_natCast n] at this
    exact this
  have HON : Hid (∀ W, Below W1.heap.size W1 W → SetsAt W b1 T1 ∧ W.cell? ⟨q, 0, none⟩ = some (.map (some b1))) := Lib.hid fun W hb => ⟨(h1.on hb).m1, cell_of_heap (h1.on hb).box 0⟩
  have HVB : Hid (∀ W, Below W1.heap.size W1 W → Vb W X v) := Lib.hid fun W hb => v1.below hb (lt_of_row v1)
  have HRP : Hid (∀ gx W, W.heap[gx]? = some (.cells #[.bool false, .int .i64 v.a, .int .i64 v.b, .int .i64 v.c, .int .i64 v.d] 114 (0, 0)) → Calls Tryd.prog 56 #[.slice (some ⟨gx, 0, none⟩) 1 1, .int .i64 (n : Int)] W fun e w' => ∃ g, e = .returned (.slice (some ⟨g, 0, none⟩) n n) ∧ OwnE encEnv 114 w' W.heap.size (.slice (some ⟨g, 0, none⟩) n n) (List.replicate n ⟨false, v⟩) ∧ Below W.heap.size W w') := Lib.hid fun gx W hx => arep_c n (by omega) (by omega) ⟨false, v⟩ gx W hx
  have hv : slV ((look T1 id).getD none) = .slice none 0 0 := by rw [h.miss e]; rfl
  have hl8 : (T1.length : Int) < 8 := by rw [h.len1]; omega
  have hml : T1.length < maxLen := by unfold maxLen; omega
  have HFIN : Hid (∀ (w6 w9 : World) (g : Nat), Below w.heap.size w w6 → w.heap.size ≤ g → OwnE encEnv 114 w6 0 (.slice (some ⟨g, 0, none⟩) n n) (List.replicate n ⟨false, v⟩) → SetsAt w9 b1 (enter T1 id (some (g, n))) → w6.grownBy w9 (some b1) →
      (∃ P', AlW w9 P' q (openG G id n v) ∧ ∀ k, P' k → P k ∨ w.heap.size ≤ k) ∧ ChP P w w9) := Lib.hid fun w6 w9 g hb hgw ho hm hgr => by
    obtain ⟨k1, k2⟩ := h.opened e hgd hb hgw ho hm hgr
    exact ⟨⟨_, k1.any, fun k hk => by rcases hk with hk | rfl; exact .inl hk; exact .inr hgw⟩, k2⟩
  have hE0 := neqS
  have HID := Lib.hid hid
  have HML := Lib.hid hml
  rw [hg] at HGD
  clear h hX hW1 hb1 v1 h1 hg e hf hgd hml
  go_enter Tryd.func9, Tryd.ntmps9
  go_upto_region 1 with fail
  rw [HW1.out, HX.out]
  go_wp2_with fail
  refine HGD.out.mono ?_
  rintro e w3 ⟨rfl, b3⟩
  obtain ⟨hm3, c3⟩ := HON.out w3 b3
  have HM3 := Lib.hid hm3
  have HB3 : Hid (Below W1.heap.size W1 w3) := Lib.hid b3
  clear b3 hm3
  go_wp2_with (first | (at_lookup; refine wpList_lookG _ kitI rfl _ _ 104 rfl 111 Tryd.underlying104 slV none (Tryd.zeroSl _) b1 T1 rfl HM3.out id rfl hid _ hv ?_) | (at_len; refine wpList_lenG _ rfl _ 104 rfl 111 Tryd.underlying104 slV b1 T1 rfl HM3.out ?_) | fail)
  have HSS : Hid (∀ W, Below w3.heap.size w3 W → Below w3.heap.size w3 W ∧ W.cell? ⟨q, 0, none⟩ = some (.map (some b1)) ∧ W.cell? ⟨X, 0, none⟩ = some (.int .i64 v.a) ∧ W.cell? ⟨X, 1, none⟩ = some (.int .i64 v.b) ∧ W.cell? ⟨X, 2, none⟩ = some (.int .i64 v.c) ∧ W.cell? ⟨X, 3, none⟩ = some (.int .i64 v.d)) := Lib.hid fun W hb => by
    have hb' := HB3.out.trans (hb.mono HB3.out.size)
    obtain ⟨p0, p1, p2, p3, _, _⟩ := (HVB.out W hb').facts
    exact ⟨hb, (HON.out W hb').2, p0, p1, p2, p3⟩
  have HMM : Hid (∀ W, Below w3.heap.size w3 W → SetsAt W b1 T1 ∧ Below w.heap.size w W) := Lib.hid fun W hb => by
    have hb' := HB3.out.trans (hb.mono HB3.out.size)
    exact ⟨(HON.out W hb').1, HB1.out.trans (hb'.mono HB1.out.size)⟩
  clear c3 c0 p0 p1 p2 p3 pf pl
  refine wp_region_last (z := 10) (S := fun W => Below w3.heap.size w3 W ∧ W.cell? ⟨q, 0, none⟩ = some (.map (some b1)) ∧ W.cell? ⟨X, 0, none⟩ = some (.int .i64 v.a) ∧ W.cell? ⟨X, 1, none⟩ = some (.int .i64 v.b) ∧ W.cell? ⟨X, 2, none⟩ = some (.int .i64 v.c) ∧ W.cell? ⟨X, 3, none⟩ = some (.int .i64 v.d)) (by kernel_rfl) ?_ (fun hHeld => ?_)
  · exact HSS.out _ (Below.refl _ _).drew
  refine rgl_take 0 (some 51) _ (by kernel_rfl) (by kernel_rfl) (by kernel_rfl) (by kernel_rfl) (fun _ _ _ h => h) (by kernel_rfl) (by kernel_rfl) (by intro w' hSw op_ ho; obtain ⟨c0, p0, p1, p2, p3⟩ := hSw.2; simp only [List.getElem?_toArray, List.getElem?_cons_zero, Option.some.injEq] at ho; subst ho; go_simp; with_reducible rfl) (by assumption) ?_
  try simp only [Act.put, List.setIfInBounds_toArray, List.set_cons_zero, List.set_cons_succ]
  refine rgl_take 1 (some 52) _ (by kernel_rfl) (by kernel_rfl) (by kernel_rfl) (by kernel_rfl) (fun _ _ _ h => h) (by kernel_rfl) (by kernel_rfl) (by intro w' hSw op_ ho; obtain ⟨c0, p0, p1, p2, p3⟩ := hSw.2; simp only [List.getElem?_toArray, List.getElem?_cons_succ, List.getElem?_cons_zero, Option.some.injEq] at ho; subst ho; go_simp; with_reducible rfl) (by assumption) ?_
  try simp only [Act.put, List.setIfInBounds_toArray, List.set_cons_zero, List.set_cons_succ]
  refine rgl_take 2 (some 53) _ (by kernel_rfl) (by kernel_rfl) (by kernel_rfl) (by kernel_rfl) (fun _ _ _ h => h) (by kernel_rfl) (by kernel_rfl) (by intro w' hSw op_ ho; obtain ⟨c0, p0, p1, p2, p3⟩ := hSw.2; simp only [List.getElem?_toArray, List.getElem?_cons_succ, List.getElem?_cons_zero, Option.some.injEq] at ho; subst ho; go_simp; with_reducible rfl) (by assumption) ?_
  try simp only [Act.put, List.setIfInBounds_toArray, List.set_cons_zero, List.set_cons_succ]
  refine rgl_take 3 (some 54) _ (by kernel_rfl) (by kernel_rfl) (by kernel_rfl) (by kernel_rfl) (fun _ _ _ h => h) (by kernel_rfl) (by kernel_rfl) (by intro w' hSw op_ ho; obtain ⟨c0, p0, p1, p2, p3⟩ := hSw.2; simp only [List.getElem?_toArray, List.getElem?_cons_succ, List.getElem?_cons_zero, Option.some.injEq] at ho; subst ho; go_simp; with_reducible rfl) (by assumption) ?_
  try simp only [Act.put, List.setIfInBounds_toArray, List.set_cons_zero, List.set_cons_succ]
  refine rgl_take 4 (some 55) _ (by kernel_rfl) (by kernel_rfl) (by kernel_rfl) (by kernel_rfl) (fun _ _ _ h => h) (by kernel_rfl) (by kernel_rfl) (by intro w' hSw op_ ho; obtain ⟨c0, p0, p1, p2, p3⟩ := hSw.2; simp only [List.getElem?_toArray, List.getElem?_cons_succ, List.getElem?_cons_zero, Option.some.injEq] at ho; subst ho; go_simp; with_reducible rfl) (by assumption) ?_
  try simp only [Act.put, List.setIfInBounds_toArray, List.set_cons_zero, List.set_cons_succ]
  refine rgl_take 5 (some 56) _ (by kernel_rfl) (by kernel_rfl) (by kernel_rfl) (by kernel_rfl) (fun _ _ _ h => h) (by kernel_rfl) (by kernel_rfl) (by intro w' hSw op_ ho; obtain ⟨c0, p0, p1, p2, p3⟩ := hSw.2; simp only [List.getElem?_toArray, List.getElem?_cons_succ, List.getElem?_cons_zero, Option.some.injEq] at ho; subst ho; go_simp; with_reducible rfl) (by assumption) ?_
  try simp only [Act.put, List.setIfInBounds_toArray, List.set_cons_zero, List.set_cons_succ]
  refine rgl_take 6 (some 57) _ (by kernel_rfl) (by kernel_rfl) (by kernel_rfl) (by kernel_rfl) (fun _ _ _ h => h) (by kernel_rfl) (by kernel_rfl) (by intro w' hSw op_ ho; obtain ⟨c0, p0, p1, p2, p3⟩ := hSw.2; simp only [List.getElem?_toArray, List.getElem?_cons_succ, List.getElem?_cons_zero, Option.some.injEq] at ho; subst ho; go_simp; with_reducible rfl) (by assumption) ?_
  try simp only [Act.put, List.setIfInBounds_toArray, List.set_cons_zero, List.set_cons_succ]
  refine rgl_take 8 (some 59) _ (by kernel_rfl) (by kernel_rfl) (by kernel_rfl) (by kernel_rfl) (fun _ _ _ h => h) (by kernel_rfl) (by kernel_rfl) (by intro w' hSw op_ ho; obtain ⟨c0, p0, p1, p2, p3⟩ := hSw.2; simp only [List.getElem?_toArray, List.getElem?_cons_succ, List.getElem?_cons_zero, Option.some.injEq] at ho; subst ho; go_simp; with_reducible rfl) (by assumption) ?_
  try simp only [Act.put, List.setIfInBounds_toArray, List.set_cons_zero, List.set_cons_succ]
  refine rgl_one 7 (by kernel_rfl) (by kernel_rfl) (by decide) (fun op_ ho K hK => ?_)
  simp only [List.getElem?_toArray, List.getElem?_cons_succ, List.getElem?_cons_zero, Option.some.injEq] at ho
  subst ho
  go_simp
  have HS6 := Lib.hid hHeld
  go_wp2_with fail
  refine hK.out _ _ (by first | exact hHeld | exact HSS.out _ (HS6.out.1.alloc HS6.out.1.size _) | exact HSS.out _ (HS7.out.1.trans (b5.mono HS7.out.1.size))) (fun hHeld => ?_)
  clear hK
  try simp only [Act.put, List.setIfInBounds_toArray, List.set_cons_zero, List.set_cons_succ]
  refine rgl_one 9 (by kernel_rfl) (by kernel_rfl) (by decide) (fun op_ ho K hK => ?_)
  simp only [List.getElem?_toArray, List.getElem?_cons_succ, List.getElem?_cons_zero, Option.some.injEq] at ho
  subst ho
  go_simp
  go_at_call 56
  refine (HRP.out _ _ (by first | exact heap_alloc_new w3 _ | exact heap_alloc_new w3.drew _)).mono ?_
  rintro e w5 ⟨g, rfl, ho5, b5⟩
  have HO5 := Lib.hid ho5
  have HB5 := Lib.hid b5
  have HS7 := Lib.hid hHeld
  go_wp2_with fail
  refine hK.out _ _ (by first | exact hHeld | exact HSS.out _ (HS6.out.1.alloc HS6.out.1.size _) | exact HSS.out _ (HS7.out.1.trans (b5.mono HS7.out.1.size))) (fun hHeld => ?_)
  clear hK
  try simp only [Act.put, List.setIfInBounds_toArray, List.set_cons_zero, List.set_cons_succ]
  refine rgl_last (by kernel_rfl) (by kernel_rfl) (by kernel_rfl) (fun op_ ho K hK => ?_)
  simp only [List.getElem?_toArray, List.getElem?_cons_succ, List.getElem?_cons_zero, Option.some.injEq] at ho
  subst ho
  have HS9 := Lib.hid hHeld
  obtain ⟨hm9, hb9⟩ := HMM.out _ HS9.out.1
  refine opwp_putG kitI rfl _ _ _ 104 rfl 111 Tryd.underlying104 slV b1 T1 rfl hm9 HML.out id rfl HID.out (some (g, n)) rfl ?_
  intro w9 hm10 hg10
  have HM9 := Lib.hid hm10
  have HG9 := Lib.hid hg10
  clear hm9 hb9 hm10 hg10
  refine hK.out _ _ ?_
  clear hK
  try simp only [Act.put]
  go_wp2_with fail
  go_ret
  have hb9 := HMM.out _ HS9.out.1
  exact ⟨rfl, HFIN.out _ _ g hb9.2 (by have := (HMM.out _ HS7.out.1).2.size; have := (HO5.out.lt g rfl).1; omega) (HO5.out.base (Nat.zero_le _)) HM9.out HG9.out⟩
end
/-- .. of no book. -/
theorem aopen_nil (s : Nat → Addr) (w : World) (hs : Sent s w) (id N : Int) (v : V4) :
    Calls Tryd.prog 9 #[.pointer none, .int .i64 id, .int .i64 N, .agg #[.int .i64 v.a, .int .i64 v.b, .int .i64 v.c, .int .i64 v.d]] w fun e w' => e = .returned (errV s 2) ∧ Below w.heap.size w w' := by
  obtain ⟨W1, hW1⟩ : ∃ W1, w.alloc (.cells #[.int .i64 v.a, .int .i64 v.b, .int .i64 v.c, .int .i64 v.d] 34) = W1 := ⟨_, rfl⟩
  have hb1 : Below w.heap.size w W1 := by rw [← hW1]; exact (Below.refl _ _).alloc (Nat.le_refl _) _
  have e1 := (hs.below hb1 (Nat.le_refl _)).cell 1 (by omega)
  simp only [gnum, List.getD_cons_zero, List.getD_cons_succ] at e1
  have HW1 := Lib.hid hW1; have HB1 := Lib.hid hb1
  rw [errA s 2 (by omega)]
  clear hs hW1 hb1
  go_enter Tryd.func9, Tryd.ntmps9
  go_upto_region 2 with fail
  rw [HW1.out]
  go_wp2_with fail
  go_ret
  exact ⟨rfl, HB1.out⟩
end Go.Proofs.YtbdnfppbiplpmaaDoor
