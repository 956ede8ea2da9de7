/- Contracts of the reader's Vec, Err and End, and of the methods of a nil reader. Conditions: the sentinels lie as the program's text lays them; the text is no longer than memory allows. -/
import Derived.Test.YtcahidhcnhgbeaaDoorWireJ
import Derived.BigRegion
import Derived.StillTailTactics
namespace Go.Proofs.YtcahidhcnhgbeaaDoor
open Go Go.RowKit

theorem four_set0 {w : World} {q : Nat} {a b c d x : Value} {t : TypeId} (h : w.heap[q]? = some (.cells #[a, b, c, d] t (0, 0))) : (w.setCell ⟨q, 0, none⟩ x).heap[q]? = some (.cells #[x, b, c, d] t (0, 0)) := by
  have hlt := lt_of_block h
  have h' : w.heap[q] = .cells #[a, b, c, d] t (0, 0) := by simpa [Array.getElem?_eq_getElem hlt] using h
  show (w.heap.modify q _)[q]? = _
  rw [Array.getElem?_modify, if_pos rfl, Array.getElem?_eq_getElem hlt, h']
  rfl
theorem four_set1 {w : World} {q : Nat} {a b c d x : Value} {t : TypeId} (h : w.heap[q]? = some (.cells #[a, b, c, d] t (0, 0))) : (w.setCell ⟨q, 1, none⟩ x).heap[q]? = some (.cells #[a, x, c, d] t (0, 0)) := by
  have hlt := lt_of_block h
  have h' : w.heap[q] = .cells #[a, b, c, d] t (0, 0) := by simpa [Array.getElem?_eq_getElem hlt] using h
  show (w.heap.modify q _)[q]? = _
  rw [Array.getElem?_modify, if_pos rfl, Array.getElem?_eq_getElem hlt, h']
  rfl
theorem four_set2 {w : World} {q : Nat} {a b c d x : Value} {t : TypeId} (h : w.heap[q]? = some (.cells #[a, b, c, d] t (0, 0))) : (w.setCell ⟨q, 2, none⟩ x).heap[q]? = some (.cells #[a, b, x, d] t (0, 0)) := by
  have hlt := lt_of_block h
  have h' : w.heap[q] = .cells #[a, b, c, d] t (0, 0) := by simpa [Array.getElem?_eq_getElem hlt] using h
  show (w.heap.modify q _)[q]? = _
  rw [Array.getElem?_modify, if_pos rfl, Array.getElem?_eq_getElem hlt, h']
  rfl
theorem four_set3 {w : World} {q : Nat} {a b c d x : Value} {t : TypeId} (h : w.heap[q]? = some (.cells #[a, b, c, d] t (0, 0))) : (w.setCell ⟨q, 3, none⟩ x).heap[q]? = some (.cells #[a, b, c, x] t (0, 0)) := by
  have hlt := lt_of_block h
  have h' : w.heap[q] = .cells #[a, b, c, d] t (0, 0) := by simpa [Array.getElem?_eq_getElem hlt] using h
  show (w.heap.modify q _)[q]? = _
  rw [Array.getElem?_modify, if_pos rfl, Array.getElem?_eq_getElem hlt, h']
  rfl

theorem new_after_set (w : World) (a : Addr) (v : Value) (o : Obj) : ((w.setCell a v).alloc o).drew.heap[w.heap.size]? = some o := by
  have h := heap_alloc_new (w.setCell a v) o
  rw [World.size_setCell] at h
  exact h

/-- A Fault that was made. -/
def FaultV (s : Nat → Addr) (w : World) (op : ByteArray) (b : Nat) (ev : Value) : Prop := ∃ g, ev = .iface 66 (.pointer (some ⟨g, 0, none⟩)) ∧ w.heap[g]? = some (.cells (faultRow s op b) 70 (0, 0))
/-- The error of a reader in a state. -/
def ErrV (s : Nat → Addr) (w : World) (ev : Value) : Option Nat → Prop
  | none => ev = .nilIface
  | some b => FaultV s w opRead b ev

set_option maxHeartbeats 1600000 in
set_option maxRecDepth 100000 in
theorem err_none (s : Nat → Addr) (q f : Nat) (T : ByteArray) (st : St) (w : World) (hb : st.bad = none) (h : InAt s w q f T st) :
    Calls Tryd.prog 29 #[.pointer (some ⟨q, 0, none⟩)] w fun e w' => e = .returned .nilIface ∧ Below w.heap.size w w' := by
  obtain ⟨ev, h1, h2, h3, h4⟩ := id h
  rw [hb] at h2
  obtain ⟨rfl, rfl⟩ := h2
  have hlt := h.lt
  have c2 : w.cell? ⟨f, 2, none⟩ = some .nilIface := cell_of_heap h1 2
  clear h h1 h4 hb
  go_enter Tryd.func29, Tryd.ntmps29
  go_wp2_with fail
  refine (as_nil _ _).mono ?_
  rintro e w1 ⟨rfl, rfl⟩
  go_wp2_with fail
  go_ret
  exact ⟨rfl, by (repeat' (first | (with_reducible exact Below.refl _ _) | (with_reducible refine below_drewN ?_ _) | (with_reducible refine Below.drew ?_) | (with_reducible refine Below.alloc ?_ ?_ _) | (with_reducible refine Below.setCell ?_ ?_ _) | (with_reducible refine Below.trans ?_ (Below.mono (by with_reducible assumption) ?_)) | omega | (simp only [World.size_alloc, World.size_setCell, World.size_drew, Go.Proofs.YtcahidhcnhgbeaaDoor.World.size_drewN] at *; omega) | (with_reducible refine Below.size (B := 0) ?_)))⟩

set_option maxHeartbeats 1600000 in
set_option maxRecDepth 100000 in
theorem err_some (s : Nat → Addr) (q f b : Nat) (T : ByteArray) (st : St) (w : World) (hs : Sent s w) (hb : st.bad = some b) (h : InAt s w q f T st) :
    Calls Tryd.prog 29 #[.pointer (some ⟨q, 0, none⟩)] w fun e w' => (∃ ev, e = .returned ev ∧ FaultV s w' opRead b ev) ∧ Below w.heap.size w w' := by
  obtain ⟨ev, h1, h2, h3, h4⟩ := id h
  rw [hb] at h2
  obtain ⟨rfl, hqf, h2⟩ := h2
  have hlt := h.lt
  have c2 : w.cell? ⟨q, 2, none⟩ = some (.iface 66 (.pointer (some ⟨f, 0, none⟩))) := cell_of_heap h1 2
  have F2 := Lib.hid h2; clear h2
  clear h h1 h4 hb
  go_enter Tryd.func29, Tryd.ntmps29
  go_wp2_with fail
  have hs5 : Sent s (w.alloc (.cells #[.pointer none] 66)) := hs.below (B := w.heap.size) (by (repeat' (first | (with_reducible exact Below.refl _ _) | (with_reducible refine below_drewN ?_ _) | (with_reducible refine Below.drew ?_) | (with_reducible refine Below.alloc ?_ ?_ _) | (with_reducible refine Below.setCell ?_ ?_ _) | (with_reducible refine Below.trans ?_ (Below.mono (by with_reducible assumption) ?_)) | omega | (simp only [World.size_alloc, World.size_setCell, World.size_drew, Go.Proofs.YtcahidhcnhgbeaaDoor.World.size_drewN] at *; omega) | (with_reducible refine Below.size (B := 0) ?_)))) (Nat.le_refl _)
  refine (as_fault ⟨f, 0, none⟩ ⟨w.heap.size, 0, none⟩ (.pointer none) _ hs5.etype (by simp) (by simp)).mono ?_
  rintro e w7 ⟨rfl, w6, hb6, rfl⟩
  have k6 : Hid (Below w.heap.size w w6) := Lib.hid (by (repeat' (first | (with_reducible exact Below.refl _ _) | (with_reducible refine below_drewN ?_ _) | (with_reducible refine Below.drew ?_) | (with_reducible refine Below.alloc ?_ ?_ _) | (with_reducible refine Below.setCell ?_ ?_ _) | (with_reducible refine Below.trans ?_ (Below.mono (by with_reducible assumption) ?_)) | omega | (simp only [World.size_alloc] at *; omega) | (with_reducible refine Below.size (B := 0) ?_))))
  have y6 : w6.cell? ⟨w.heap.size, 0, none⟩ = some (.pointer none) := (hb6.cell (p := ⟨w.heap.size, 0, none⟩) (by simp)).trans (by simp)
  have hf6 : w6.heap[f]? = some (.cells (faultRow s opRead b) 70 (0, 0)) := (k6.out.block f hlt.2.2).trans F2.out
  have p0 : w6.cell? ⟨f, 0, none⟩ = some (.string opRead) := cell_of_heap hf6 0
  have p1 : w6.cell? ⟨f, 1, none⟩ = some (.int .i64 (b : Int)) := cell_of_heap hf6 1
  have p2 : w6.cell? ⟨f, 2, none⟩ = some (.iface 104 (.pointer (some (s 1)))) := cell_of_heap hf6 2
  have hne : ¬ (w.heap.size = f) := by omega
  have hne' : ¬ (f = w.heap.size) := by omega
  have hz6 := k6.out.size
  clear hs5 hf6 c2
  go_wp2_with fail
  go_region
  all_goals go_wp2_with fail
  all_goals go_ret
  all_goals refine ⟨⟨_, rfl, ⟨_, rfl, ?_⟩⟩, by (repeat' (first | (with_reducible exact Below.refl _ _) | (with_reducible refine below_drewN ?_ _) | (with_reducible refine Below.drew ?_) | (with_reducible refine Below.alloc ?_ ?_ _) | (with_reducible refine Below.setCell ?_ ?_ _) | (with_reducible refine Below.trans ?_ (Below.mono (by with_reducible assumption) ?_)) | omega | (simp only [World.size_alloc, World.size_setCell] at *; omega) | (with_reducible refine Below.size (B := 0) ?_)))⟩
  all_goals exact new_after_set w6 _ _ _

theorem err_c (s : Nat → Addr) (q f : Nat) (T : ByteArray) (st : St) (w : World) (hs : Sent s w) (h : InAt s w q f T st) :
    Calls Tryd.prog 29 #[.pointer (some ⟨q, 0, none⟩)] w fun e w' => (∃ ev, e = .returned ev ∧ ErrV s w' ev st.bad) ∧ Below w.heap.size w w' := by
  cases hb : st.bad with
  | none => exact (err_none s q f T st w hb h).mono fun _ _ ⟨h1, h2⟩ => ⟨⟨_, h1, rfl⟩, h2⟩
  | some b => exact (err_some s q f b T st w hs hb h).mono fun _ _ ⟨⟨ev, h1, h3⟩, h2⟩ => ⟨⟨ev, h1, h3⟩, h2⟩

/-- What End tells. -/
def EndV (s : Nat → Addr) (w : World) (ev : Value) (T : ByteArray) (st : St) : Prop :=
  match st.bad with
  | some b => FaultV s w opRead b ev
  | none => if st.i < T.size then FaultV s w opEnd st.i ev else ev = .nilIface

set_option maxHeartbeats 1600000 in
set_option maxRecDepth 100000 in
theorem end_bad (s : Nat → Addr) (q f b : Nat) (T : ByteArray) (st : St) (w : World) (hs : Sent s w) (hb : st.bad = some b) (h : InAt s w q f T st) :
    Calls Tryd.prog 30 #[.pointer (some ⟨q, 0, none⟩)] w fun e w' => (∃ ev, e = .returned ev ∧ FaultV s w' opRead b ev) ∧ Below w.heap.size w w' := by
  go_enter Tryd.func30, Tryd.ntmps30
  go_wp2_with fail
  refine (err_some s q f b T st _ hs hb h).mono ?_
  rintro e w1 ⟨⟨ev, rfl, g, rfl, hg⟩, hb1⟩
  have HG := Lib.hid hg; clear hg
  clear hb
  go_wp2_with fail
  go_ret
  exact ⟨⟨_, rfl, ⟨_, rfl, HG.out⟩⟩, hb1⟩

set_option maxHeartbeats 1600000 in
set_option maxRecDepth 100000 in
theorem end_done (s : Nat → Addr) (q f : Nat) (T : ByteArray) (st : St) (w : World) (hT : T.size ≤ 9223372036854775807) (hb : st.bad = none) (hi : ¬ st.i < T.size) (h : InAt s w q f T st) :
    Calls Tryd.prog 30 #[.pointer (some ⟨q, 0, none⟩)] w fun e w' => e = .returned .nilIface ∧ Below w.heap.size w w' := by
  have h3 : st.i ≤ T.size := by obtain ⟨_, _, _, h3, _⟩ := h; exact h3
  have hlt := h.lt
  have hz : (T.size : Int) - (st.i : Int) ≤ 0 := by omega
  go_enter Tryd.func30, Tryd.ntmps30
  go_wp2_with fail
  refine (err_none s q f T st _ hb h).mono ?_
  rintro e w1 ⟨rfl, hb1⟩
  clear hb
  go_wp2_with fail
  refine (left_c s q f T st _ hT (h.below hb1 hlt.1 hlt.2.2)).mono ?_
  rintro e w3 ⟨rfl, nd, rfl⟩
  go_wp2_with fail
  go_ret
  exact ⟨rfl, by (repeat' (first | (with_reducible exact Below.refl _ _) | (with_reducible refine below_drewN ?_ _) | (with_reducible refine Below.drew ?_) | (with_reducible refine Below.alloc ?_ ?_ _) | (with_reducible refine Below.setCell ?_ ?_ _) | (with_reducible refine Below.trans ?_ (Below.mono (by with_reducible assumption) ?_)) | omega | (simp only [World.size_alloc, World.size_setCell, World.size_drew, Go.Proofs.YtcahidhcnhgbeaaDoor.World.size_drewN] at *; omega) | (with_reducible refine Below.size (B := 0) ?_)))⟩

set_option maxHeartbeats 1600000 in
set_option maxRecDepth 100000 in
theorem end_more (s : Nat → Addr) (q f : Nat) (T : ByteArray) (st : St) (w : World) (hs : Sent s w) (hT : T.size ≤ 9223372036854775807) (hb : st.bad = none) (hi : st.i < T.size) (h : InAt s w q f T st) :
    Calls Tryd.prog 30 #[.pointer (some ⟨q, 0, none⟩)] w fun e w' => (∃ ev, e = .returned ev ∧ FaultV s w' opEnd st.i ev) ∧ Below w.heap.size w w' := by
  have hlt := h.lt
  have hz : 0 < (T.size : Int) - (st.i : Int) := by omega
  go_enter Tryd.func30, Tryd.ntmps30
  go_wp2_with fail
  refine (err_none s q f T st _ hb h).mono ?_
  rintro e w1 ⟨rfl, hb1⟩
  clear hb
  have h1 := h.below hb1 hlt.1 hlt.2.2
  go_wp2_with fail
  refine (left_c s q f T st _ hT h1).mono ?_
  rintro e w3 ⟨rfl, nd, rfl⟩
  have hs3 : Sent s w1 := hs.below (B := w.heap.size) (by (repeat' (first | (with_reducible exact Below.refl _ _) | (with_reducible refine below_drewN ?_ _) | (with_reducible refine Below.drew ?_) | (with_reducible refine Below.alloc ?_ ?_ _) | (with_reducible refine Below.setCell ?_ ?_ _) | (with_reducible refine Below.trans ?_ (Below.mono (by with_reducible assumption) ?_)) | omega | (simp only [World.size_alloc, World.size_setCell, World.size_drew, Go.Proofs.YtcahidhcnhgbeaaDoor.World.size_drewN] at *; omega) | (with_reducible refine Below.size (B := 0) ?_)))) (Nat.le_refl _)
  have hg := hs3.cell 1 (by omega)
  simp only [gnum, List.getD_cons_zero, List.getD_cons_succ] at hg
  obtain ⟨ev, e1, e2, e3, e4⟩ := id h1
  have c1 : w1.cell? ⟨q, 1, none⟩ = some (.int .i64 (st.i : Int)) := cell_of_heap e1 1
  clear e1 e2 e3 e4 hs3 h1
  go_wp2_with fail
  go_region
  all_goals go_wp2_with fail
  all_goals go_ret
  all_goals refine ⟨⟨_, rfl, ⟨_, rfl, ?_⟩⟩, by (repeat' (first | (with_reducible exact Below.refl _ _) | (with_reducible refine below_drewN ?_ _) | (with_reducible refine Below.drew ?_) | (with_reducible refine Below.alloc ?_ ?_ _) | (with_reducible refine Below.setCell ?_ ?_ _) | (with_reducible refine Below.trans ?_ (Below.mono (by with_reducible assumption) ?_)) | omega | (simp only [Go.Proofs.YtcahidhcnhgbeaaDoor.World.size_drewN] at *; omega) | (with_reducible refine Below.size (B := 0) ?_)))⟩
  all_goals exact heap_alloc_new (w1.drewN nd) _

/-! A nil reader. -/
theorem nilin_number (w : World) : Calls Tryd.prog 33 #[.pointer none] w fun e w' => e = .returned (.tuple #[.int .i64 0, .bool false]) ∧ w = w' := by
  go_enter Tryd.func33, Tryd.ntmps33
  go_wp2_with fail
  go_ret2
  exact ⟨rfl, rfl⟩
theorem nilin_int (w : World) : Calls Tryd.prog 19 #[.pointer none] w fun e w' => e = .returned (.int .i64 0) ∧ w = w' := by
  go_enter Tryd.func19, Tryd.ntmps19
  go_wp2_with fail
  refine (nilin_number _).mono ?_
  rintro e w1 ⟨rfl, rfl⟩
  go_wp2_with fail
  go_ret
  exact ⟨rfl, rfl⟩
theorem nilin_text (n : Int) (w : World) : Calls Tryd.prog 21 #[.pointer none, .int .i64 n] w fun e w' => e = .returned (.string ⟨#[]⟩) ∧ w = w' := by
  go_enter Tryd.func21, Tryd.ntmps21
  go_wp2_with fail
  go_ret
  exact ⟨rfl, rfl⟩
theorem nilin_bool (w : World) : Calls Tryd.prog 25 #[.pointer none] w fun e w' => e = .returned (.bool false) ∧ w = w' := by
  go_enter Tryd.func25, Tryd.ntmps25
  go_wp2_with fail
  go_ret
  exact ⟨rfl, rfl⟩
theorem nilin_left (w : World) : Calls Tryd.prog 27 #[.pointer none] w fun e w' => e = .returned (.int .i64 0) ∧ w = w' := by
  go_enter Tryd.func27, Tryd.ntmps27
  go_wp2_with fail
  go_ret
  exact ⟨rfl, rfl⟩
theorem nilin_err (s : Nat → Addr) (w : World) (hs : Sent s w) : Calls Tryd.prog 29 #[.pointer none] w fun e w' => e = .returned (.iface 104 (.pointer (some (s 0)))) ∧ w = w' := by
  have hg := hs.cell 0 (by omega)
  simp only [gnum, List.getD_cons_zero] at hg
  go_enter Tryd.func29, Tryd.ntmps29
  go_wp2_with fail
  go_ret
  exact ⟨rfl, rfl⟩
theorem nilin_end (s : Nat → Addr) (w : World) (hs : Sent s w) : Calls Tryd.prog 30 #[.pointer none] w fun e w' => e = .returned (.iface 104 (.pointer (some (s 0)))) ∧ w = w' := by
  go_enter Tryd.func30, Tryd.ntmps30
  go_wp2_with fail
  refine (nilin_err s _ hs).mono ?_
  rintro e w1 ⟨rfl, rfl⟩
  go_wp2_with fail
  go_ret
  exact ⟨rfl, rfl⟩
set_option maxHeartbeats 1600000 in
set_option maxRecDepth 100000 in
theorem nilin_vec (s : Nat → Addr) (w : World) (hs : Sent s w) : Calls Tryd.prog 23 #[.pointer none] w fun e w' => e = .returned (.agg #[.int .i64 0, .int .i64 0, .int .i64 0, .int .i64 0]) ∧ Below w.heap.size w w' := by
  go_enter Tryd.func23, Tryd.ntmps23
  go_wp2_with fail
  refine wp_loop_rounds 5 ?_
  rw [rounds_succ]
  go_wp2_with fail
  refine (nilin_int _).mono ?_
  rintro e w1 ⟨rfl, rfl⟩
  go_wp2_with fail
  rw [rounds_succ]
  go_wp2_with fail
  refine (nilin_int _).mono ?_
  rintro e w1 ⟨rfl, rfl⟩
  go_wp2_with fail
  rw [rounds_succ]
  go_wp2_with fail
  refine (nilin_int _).mono ?_
  rintro e w1 ⟨rfl, rfl⟩
  go_wp2_with fail
  rw [rounds_succ]
  go_wp2_with fail
  refine (nilin_int _).mono ?_
  rintro e w1 ⟨rfl, rfl⟩
  go_wp2_with fail
  rw [rounds_succ]
  go_wp2_with fail
  refine (nilin_err s _ (hs.below (B := w.heap.size) (by (repeat' (first | (with_reducible exact Below.refl _ _) | (with_reducible refine below_drewN ?_ _) | (with_reducible refine Below.drew ?_) | (with_reducible refine Below.alloc ?_ ?_ _) | (with_reducible refine Below.setCell ?_ ?_ _) | (with_reducible refine Below.trans ?_ (Below.mono (by with_reducible assumption) ?_)) | omega | (simp only [World.size_alloc] at *; omega) | (with_reducible refine Below.size (B := 0) ?_)))) (Nat.le_refl _))).mono ?_
  rintro e w1 ⟨rfl, rfl⟩
  go_wp2_with fail
  exact bodyPost_ret (v := .agg #[.int .i64 0, .int .i64 0, .int .i64 0, .int .i64 0]) (by simp [results, Tryd.results23, go_sem]) rfl ⟨rfl, by (repeat' (first | (with_reducible exact Below.refl _ _) | (with_reducible refine below_drewN ?_ _) | (with_reducible refine Below.drew ?_) | (with_reducible refine Below.alloc ?_ ?_ _) | (with_reducible refine Below.setCell ?_ ?_ _) | (with_reducible refine Below.trans ?_ (Below.mono (by with_reducible assumption) ?_)) | omega | (simp only [World.size_alloc] at *; omega) | (with_reducible refine Below.size (B := 0) ?_)))⟩

set_option maxHeartbeats 1600000 in
set_option maxRecDepth 100000 in
/-- at(nil, op). -/
theorem at_nil (op : ByteArray) (w : World) : Calls Tryd.prog 28 #[.nilIface, .string op] w fun e w' => e = .returned (.int .i64 (-1)) ∧ Below w.heap.size w w' := by
  go_enter Tryd.func28, Tryd.ntmps28
  go_wp2_with fail
  go_ret
  exact ⟨rfl, by (repeat' (first | (with_reducible exact Below.refl _ _) | (with_reducible refine below_drewN ?_ _) | (with_reducible refine Below.drew ?_) | (with_reducible refine Below.alloc ?_ ?_ _) | (with_reducible refine Below.setCell ?_ ?_ _) | (with_reducible refine Below.trans ?_ (Below.mono (by with_reducible assumption) ?_)) | omega | (simp only [World.size_alloc, World.size_setCell, World.size_drew, Go.Proofs.YtcahidhcnhgbeaaDoor.World.size_drewN] at *; omega) | (with_reducible refine Below.size (B := 0) ?_)))⟩

set_option maxHeartbeats 1600000 in
set_option maxRecDepth 100000 in
/-- at(e, op), e a Fault. -/
theorem at_fault (s : Nat → Addr) (op : ByteArray) (b : Nat) (ev : Value) (w : World) (hs : Sent s w) (h : FaultV s w op b ev)  :
    Calls Tryd.prog 28 #[ev, .string op] w fun e w' => e = .returned (.int .i64 (b : Int)) ∧ Below w.heap.size w w' := by
  obtain ⟨f, rfl, hf⟩ := h
  have hn : (!op.toList == op.toList) = false := by simp
  have hlt := lt_of_block hf
  have F := Lib.hid hf; clear hf
  go_enter Tryd.func28, Tryd.ntmps28
  go_wp2_with fail
  have hs5 : Sent s (w.alloc (.cells #[.pointer none] 66)) := hs.below (B := w.heap.size) (by (repeat' (first | (with_reducible exact Below.refl _ _) | (with_reducible refine below_drewN ?_ _) | (with_reducible refine Below.drew ?_) | (with_reducible refine Below.alloc ?_ ?_ _) | (with_reducible refine Below.setCell ?_ ?_ _) | (with_reducible refine Below.trans ?_ (Below.mono (by with_reducible assumption) ?_)) | omega | (simp only [World.size_alloc, World.size_setCell, World.size_drew, Go.Proofs.YtcahidhcnhgbeaaDoor.World.size_drewN] at *; omega) | (with_reducible refine Below.size (B := 0) ?_)))) (Nat.le_refl _)
  refine (as_fault ⟨f, 0, none⟩ ⟨w.heap.size, 0, none⟩ (.pointer none) _ hs5.etype (by simp) (by simp)).mono ?_
  rintro e w7 ⟨rfl, w6, hb6, rfl⟩
  have k6 : Hid (Below w.heap.size w w6) := Lib.hid (by (repeat' (first | (with_reducible exact Below.refl _ _) | (with_reducible refine below_drewN ?_ _) | (with_reducible refine Below.drew ?_) | (with_reducible refine Below.alloc ?_ ?_ _) | (with_reducible refine Below.setCell ?_ ?_ _) | (with_reducible refine Below.trans ?_ (Below.mono (by with_reducible assumption) ?_)) | omega | (simp only [World.size_alloc] at *; omega) | (with_reducible refine Below.size (B := 0) ?_))))
  have y6 : w6.cell? ⟨w.heap.size, 0, none⟩ = some (.pointer none) := (hb6.cell (p := ⟨w.heap.size, 0, none⟩) (by simp)).trans (by simp)
  have hf6 : w6.heap[f]? = some (.cells (faultRow s op b) 70 (0, 0)) := (k6.out.block f hlt).trans F.out
  have p0 : w6.cell? ⟨f, 0, none⟩ = some (.string op) := cell_of_heap hf6 0
  have p1 : w6.cell? ⟨f, 1, none⟩ = some (.int .i64 (b : Int)) := cell_of_heap hf6 1
  have hne : ¬ (w.heap.size = f) := by omega
  have hne' : ¬ (f = w.heap.size) := by omega
  have hz6 := k6.out.size
  have hs6 : Sent s w6 := hs.below k6.out (Nat.le_refl _)
  have hg := hs6.cell 1 (by omega)
  simp only [gnum, List.getD_cons_zero, List.getD_cons_succ] at hg
  have hgl : 1 < w.heap.size := lt_of_cell (hs.cell 1 (by omega))
  have hgn : ¬ (w.heap.size = 1) := by omega
  have hgn' : ¬ (1 = w.heap.size) := by omega
  have hf7 : (w6.setCell ⟨w.heap.size, 0, none⟩ (.pointer (some ⟨f, 0, none⟩))).heap[f]? = some (.cells (faultRow s op b) 70 (0, 0)) := (Below.heap_setCell _ _ _ _ hne').trans hf6
  have HS7 : Hid (Sent s (w6.setCell ⟨w.heap.size, 0, none⟩ (.pointer (some ⟨f, 0, none⟩)))) := Lib.hid (hs.below (B := w.heap.size) (k6.out.setCell (Nat.le_refl _) _) (Nat.le_refl _))
  have F7 := Lib.hid hf7; clear hf7 hf6 hs5 hs6
  go_wp2_with fail
  refine (is_fault s 1 1 f 0 _ HS7.out (by omega) (by omega) (cell_of_heap F7.out 2)).mono ?_
  rintro e w8 ⟨rfl, rfl⟩
  go_wp2_with fail
  go_ret
  exact ⟨rfl, by (repeat' (first | (with_reducible exact Below.refl _ _) | (with_reducible refine below_drewN ?_ _) | (with_reducible refine Below.drew ?_) | (with_reducible refine Below.alloc ?_ ?_ _) | (with_reducible refine Below.setCell ?_ ?_ _) | (with_reducible refine Below.trans ?_ (Below.mono (by with_reducible assumption) ?_)) | omega | (simp only [World.size_alloc] at *; omega) | (with_reducible refine Below.size (B := 0) ?_)))⟩

set_option maxHeartbeats 1600000 in
set_option maxRecDepth 100000 in
/-- at(e, op), e a Fault of another operation. -/
theorem at_other (s : Nat → Addr) (op0 op : ByteArray) (b : Nat) (ev : Value) (w : World) (hs : Sent s w) (h : FaultV s w op0 b ev) (ht : (op0.toList == op.toList) = false) :
    Calls Tryd.prog 28 #[ev, .string op] w fun e w' => e = .returned (.int .i64 (-1)) ∧ Below w.heap.size w w' := by
  obtain ⟨f, rfl, hf⟩ := h
  have hn : (!op0.toList == op.toList) = true := by rw [ht]; rfl
  have hlt := lt_of_block hf
  have F := Lib.hid hf; clear hf
  go_enter Tryd.func28, Tryd.ntmps28
  go_wp2_with fail
  have hs5 : Sent s (w.alloc (.cells #[.pointer none] 66)) := hs.below (B := w.heap.size) (by (repeat' (first | (with_reducible exact Below.refl _ _) | (with_reducible refine below_drewN ?_ _) | (with_reducible refine Below.drew ?_) | (with_reducible refine Below.alloc ?_ ?_ _) | (with_reducible refine Below.setCell ?_ ?_ _) | (with_reducible refine Below.trans ?_ (Below.mono (by with_reducible assumption) ?_)) | omega | (simp only [World.size_alloc, World.size_setCell, World.size_drew, Go.Proofs.YtcahidhcnhgbeaaDoor.World.size_drewN] at *; omega) | (with_reducible refine Below.size (B := 0) ?_)))) (Nat.le_refl _)
  refine (as_fault ⟨f, 0, none⟩ ⟨w.heap.size, 0, none⟩ (.pointer none) _ hs5.etype (by simp) (by simp)).mono ?_
  rintro e w7 ⟨rfl, w6, hb6, rfl⟩
  have k6 : Hid (Below w.heap.size w w6) := Lib.hid (by (repeat' (first | (with_reducible exact Below.refl _ _) | (with_reducible refine below_drewN ?_ _) | (with_reducible refine Below.drew ?_) | (with_reducible refine Below.alloc ?_ ?_ _) | (with_reducible refine Below.setCell ?_ ?_ _) | (with_reducible refine Below.trans ?_ (Below.mono (by with_reducible assumption) ?_)) | omega | (simp only [World.size_alloc] at *; omega) | (with_reducible refine Below.size (B := 0) ?_))))
  have y6 : w6.cell? ⟨w.heap.size, 0, none⟩ = some (.pointer none) := (hb6.cell (p := ⟨w.heap.size, 0, none⟩) (by simp)).trans (by simp)
  have hf6 : w6.heap[f]? = some (.cells (faultRow s op0 b) 70 (0, 0)) := (k6.out.block f hlt).trans F.out
  have p0 : w6.cell? ⟨f, 0, none⟩ = some (.string op0) := cell_of_heap hf6 0
  have p1 : w6.cell? ⟨f, 1, none⟩ = some (.int .i64 (b : Int)) := cell_of_heap hf6 1
  have hne : ¬ (w.heap.size = f) := by omega
  have hne' : ¬ (f = w.heap.size) := by omega
  have hz6 := k6.out.size
  have hs6 : Sent s w6 := hs.below k6.out (Nat.le_refl _)
  have hg := hs6.cell 1 (by omega)
  simp only [gnum, List.getD_cons_zero, List.getD_cons_succ] at hg
  have hgl : 1 < w.heap.size := lt_of_cell (hs.cell 1 (by omega))
  have hgn : ¬ (w.heap.size = 1) := by omega
  have hgn' : ¬ (1 = w.heap.size) := by omega
  have hf7 : (w6.setCell ⟨w.heap.size, 0, none⟩ (.pointer (some ⟨f, 0, none⟩))).heap[f]? = some (.cells (faultRow s op0 b) 70 (0, 0)) := (Below.heap_setCell _ _ _ _ hne').trans hf6
  have HS7 : Hid (Sent s (w6.setCell ⟨w.heap.size, 0, none⟩ (.pointer (some ⟨f, 0, none⟩)))) := Lib.hid (hs.below (B := w.heap.size) (k6.out.setCell (Nat.le_refl _) _) (Nat.le_refl _))
  have F7 := Lib.hid hf7; clear hf7 hf6 hs5 hs6
  go_wp2_with fail
  refine (is_fault s 1 1 f 0 _ HS7.out (by omega) (by omega) (cell_of_heap F7.out 2)).mono ?_
  rintro e w8 ⟨rfl, rfl⟩
  go_wp2_with fail
  go_ret
  exact ⟨rfl, by (repeat' (first | (with_reducible exact Below.refl _ _) | (with_reducible refine below_drewN ?_ _) | (with_reducible refine Below.drew ?_) | (with_reducible refine Below.alloc ?_ ?_ _) | (with_reducible refine Below.setCell ?_ ?_ _) | (with_reducible refine Below.trans ?_ (Below.mono (by with_reducible assumption) ?_)) | omega | (simp only [World.size_alloc] at *; omega) | (with_reducible refine Below.size (B := 0) ?_)))⟩

/-- What Vec does. -/
structure Q4 where
  a : Int
  b : Int
  c : Int
  d : Int
def vecS (T : ByteArray) (st : St) : Q4 × St :=
  let r1 := intS T st
  let r2 := intS T r1.2
  let r3 := intS T r2.2
  let r4 := intS T r3.2
  (if r4.2.bad.isSome then ⟨0, 0, 0, 0⟩ else ⟨r1.1.getD 0, r2.1.getD 0, r3.1.getD 0, r4.1.getD 0⟩, r4.2)

/-- The states of the four reads, each under a name. -/
structure VecRun (T : ByteArray) (st st1 st2 st3 st4 : St) (n1 n2 n3 n4 : Int) : Prop where
  s1 : (intS T st).2 = st1
  s2 : (intS T st1).2 = st2
  s3 : (intS T st2).2 = st3
  s4 : (intS T st3).2 = st4
  n1 : (intS T st).1.getD 0 = n1
  n2 : (intS T st1).1.getD 0 = n2
  n3 : (intS T st2).1.getD 0 = n3
  n4 : (intS T st3).1.getD 0 = n4
theorem VecRun.all (T : ByteArray) (st : St) : ∃ st1 st2 st3 st4 n1 n2 n3 n4, VecRun T st st1 st2 st3 st4 n1 n2 n3 n4 ∧ vecS T st = (if st4.bad.isSome then ⟨0, 0, 0, 0⟩ else ⟨n1, n2, n3, n4⟩, st4) :=
  ⟨_, _, _, _, _, _, _, _, ⟨rfl, rfl, rfl, rfl, rfl, rfl, rfl, rfl⟩, rfl⟩

theorem int_n (s : Nat → Addr) (q f : Nat) (T : ByteArray) (st st1 : St) (n : Int) (w : World) (hs : SentB s q w) (hT : T.size ≤ 9223372036854775807) (h : InAt s w q f T st) (h1 : (intS T st).2 = st1) (h2 : (intS T st).1.getD 0 = n) :
    Calls Tryd.prog 19 #[.pointer (some ⟨q, 0, none⟩)] w fun e w' => e = .returned (.int .i64 n) ∧ InPost s w q f T st1 w' := by
  have := int_c s q f T st w hs hT h
  rwa [h1, h2] at this

/-- Between the reads of a vector: the reader, the block of the result and that of the vector. -/
structure VInv (s : Nat → Addr) (w : World) (q f : Nat) (T : ByteArray) (W : World) (f' : Nat) (st : St) (a b c d : Int) : Prop where
  inn : InAt s W q f' T st
  new : f' = f ∨ w.heap.size + 2 ≤ f'
  chg : Chg q q w W
  old : q < w.heap.size ∧ f < w.heap.size
  res : W.heap[w.heap.size]? = some (.cells #[.int .i64 0, .int .i64 0, .int .i64 0, .int .i64 0] 29 (0, 0))
  vec : W.heap[w.heap.size + 1]? = some (.cells #[.int .i64 a, .int .i64 b, .int .i64 c, .int .i64 d] 29 (0, 0))
theorem VInv.start {s : Nat → Addr} {w : World} {q f : Nat} {T : ByteArray} {st : St} (h : InAt s w q f T st) :
    VInv s w q f T ((w.alloc (.cells #[.int .i64 0, .int .i64 0, .int .i64 0, .int .i64 0] 29)).alloc (.cells #[.int .i64 0, .int .i64 0, .int .i64 0, .int .i64 0] 29)) f st 0 0 0 0 := by
  have hn := heap_alloc_new (w.alloc (.cells #[.int .i64 0, .int .i64 0, .int .i64 0, .int .i64 0] 29)) (.cells #[.int .i64 0, .int .i64 0, .int .i64 0, .int .i64 0] 29)
  rw [World.size_alloc] at hn
  exact ⟨(h.alloc _).alloc _, .inl rfl, ((Chg.refl q q w).alloc _).alloc _, ⟨h.lt.1, h.lt.2.2⟩, (Below.heap_alloc _ _ _ (by simp)).trans (heap_alloc_new w _), hn⟩
theorem VInv.call {s : Nat → Addr} {w W W' : World} {q f f' f2 : Nat} {T : ByteArray} {st st' : St} {a b c d : Int} (h : VInv s w q f T W f' st a b c d) (h1 : InAt s W' q f2 T st') (h2 : Chg q q W W') (h3 : f2 = f' ∨ W.heap.size ≤ f2) : VInv s w q f T W' f2 st' a b c d := by
  have hV := lt_of_block h.vec
  have ho := h.old
  exact ⟨h1, by have := h.new; omega, h.chg.trans h2 (.inl rfl), ho, h2.row h.res (by omega) (by omega), h2.row h.vec (by omega) (by omega)⟩
theorem VInv.far {s : Nat → Addr} {w W : World} {q f f' i : Nat} {T : ByteArray} {st : St} {a b c d x : Int} (h : VInv s w q f T W f' st a b c d) : InAt s (W.setCell ⟨w.heap.size + 1, i, none⟩ (.int .i64 x)) q f' T st ∧ Chg q q w (W.setCell ⟨w.heap.size + 1, i, none⟩ (.int .i64 x)) ∧
    (W.setCell ⟨w.heap.size + 1, i, none⟩ (.int .i64 x)).heap[w.heap.size]? = some (.cells #[.int .i64 0, .int .i64 0, .int .i64 0, .int .i64 0] 29 (0, 0)) := by
  have ho := h.old
  have hn := h.new
  exact ⟨h.inn.same (Below.heap_setCell _ _ _ _ (by simp; omega)) (Below.heap_setCell _ _ _ _ (by simp; omega)), h.chg.setCell (.inr (.inr (by simp))) _, (Below.heap_setCell _ _ _ _ (by simp)).trans h.res⟩
theorem VInv.set0 {s : Nat → Addr} {w W : World} {q f f' : Nat} {T : ByteArray} {st : St} {a b c d x : Int} (h : VInv s w q f T W f' st a b c d) : VInv s w q f T (W.setCell ⟨w.heap.size + 1, 0, none⟩ (.int .i64 x)) f' st x b c d :=
  ⟨h.far.1, h.new, h.far.2.1, h.old, h.far.2.2, four_set0 h.vec⟩
theorem VInv.set1 {s : Nat → Addr} {w W : World} {q f f' : Nat} {T : ByteArray} {st : St} {a b c d x : Int} (h : VInv s w q f T W f' st a b c d) : VInv s w q f T (W.setCell ⟨w.heap.size + 1, 1, none⟩ (.int .i64 x)) f' st a x c d :=
  ⟨h.far.1, h.new, h.far.2.1, h.old, h.far.2.2, four_set1 h.vec⟩
theorem VInv.set2 {s : Nat → Addr} {w W : World} {q f f' : Nat} {T : ByteArray} {st : St} {a b c d x : Int} (h : VInv s w q f T W f' st a b c d) : VInv s w q f T (W.setCell ⟨w.heap.size + 1, 2, none⟩ (.int .i64 x)) f' st a b x d :=
  ⟨h.far.1, h.new, h.far.2.1, h.old, h.far.2.2, four_set2 h.vec⟩
theorem VInv.set3 {s : Nat → Addr} {w W : World} {q f f' : Nat} {T : ByteArray} {st : St} {a b c d x : Int} (h : VInv s w q f T W f' st a b c d) : VInv s w q f T (W.setCell ⟨w.heap.size + 1, 3, none⟩ (.int .i64 x)) f' st a b c x :=
  ⟨h.far.1, h.new, h.far.2.1, h.old, h.far.2.2, four_set3 h.vec⟩
theorem VInv.cellV {s : Nat → Addr} {w W : World} {q f f' : Nat} {T : ByteArray} {st : St} {a b c d : Int} (h : VInv s w q f T W f' st a b c d) :
    W.cell? ⟨w.heap.size + 1, 0, none⟩ = some (.int .i64 a) ∧ W.cell? ⟨w.heap.size + 1, 1, none⟩ = some (.int .i64 b) ∧ W.cell? ⟨w.heap.size + 1, 2, none⟩ = some (.int .i64 c) ∧ W.cell? ⟨w.heap.size + 1, 3, none⟩ = some (.int .i64 d) ∧ (∀ i, W.frozen? ⟨w.heap.size + 1, i, none⟩ = false) ∧ w.heap.size + 1 < W.heap.size :=
  ⟨cell_of_heap h.vec 0, cell_of_heap h.vec 1, cell_of_heap h.vec 2, cell_of_heap h.vec 3, fun i => frozen_of_heap h.vec i, lt_of_block h.vec⟩
theorem VInv.cellR {s : Nat → Addr} {w W : World} {q f f' : Nat} {T : ByteArray} {st : St} {a b c d : Int} (h : VInv s w q f T W f' st a b c d) :
    W.cell? ⟨w.heap.size, 0, none⟩ = some (.int .i64 0) ∧ W.cell? ⟨w.heap.size, 1, none⟩ = some (.int .i64 0) ∧ W.cell? ⟨w.heap.size, 2, none⟩ = some (.int .i64 0) ∧ W.cell? ⟨w.heap.size, 3, none⟩ = some (.int .i64 0) ∧ (∀ i, W.frozen? ⟨w.heap.size, i, none⟩ = false) :=
  ⟨cell_of_heap h.res 0, cell_of_heap h.res 1, cell_of_heap h.res 2, cell_of_heap h.res 3, fun i => frozen_of_heap h.res i⟩
theorem VInv.below {s : Nat → Addr} {w W W' : World} {q f f' : Nat} {T : ByteArray} {st : St} {a b c d : Int} (h : VInv s w q f T W f' st a b c d) (hb : Below W.heap.size W W') : VInv s w q f T W' f' st a b c d :=
  ⟨h.inn.below hb h.inn.lt.1 h.inn.lt.2.2, h.new, h.chg.trans (Chg.of_below hb) (.inl rfl), h.old, (hb.block _ (lt_of_block h.res)).trans h.res, (hb.block _ (lt_of_block h.vec)).trans h.vec⟩
theorem VInv.fin {s : Nat → Addr} {w W : World} {q f f' : Nat} {T : ByteArray} {st : St} {a b c d x0 x1 x2 x3 : Int} (h : VInv s w q f T W f' st a b c d) :
    InPost s w q f T st ((((W.setCell ⟨w.heap.size, 0, none⟩ (.int .i64 x0)).setCell ⟨w.heap.size, 1, none⟩ (.int .i64 x1)).setCell ⟨w.heap.size, 2, none⟩ (.int .i64 x2)).setCell ⟨w.heap.size, 3, none⟩ (.int .i64 x3)) := by
  have ho := h.old
  have hn := h.new
  refine ⟨f', ?_, (((h.chg.setCell (.inr (.inr (by simp))) _).setCell (.inr (.inr (by simp))) _).setCell (.inr (.inr (by simp))) _).setCell (.inr (.inr (by simp))) _, by omega⟩
  refine h.inn.same ?_ ?_
  · rw [Below.heap_setCell _ _ _ _ (by simp; omega), Below.heap_setCell _ _ _ _ (by simp; omega), Below.heap_setCell _ _ _ _ (by simp; omega), Below.heap_setCell _ _ _ _ (by simp; omega)]
  · rw [Below.heap_setCell _ _ _ _ (by simp; omega), Below.heap_setCell _ _ _ _ (by simp; omega), Below.heap_setCell _ _ _ _ (by simp; omega), Below.heap_setCell _ _ _ _ (by simp; omega)]
theorem VInv.sent {s : Nat → Addr} {w W : World} {q f f' : Nat} {T : ByteArray} {st : St} {a b c d : Int} (h : VInv s w q f T W f' st a b c d) (hs : SentB s q w) : SentB s q W := hs.chg h.chg (Nat.le_refl _) (Nat.le_refl _)

set_option maxHeartbeats 6400000 in
set_option maxRecDepth 100000 in
theorem vec_run (s : Nat → Addr) (q f : Nat) (T : ByteArray) (st st1 st2 st3 st4 : St) (n1 n2 n3 n4 : Int) (R : VecRun T st st1 st2 st3 st4 n1 n2 n3 n4) (X : Q4) (HX : Hid (X = if st4.bad.isSome then ⟨0, 0, 0, 0⟩ else ⟨n1, n2, n3, n4⟩)) (w : World) (hs : SentB s q w) (hT : T.size ≤ 9223372036854775807) (h : InAt s w q f T st) :
    Calls Tryd.prog 23 #[.pointer (some ⟨q, 0, none⟩)] w fun e w' => e = .returned (.agg #[.int .i64 X.a, .int .i64 X.b, .int .i64 X.c, .int .i64 X.d]) ∧ InPost s w q f T st4 w' := by
  have hlt := h.lt
  have HS := Lib.hid hs; clear hs
  have I0 := VInv.start h
  clear h
  go_enter Tryd.func23, Tryd.ntmps23
  go_wp2_with fail
  refine wp_loop_rounds 5 ?_
  rw [rounds_succ]
  go_wp2_with fail
  refine (int_n s q _ T _ st1 n1 _ (I0.sent HS.out) hT I0.inn R.s1 R.n1).mono ?_
  rintro e w1 ⟨rfl, f1, i1, g1, q1⟩
  have I1 := I0.call i1 g1 q1
  clear I0 i1 g1 q1
  obtain ⟨v0, v1, v2, v3, vf, vl⟩ := I1.cellV
  go_wp2_with fail
  rw [rounds_succ]
  go_wp2_with fail
  clear v0 v1 v2 v3 vf
  have J1 := I1.set0 (x := n1)
  clear I1
  refine (int_n s q _ T _ st2 n2 _ (J1.sent HS.out) hT J1.inn R.s2 R.n2).mono ?_
  rintro e w2 ⟨rfl, f2, i2, g2, q2⟩
  have I2 := J1.call i2 g2 q2
  clear J1 i2 g2 q2 vl
  obtain ⟨v0, v1, v2, v3, vf, vl⟩ := I2.cellV
  go_wp2_with fail
  rw [rounds_succ]
  go_wp2_with fail
  clear v0 v1 v2 v3 vf
  have J2 := I2.set1 (x := n2)
  clear I2
  refine (int_n s q _ T _ st3 n3 _ (J2.sent HS.out) hT J2.inn R.s3 R.n3).mono ?_
  rintro e w3 ⟨rfl, f3, i3, g3, q3⟩
  have I3 := J2.call i3 g3 q3
  clear J2 i3 g3 q3 vl
  obtain ⟨v0, v1, v2, v3, vf, vl⟩ := I3.cellV
  go_wp2_with fail
  rw [rounds_succ]
  go_wp2_with fail
  clear v0 v1 v2 v3 vf
  have J3 := I3.set2 (x := n3)
  clear I3
  refine (int_n s q _ T _ st4 n4 _ (J3.sent HS.out) hT J3.inn R.s4 R.n4).mono ?_
  rintro e w4 ⟨rfl, f4, i4, g4, q4⟩
  have I4 := J3.call i4 g4 q4
  clear J3 i4 g4 q4 vl
  obtain ⟨v0, v1, v2, v3, vf, vl⟩ := I4.cellV
  go_wp2_with fail
  rw [rounds_succ]
  go_wp2_with fail
  clear v0 v1 v2 v3 vf
  have J4 := I4.set3 (x := n4)
  clear I4
  cases hb : st4.bad with
  | none =>
    refine (err_none s q _ T st4 _ hb J4.inn).mono ?_
    rintro e w5 ⟨rfl, hb5⟩
    have J5 := J4.below hb5
    clear J4 hb5
    obtain ⟨v0, v1, v2, v3, vf, vl⟩ := J5.cellV
    obtain ⟨r0, r1, r2, r3, rf⟩ := J5.cellR
    have HJ := Lib.hid J5; clear J5
    have Hb := Lib.hid hb; clear hb
    go_wp2_with fail
    have hx : X = ⟨n1, n2, n3, n4⟩ := by rw [HX.out, Hb.out]; rfl
    subst hx
    exact bodyPost_ret (v := .agg #[.int .i64 n1, .int .i64 n2, .int .i64 n3, .int .i64 n4]) (by simp [results, Tryd.results23, go_sem, r0, r1, r2, r3]) rfl ⟨rfl, HJ.out.fin⟩
  | some b =>
    refine (err_some s q _ b T st4 _ (J4.sent HS.out).sent hb J4.inn).mono ?_
    rintro e w5 ⟨⟨ev, rfl, g, rfl, hg⟩, hb5⟩
    have J5 := J4.below hb5
    clear J4 hb5 hg
    obtain ⟨v0, v1, v2, v3, vf, vl⟩ := J5.cellV
    obtain ⟨r0, r1, r2, r3, rf⟩ := J5.cellR
    have HJ := Lib.hid J5; clear J5
    have Hb := Lib.hid hb; clear hb
    go_wp2_with fail
    have hx : X = ⟨0, 0, 0, 0⟩ := by rw [HX.out, Hb.out]; rfl
    subst hx
    exact bodyPost_ret (v := .agg #[.int .i64 0, .int .i64 0, .int .i64 0, .int .i64 0]) (by simp [results, Tryd.results23, go_sem, r0, r1, r2, r3]) rfl ⟨rfl, HJ.out.fin⟩

theorem vec_c (s : Nat → Addr) (q f : Nat) (T : ByteArray) (st : St) (w : World) (hs : SentB s q w) (hT : T.size ≤ 9223372036854775807) (h : InAt s w q f T st) :
    Calls Tryd.prog 23 #[.pointer (some ⟨q, 0, none⟩)] w fun e w' => e = .returned (.agg #[.int .i64 (vecS T st).1.a, .int .i64 (vecS T st).1.b, .int .i64 (vecS T st).1.c, .int .i64 (vecS T st).1.d]) ∧ InPost s w q f T (vecS T st).2 w' := by
  obtain ⟨st1, st2, st3, st4, n1, n2, n3, n4, R, hV⟩ := VecRun.all T st
  have h2 : (vecS T st).2 = st4 := by rw [hV]
  rw [h2]
  exact vec_run s q f T st st1 st2 st3 st4 n1 n2 n3 n4 R _ (Lib.hid (by rw [hV])) w hs hT h
end Go.Proofs.YtcahidhcnhgbeaaDoor
