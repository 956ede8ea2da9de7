/- The program's book of envelopes by contracts: Where, Raise. Conditions: the book lies in memory as its maps have it; the sentinels lie where the program's text lays them. -/
import Derived.Test.YtfikkjdkgigikaaDoorAlB
import Derived.Deep.RegionHeld3
import Derived.Deep.QuietTactic
import Derived.StillTailTactics
import Derived.LoopTactic
import Derived.Lib.Hide
namespace Go.Proofs.YtfikkjdkgigikaaDoor
open Go Go.RowKit Go.Maps

/-- A task's seat. -/
def seatA (G : AG) (t : Tk) : SeatR := ((tkA G t).map fun x => (⟨x.set, x.pos, x.need⟩ : SeatR)).getD seat0
/-- A block that a seat's variable begins with. -/
abbrev seatO : Obj := .cells #[.int .i64 0, .int .i64 0, .int .i64 0, .int .i64 0, .int .i64 0, .int .i64 0] 86
theorem seat_new {W w' : World} (h : Below (W.alloc seatO).heap.size (W.alloc seatO) w') : w'.heap[W.heap.size]? = some seatO := (h.block _ (by simp)).trans (heap_alloc_new W _)
theorem seat_cells {W : World} {g : Nat} (h : W.heap[g]? = some seatO) : W.cell? ⟨g, 0, none⟩ = some (.int .i64 0) ∧ W.cell? ⟨g, 1, none⟩ = some (.int .i64 0) ∧ W.cell? ⟨g, 2, none⟩ = some (.int .i64 0) ∧ W.cell? ⟨g, 3, none⟩ = some (.int .i64 0) ∧ W.cell? ⟨g, 4, none⟩ = some (.int .i64 0) ∧ W.cell? ⟨g, 5, none⟩ = some (.int .i64 0) ∧ ∀ j, W.frozen? ⟨g, j, none⟩ = false :=
  ⟨cell_of_heap h 0, cell_of_heap h 1, cell_of_heap h 2, cell_of_heap h 3, cell_of_heap h 4, cell_of_heap h 5, fun j => frozen_of_heap h j⟩
section
variable {w : World} {P : Nat → Prop} {q b1 b2 : Nat} {T1 : List (Int × Option (Nat × Nat))} {T2 : List (Tk × SeatR)} {bl : Int → Nat} {G : AG}
theorem AlP.lk2 (h : AlP w P q b1 b2 T1 T2 bl G) {t : Tk} (ht : okT t) {x : SeatR} (hx : seatA G t = x) {b : Bool} (hb : (tkA G t).isSome = b) :
    (Instr.lookup 75 (.map (some b2)) (.agg #[.int .i64 t.job, .int .i64 t.ix]) true).run Tryd.prog w = .ok (.tuple #[.agg #[.int .i64 x.set, .int .i64 x.pos, .int .i64 x.need.a, .int .i64 x.need.b, .int .i64 x.need.c, .int .i64 x.need.d], .bool b]) w := by
  have := run_lookG_ok kitT Tryd.underlying75 (z := seat0) (Tryd.zeroSeat w) h.m2 ht
  rw [h.seats, show ((tkA G t).map fun x => (⟨x.set, x.pos, x.need⟩ : SeatR)).getD seat0 = seatA G t from rfl, hx, Option.isSome_map, hb] at this
  exact this

set_option maxRecDepth 100000 in
set_option maxHeartbeats 1600000 in
/-- Book.Where. -/
theorem awhere_c (h : AlP w P q b1 b2 T1 T2 bl G) {t : Tk} (ht : okT t) :
    Calls Tryd.prog 22 #[.pointer (some ⟨q, 0, none⟩), .agg #[.int .i64 t.job, .int .i64 t.ix]] w fun e w' => e = .returned (.tuple #[.int .i64 (seatA G t).set, .int .i64 (seatA G t).pos, .bool (tkA G t).isSome]) ∧ Below w.heap.size w w' := by
  obtain ⟨x, hx⟩ : ∃ x, seatA G t = x := ⟨_, rfl⟩
  obtain ⟨b, hb⟩ : ∃ b, (tkA G t).isSome = b := ⟨_, rfl⟩
  obtain ⟨X, hX⟩ : ∃ X, w.heap.size = X := ⟨_, rfl⟩
  have hlt := h.lt
  have HS : Hid (∀ W, Below w.heap.size w W → W.heap[X]? = some (.cells #[.int .i64 t.job, .int .i64 t.ix] 32 (0, 0)) → (W.cell? ⟨X, 0, none⟩ = some (.int .i64 t.job) ∧ W.cell? ⟨X, 1, none⟩ = some (.int .i64 t.ix) ∧
      (Instr.lookup 75 (.map (some b2)) (.agg #[.int .i64 t.job, .int .i64 t.ix]) true).run Tryd.prog W = .ok (.tuple #[.agg #[.int .i64 x.set, .int .i64 x.pos, .int .i64 x.need.a, .int .i64 x.need.b, .int .i64 x.need.c, .int .i64 x.need.d], .bool b]) W)) := Lib.hid fun W hb' hc =>
    ⟨cell_of_heap hc 0, cell_of_heap hc 1, (h.on hb').lk2 ht hx hb⟩
  have HKN : Hid (∀ W, Below w.heap.size w W → Calls Tryd.prog 37 #[.pointer (some ⟨q, 0, none⟩)] W fun e w' => e = .returned (.agg #[.map (some b1), .map (some b2)]) ∧ Below W.heap.size W w') := Lib.hid fun W hW => aknown_c q b1 b2 W (h.on hW).box
  rw [hx, hb]
  have HX := Lib.hid hX
  have hf0 := fieldB0
  have hf1 := fieldB1
  clear h ht hx hb hX
  go_enter Tryd.func22, Tryd.ntmps22
  go_wp2_with fail
  obtain ⟨W1, hW1⟩ : ∃ W1, w.alloc (.cells #[.int .i64 t.job, .int .i64 t.ix] 32) = W1 := ⟨_, rfl⟩
  have k1 : W1.heap[X]? = some (.cells #[.int .i64 t.job, .int .i64 t.ix] 32 (0, 0)) := by rw [← hW1, ← HX.out]; exact heap_alloc_new _ _
  have b1' : Below w.heap.size w W1 := by rw [← hW1]; exact (Below.refl _ _).alloc (Nat.le_refl _) _
  have hXW : X < W1.heap.size := lt_of_row k1
  have HC : Hid (∀ W, Below W1.heap.size W1 W → (W.cell? ⟨X, 0, none⟩ = some (.int .i64 t.job) ∧ W.cell? ⟨X, 1, none⟩ = some (.int .i64 t.ix) ∧ (Instr.lookup 75 (.map (some b2)) (.agg #[.int .i64 t.job, .int .i64 t.ix]) true).run Tryd.prog W = .ok (.tuple #[.agg #[.int .i64 x.set, .int .i64 x.pos, .int .i64 x.need.a, .int .i64 x.need.b, .int .i64 x.need.c, .int .i64 x.need.d], .bool b]) W)) := Lib.hid fun W hb' => HS.out W (b1'.trans (hb'.mono b1'.size)) ((hb'.block X hXW).trans k1)
  have HK1 : Hid (∀ W, Below W1.heap.size W1 W → Calls Tryd.prog 37 #[.pointer (some ⟨q, 0, none⟩)] W fun e w' => e = .returned (.agg #[.map (some b1), .map (some b2)]) ∧ Below W.heap.size W w') := Lib.hid fun W hW => HKN.out W (b1'.trans (hW.mono b1'.size))
  have HB1 := Lib.hid b1'
  have HXL := Lib.hid hXW
  rw [hW1, HX.out]
  clear hW1 k1 b1' hXW HS HKN
  go_region_held3 (fun W => W.cell? ⟨X, 0, none⟩ = some (.int .i64 t.job) ∧ W.cell? ⟨X, 1, none⟩ = some (.int .i64 t.ix) ∧ (Instr.lookup 75 (.map (some b2)) (.agg #[.int .i64 t.job, .int .i64 t.ix]) true).run Tryd.prog W = .ok (.tuple #[.agg #[.int .i64 x.set, .int .i64 x.pos, .int .i64 x.need.a, .int .i64 x.need.b, .int .i64 x.need.c, .int .i64 x.need.d], .bool b]) W)
    (first | exact HC.out _ (by (repeat' (first | (with_reducible exact Below.refl _ _) | (with_reducible refine below_drewN ?_ _) | (with_reducible refine Below.drew ?_) | (with_reducible refine Below.alloc ?_ ?_ _) | (with_reducible refine Below.setCell ?_ ?_ _) | (with_reducible refine Below.trans ?_ (Below.mono (by with_reducible assumption) ?_)) | omega | (simp only [World.size_alloc, World.size_setCell, World.size_drew, Go.Proofs.YtfikkjdkgigikaaDoor.World.size_drewN] at *; omega) | (with_reducible refine Below.size (B := 0) ?_)))))
    (first
      | (go_at_call 37; (with_reducible refine (HK1.out _ (by (repeat' (first | (with_reducible exact Below.refl _ _) | (with_reducible refine below_drewN ?_ _) | (with_reducible refine Below.drew ?_) | (with_reducible refine Below.alloc ?_ ?_ _) | (with_reducible refine Below.setCell ?_ ?_ _) | (with_reducible refine Below.trans ?_ (Below.mono (by with_reducible assumption) ?_)) | omega | (simp only [World.size_alloc, World.size_setCell, World.size_drew, Go.Proofs.YtfikkjdkgigikaaDoor.World.size_drewN] at *; omega) | (with_reducible refine Below.size (B := 0) ?_))))).mono ?_); rintro e w5 ⟨rfl, b5⟩; (first | (have z5 : w5.heap[W1.heap.size]? = some seatO := seat_new (W := W1.drew) b5; obtain ⟨d0, d1, d2, d3, d4, d5, df⟩ := seat_cells z5; clear z5) | skip)))
  all_goals have hb1 := HB1.out
  all_goals go_wp2_with fail
  all_goals go_quiet (fail)
  all_goals go_wp2_with fail
  all_goals refine bodyPost_ret (v := .tuple #[.int .i64 x.set, .int .i64 x.pos, .bool b]) (by simp [results, Tryd.results22, go_sem]) rfl ?_
  all_goals exact ⟨rfl, by rw [← HX.out] at *; (repeat' (first | (with_reducible exact Below.refl _ _) | (with_reducible refine below_drewN ?_ _) | (with_reducible refine Below.drew ?_) | (with_reducible refine Below.alloc ?_ ?_ _) | (with_reducible refine Below.setCell ?_ ?_ _) | (with_reducible refine Below.trans ?_ (Below.mono (by with_reducible assumption) ?_)) | omega | (simp only [World.size_alloc, World.size_setCell, World.size_drew, Go.Proofs.YtfikkjdkgigikaaDoor.World.size_drewN] at *; omega) | (with_reducible refine Below.size (B := 0) ?_)))⟩
end
end Go.Proofs.YtfikkjdkgigikaaDoor
