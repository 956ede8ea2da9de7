/- A slice of structs that came in, as a list; a struct in a block of its own. No conditions. -/
import Derived.Test.YtgioinjcgeepoaaDoorChg
namespace Go.Proofs.YtgioinjcgeepoaaDoor
open Go Go.RowKit

structure PActD where
  kind : Int
  who : Int
  other : Int
  amt : Int
def GoodPAct (x : PActD) : Prop := (-9223372036854775808 ≤ x.kind ∧ x.kind ≤ 9223372036854775807) ∧ (-9223372036854775808 ≤ x.who ∧ x.who ≤ 9223372036854775807) ∧ (-9223372036854775808 ≤ x.other ∧ x.other ≤ 9223372036854775807) ∧ (-9223372036854775808 ≤ x.amt ∧ x.amt ≤ 9223372036854775807)
theorem block_addPAct (a : Addr) (n : Nat) : (a.add n).block = a.block := by unfold Addr.add; split <;> rfl
/-- The slice reads as a list; its cells lie below block B. -/
def PActRow (w : World) (B : Nat) (A : Option Addr) (xs : List PActD) : Prop :=
  0 < xs.length → ∃ ad, A = some ad ∧ ad.block < B ∧ ∀ i x, xs[i]? = some x → w.cell? (ad.add (i * 4)) = some (.int .i64 x.kind) ∧ w.cell? ⟨(ad.add (i * 4)).block, (ad.add (i * 4)).off + 1, none⟩ = some (.int .i64 x.who) ∧ w.cell? ⟨(ad.add (i * 4)).block, (ad.add (i * 4)).off + 2, none⟩ = some (.int .i64 x.other) ∧ w.cell? ⟨(ad.add (i * 4)).block, (ad.add (i * 4)).off + 3, none⟩ = some (.int .i64 x.amt)
theorem PActRow.cells {w W : World} {B : Nat} {A : Option Addr} {xs : List PActD} (h : PActRow w B A xs) (hb : Below B w W) {i : Nat} {x : PActD} (hi : xs[i]? = some x) : ∃ ad, A = some ad ∧ W.cell? (ad.add (i * 4)) = some (.int .i64 x.kind) ∧ W.cell? ⟨(ad.add (i * 4)).block, (ad.add (i * 4)).off + 1, none⟩ = some (.int .i64 x.who) ∧ W.cell? ⟨(ad.add (i * 4)).block, (ad.add (i * 4)).off + 2, none⟩ = some (.int .i64 x.other) ∧ W.cell? ⟨(ad.add (i * 4)).block, (ad.add (i * 4)).off + 3, none⟩ = some (.int .i64 x.amt) := by
  obtain ⟨ad, e, hl, hc⟩ := h (Nat.lt_of_le_of_lt (Nat.zero_le _) (List.getElem?_eq_some_iff.1 hi).1)
  obtain ⟨h0, h1, h2, h3⟩ := hc i x hi
  have hp : (ad.add (i * 4)).block < B := by rw [block_addPAct]; exact hl
  exact ⟨ad, e, (hb.cell hp).trans h0, (hb.cell (p := ⟨(ad.add (i * 4)).block, _, none⟩) hp).trans h1, (hb.cell (p := ⟨(ad.add (i * 4)).block, _, none⟩) hp).trans h2, (hb.cell (p := ⟨(ad.add (i * 4)).block, _, none⟩) hp).trans h3⟩
/-- One in a block of its own. -/
def PActBlk (w : World) (g : Nat) (x : PActD) : Prop := w.heap[g]? = some (.cells #[.int .i64 x.kind, .int .i64 x.who, .int .i64 x.other, .int .i64 x.amt] 27 (0, 0))
theorem PActBlk.new (w : World) (x : PActD) : PActBlk (w.alloc (.cells #[.int .i64 x.kind, .int .i64 x.who, .int .i64 x.other, .int .i64 x.amt] 27)) w.heap.size x := heap_alloc_new w _
theorem PActBlk.cells {w : World} {g : Nat} {x : PActD} (h : PActBlk w g x) : w.cell? ⟨g, 0, none⟩ = some (.int .i64 x.kind) ∧ w.cell? ⟨g, 1, none⟩ = some (.int .i64 x.who) ∧ w.cell? ⟨g, 2, none⟩ = some (.int .i64 x.other) ∧ w.cell? ⟨g, 3, none⟩ = some (.int .i64 x.amt) ∧ g < w.heap.size :=
  ⟨cell_of_heap h 0, cell_of_heap h 1, cell_of_heap h 2, cell_of_heap h 3, lt_of_block h⟩
theorem PActBlk.kept {w w' : World} {g p q : Nat} {x : PActD} (h : PActBlk w g x) (hc : Chg p q w w') (h1 : g ≠ p) (h2 : g ≠ q) : PActBlk w' g x := hc.row h h1 h2
theorem PActBlk.below {w w' : World} {g B : Nat} {x : PActD} (h : PActBlk w g x) (hb : Below B w w') (hg : g < B) : PActBlk w' g x := (hb.block g hg).trans h
theorem PActBlk.on {w w' : World} {g : Nat} {x : PActD} (hb : Below w.heap.size w w') (h : PActBlk w g x) : PActBlk w' g x := h.below hb (lt_of_block h)
theorem PActBlk.drewN {w : World} {g : Nat} {x : PActD} (h : PActBlk w g x) (n : Nat) : PActBlk (w.drewN n) g x := h
theorem PActBlk.drew {w : World} {g : Nat} {x : PActD} (h : PActBlk w g x) : PActBlk w.drew g x := h
theorem PActBlk.alloc {w : World} {g : Nat} {x : PActD} (h : PActBlk w g x) (o : Obj) : PActBlk (w.alloc o) g x := (Below.heap_alloc w o g (lt_of_block h)).trans h
end Go.Proofs.YtgioinjcgeepoaaDoor
