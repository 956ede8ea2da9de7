/- A slice of structs that came in, as a list; a struct in a block of its own. No conditions. -/
import Derived.Test.YtcbhilaecaccpaaDoorChg
import Derived.Test.YtcbhilaecaccpaaDoorRowBOd
namespace Go.Proofs.YtcbhilaecaccpaaDoor
open Go Go.RowKit

structure BActD where
  kind : Int
  o : Od
def GoodBAct (x : BActD) : Prop := (-9223372036854775808 ≤ x.kind ∧ x.kind ≤ 9223372036854775807) ∧ Od64 x.o
theorem block_addBAct (a : Addr) (n : Nat) : (a.add n).block = a.block := by unfold Addr.add; split <;> rfl
/-- The slice reads as a list; its cells lie below block B. -/
def BActRow (w : World) (B : Nat) (A : Option Addr) (xs : List BActD) : Prop :=
  0 < xs.length → ∃ ad, A = some ad ∧ ad.block < B ∧ ∀ i x, xs[i]? = some x → w.cell? (ad.add (i * 7)) = some (.int .i64 x.kind) ∧ w.cell? ⟨(ad.add (i * 7)).block, (ad.add (i * 7)).off + 1, none⟩ = some (.int .i64 x.o.id) ∧ w.cell? ⟨(ad.add (i * 7)).block, (ad.add (i * 7)).off + 2, none⟩ = some (.int .i64 x.o.tn) ∧ w.cell? ⟨(ad.add (i * 7)).block, (ad.add (i * 7)).off + 3, none⟩ = some (.bool x.o.sell) ∧ w.cell? ⟨(ad.add (i * 7)).block, (ad.add (i * 7)).off + 4, none⟩ = some (.int .i64 x.o.price) ∧ w.cell? ⟨(ad.add (i * 7)).block, (ad.add (i * 7)).off + 5, none⟩ = some (.int .i64 x.o.lots) ∧ w.cell? ⟨(ad.add (i * 7)).block, (ad.add (i * 7)).off + 6, none⟩ = some (.int .i64 x.o.seq)
theorem BActRow.cells {w W : World} {B : Nat} {A : Option Addr} {xs : List BActD} (h : BActRow w B A xs) (hb : Below B w W) {i : Nat} {x : BActD} (hi : xs[i]? = some x) : ∃ ad, A = some ad ∧ W.cell? (ad.add (i * 7)) = some (.int .i64 x.kind) ∧ W.cell? ⟨(ad.add (i * 7)).block, (ad.add (i * 7)).off + 1, none⟩ = some (.int .i64 x.o.id) ∧ W.cell? ⟨(ad.add (i * 7)).block, (ad.add (i * 7)).off + 2, none⟩ = some (.int .i64 x.o.tn) ∧ W.cell? ⟨(ad.add (i * 7)).block, (ad.add (i * 7)).off + 3, none⟩ = some (.bool x.o.sell) ∧ W.cell? ⟨(ad.add (i * 7)).block, (ad.add (i * 7)).off + 4, none⟩ = some (.int .i64 x.o.price) ∧ W.cell? ⟨(ad.add (i * 7)).block, (ad.add (i * 7)).off + 5, none⟩ = some (.int .i64 x.o.lots) ∧ W.cell? ⟨(ad.add (i * 7)).block, (ad.add (i * 7)).off + 6, none⟩ = some (.int .i64 x.o.seq) := by
  obtain ⟨ad, e, hl, hc⟩ := h (Nat.lt_of_le_of_lt (Nat.zero_le _) (List.getElem?_eq_some_iff.1 hi).1)
  obtain ⟨h0, h1, h2, h3, h4, h5, h6⟩ := hc i x hi
  have hp : (ad.add (i * 7)).block < B := by rw [block_addBAct]; exact hl
  exact ⟨ad, e, (hb.cell hp).trans h0, (hb.cell (p := ⟨(ad.add (i * 7)).block, _, none⟩) hp).trans h1, (hb.cell (p := ⟨(ad.add (i * 7)).block, _, none⟩) hp).trans h2, (hb.cell (p := ⟨(ad.add (i * 7)).block, _, none⟩) hp).trans h3, (hb.cell (p := ⟨(ad.add (i * 7)).block, _, none⟩) hp).trans h4, (hb.cell (p := ⟨(ad.add (i * 7)).block, _, none⟩) hp).trans h5, (hb.cell (p := ⟨(ad.add (i * 7)).block, _, none⟩) hp).trans h6⟩
/-- One in a block of its own. -/
def BActBlk (w : World) (g : Nat) (x : BActD) : Prop := w.heap[g]? = some (.cells #[.int .i64 x.kind, .int .i64 x.o.id, .int .i64 x.o.tn, .bool x.o.sell, .int .i64 x.o.price, .int .i64 x.o.lots, .int .i64 x.o.seq] 33 (0, 0))
theorem BActBlk.new (w : World) (x : BActD) : BActBlk (w.alloc (.cells #[.int .i64 x.kind, .int .i64 x.o.id, .int .i64 x.o.tn, .bool x.o.sell, .int .i64 x.o.price, .int .i64 x.o.lots, .int .i64 x.o.seq] 33)) w.heap.size x := heap_alloc_new w _
theorem BActBlk.cells {w : World} {g : Nat} {x : BActD} (h : BActBlk w g x) : w.cell? ⟨g, 0, none⟩ = some (.int .i64 x.kind) ∧ w.cell? ⟨g, 1, none⟩ = some (.int .i64 x.o.id) ∧ w.cell? ⟨g, 2, none⟩ = some (.int .i64 x.o.tn) ∧ w.cell? ⟨g, 3, none⟩ = some (.bool x.o.sell) ∧ w.cell? ⟨g, 4, none⟩ = some (.int .i64 x.o.price) ∧ w.cell? ⟨g, 5, none⟩ = some (.int .i64 x.o.lots) ∧ w.cell? ⟨g, 6, none⟩ = some (.int .i64 x.o.seq) ∧ g < w.heap.size :=
  ⟨cell_of_heap h 0, cell_of_heap h 1, cell_of_heap h 2, cell_of_heap h 3, cell_of_heap h 4, cell_of_heap h 5, cell_of_heap h 6, lt_of_block h⟩
theorem BActBlk.kept {w w' : World} {g p q : Nat} {x : BActD} (h : BActBlk w g x) (hc : Chg p q w w') (h1 : g ≠ p) (h2 : g ≠ q) : BActBlk w' g x := hc.row h h1 h2
theorem BActBlk.below {w w' : World} {g B : Nat} {x : BActD} (h : BActBlk w g x) (hb : Below B w w') (hg : g < B) : BActBlk w' g x := (hb.block g hg).trans h
theorem BActBlk.on {w w' : World} {g : Nat} {x : BActD} (hb : Below w.heap.size w w') (h : BActBlk w g x) : BActBlk w' g x := h.below hb (lt_of_block h)
theorem BActBlk.drewN {w : World} {g : Nat} {x : BActD} (h : BActBlk w g x) (n : Nat) : BActBlk (w.drewN n) g x := h
theorem BActBlk.drew {w : World} {g : Nat} {x : BActD} (h : BActBlk w g x) : BActBlk w.drew g x := h
theorem BActBlk.alloc {w : World} {g : Nat} {x : BActD} (h : BActBlk w g x) (o : Obj) : BActBlk (w.alloc o) g x := (Below.heap_alloc w o g (lt_of_block h)).trans h
end Go.Proofs.YtcbhilaecaccpaaDoor
