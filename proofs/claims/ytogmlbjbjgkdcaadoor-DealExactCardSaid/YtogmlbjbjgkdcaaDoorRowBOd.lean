/- A slice of structs that came in, as a list; a struct in a block of its own. No conditions. -/
import Derived.Test.YtogmlbjbjgkdcaaDoorChg
import Derived.Test.YtogmlbjbjgkdcaaDoorOdM
namespace Go.Proofs.YtogmlbjbjgkdcaaDoor
open Go Go.RowKit

def GoodBOd (x : Od) : Prop := (-9223372036854775808 ≤ x.id ∧ x.id ≤ 9223372036854775807) ∧ (-9223372036854775808 ≤ x.tn ∧ x.tn ≤ 9223372036854775807) ∧ (-9223372036854775808 ≤ x.price ∧ x.price ≤ 9223372036854775807) ∧ (-9223372036854775808 ≤ x.lots ∧ x.lots ≤ 9223372036854775807) ∧ (-9223372036854775808 ≤ x.seq ∧ x.seq ≤ 9223372036854775807)
theorem block_addBOd (a : Addr) (n : Nat) : (a.add n).block = a.block := by unfold Addr.add; split <;> rfl
/-- The slice reads as a list; its cells lie below block B. -/
def BOdRow (w : World) (B : Nat) (A : Option Addr) (xs : List Od) : Prop :=
  0 < xs.length → ∃ ad, A = some ad ∧ ad.block < B ∧ ∀ i x, xs[i]? = some x → w.cell? (ad.add (i * 6)) = some (.int .i64 x.id) ∧ w.cell? ⟨(ad.add (i * 6)).block, (ad.add (i * 6)).off + 1, none⟩ = some (.int .i64 x.tn) ∧ w.cell? ⟨(ad.add (i * 6)).block, (ad.add (i * 6)).off + 2, none⟩ = some (.bool x.sell) ∧ w.cell? ⟨(ad.add (i * 6)).block, (ad.add (i * 6)).off + 3, none⟩ = some (.int .i64 x.price) ∧ w.cell? ⟨(ad.add (i * 6)).block, (ad.add (i * 6)).off + 4, none⟩ = some (.int .i64 x.lots) ∧ w.cell? ⟨(ad.add (i * 6)).block, (ad.add (i * 6)).off + 5, none⟩ = some (.int .i64 x.seq)
theorem BOdRow.cells {w W : World} {B : Nat} {A : Option Addr} {xs : List Od} (h : BOdRow w B A xs) (hb : Below B w W) {i : Nat} {x : Od} (hi : xs[i]? = some x) : ∃ ad, A = some ad ∧ W.cell? (ad.add (i * 6)) = some (.int .i64 x.id) ∧ W.cell? ⟨(ad.add (i * 6)).block, (ad.add (i * 6)).off + 1, none⟩ = some (.int .i64 x.tn) ∧ W.cell? ⟨(ad.add (i * 6)).block, (ad.add (i * 6)).off + 2, none⟩ = some (.bool x.sell) ∧ W.cell? ⟨(ad.add (i * 6)).block, (ad.add (i * 6)).off + 3, none⟩ = some (.int .i64 x.price) ∧ W.cell? ⟨(ad.add (i * 6)).block, (ad.add (i * 6)).off + 4, none⟩ = some (.int .i64 x.lots) ∧ W.cell? ⟨(ad.add (i * 6)).block, (ad.add (i * 6)).off + 5, none⟩ = some (.int .i64 x.seq) := by
  obtain ⟨ad, e, hl, hc⟩ := h (Nat.lt_of_le_of_lt (Nat.zero_le _) (List.getElem?_eq_some_iff.1 hi).1)
  obtain ⟨h0, h1, h2, h3, h4, h5⟩ := hc i x hi
  have hp : (ad.add (i * 6)).block < B := by rw [block_addBOd]; exact hl
  exact ⟨ad, e, (hb.cell hp).trans h0, (hb.cell (p := ⟨(ad.add (i * 6)).block, _, none⟩) hp).trans h1, (hb.cell (p := ⟨(ad.add (i * 6)).block, _, none⟩) hp).trans h2, (hb.cell (p := ⟨(ad.add (i * 6)).block, _, none⟩) hp).trans h3, (hb.cell (p := ⟨(ad.add (i * 6)).block, _, none⟩) hp).trans h4, (hb.cell (p := ⟨(ad.add (i * 6)).block, _, none⟩) hp).trans h5⟩
/-- One in a block of its own. -/
def BOdBlk (w : World) (g : Nat) (x : Od) : Prop := w.heap[g]? = some (.cells #[.int .i64 x.id, .int .i64 x.tn, .bool x.sell, .int .i64 x.price, .int .i64 x.lots, .int .i64 x.seq] 36 (0, 0))
theorem BOdBlk.new (w : World) (x : Od) : BOdBlk (w.alloc (.cells #[.int .i64 x.id, .int .i64 x.tn, .bool x.sell, .int .i64 x.price, .int .i64 x.lots, .int .i64 x.seq] 36)) w.heap.size x := heap_alloc_new w _
theorem BOdBlk.cells {w : World} {g : Nat} {x : Od} (h : BOdBlk w g x) : w.cell? ⟨g, 0, none⟩ = some (.int .i64 x.id) ∧ w.cell? ⟨g, 1, none⟩ = some (.int .i64 x.tn) ∧ w.cell? ⟨g, 2, none⟩ = some (.bool x.sell) ∧ w.cell? ⟨g, 3, none⟩ = some (.int .i64 x.price) ∧ w.cell? ⟨g, 4, none⟩ = some (.int .i64 x.lots) ∧ w.cell? ⟨g, 5, none⟩ = some (.int .i64 x.seq) ∧ g < w.heap.size :=
  ⟨cell_of_heap h 0, cell_of_heap h 1, cell_of_heap h 2, cell_of_heap h 3, cell_of_heap h 4, cell_of_heap h 5, lt_of_block h⟩
theorem BOdBlk.kept {w w' : World} {g p q : Nat} {x : Od} (h : BOdBlk w g x) (hc : Chg p q w w') (h1 : g ≠ p) (h2 : g ≠ q) : BOdBlk w' g x := hc.row h h1 h2
theorem BOdBlk.below {w w' : World} {g B : Nat} {x : Od} (h : BOdBlk w g x) (hb : Below B w w') (hg : g < B) : BOdBlk w' g x := (hb.block g hg).trans h
theorem BOdBlk.on {w w' : World} {g : Nat} {x : Od} (hb : Below w.heap.size w w') (h : BOdBlk w g x) : BOdBlk w' g x := h.below hb (lt_of_block h)
theorem BOdBlk.drewN {w : World} {g : Nat} {x : Od} (h : BOdBlk w g x) (n : Nat) : BOdBlk (w.drewN n) g x := h
theorem BOdBlk.drew {w : World} {g : Nat} {x : Od} (h : BOdBlk w g x) : BOdBlk w.drew g x := h
theorem BOdBlk.alloc {w : World} {g : Nat} {x : Od} (h : BOdBlk w g x) (o : Obj) : BOdBlk (w.alloc o) g x := (Below.heap_alloc w o g (lt_of_block h)).trans h
/-- An order whose numbers are numbers of 64 bits. -/
abbrev Od64 (x : Od) : Prop := GoodBOd x
end Go.Proofs.YtogmlbjbjgkdcaaDoor
