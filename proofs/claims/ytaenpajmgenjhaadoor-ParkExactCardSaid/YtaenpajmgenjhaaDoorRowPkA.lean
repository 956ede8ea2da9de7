/- A slice of structs that came in, as a list; a struct in a block of its own. No conditions. -/
import Derived.Test.YtaenpajmgenjhaaDoorChg
import Derived.Test.YtaenpajmgenjhaaDoorI64
namespace Go.Proofs.YtaenpajmgenjhaaDoor
open Go Go.RowKit

structure PkAD where
  kind : Int
  id : Int
  n : Int
  v : V4
def GoodPkA (x : PkAD) : Prop := (-9223372036854775808 ≤ x.kind ∧ x.kind ≤ 9223372036854775807) ∧ (-9223372036854775808 ≤ x.id ∧ x.id ≤ 9223372036854775807) ∧ (-9223372036854775808 ≤ x.n ∧ x.n ≤ 9223372036854775807) ∧ okV x.v
theorem block_addPkA (a : Addr) (n : Nat) : (a.add n).block = a.block := by unfold Addr.add; split <;> rfl
/-- The slice reads as a list; its cells lie below block B. -/
def PkARow (w : World) (B : Nat) (A : Option Addr) (xs : List PkAD) : Prop :=
  0 < xs.length → ∃ ad, A = some ad ∧ ad.block < B ∧ ∀ i x, xs[i]? = some x → w.cell? (ad.add (i * 7)) = some (.int .i64 x.kind) ∧ w.cell? ⟨(ad.add (i * 7)).block, (ad.add (i * 7)).off + 1, none⟩ = some (.int .i64 x.id) ∧ w.cell? ⟨(ad.add (i * 7)).block, (ad.add (i * 7)).off + 2, none⟩ = some (.int .i64 x.n) ∧ w.cell? ⟨(ad.add (i * 7)).block, (ad.add (i * 7)).off + 3, none⟩ = some (.int .i64 x.v.a) ∧ w.cell? ⟨(ad.add (i * 7)).block, (ad.add (i * 7)).off + 4, none⟩ = some (.int .i64 x.v.b) ∧ w.cell? ⟨(ad.add (i * 7)).block, (ad.add (i * 7)).off + 5, none⟩ = some (.int .i64 x.v.c) ∧ w.cell? ⟨(ad.add (i * 7)).block, (ad.add (i * 7)).off + 6, none⟩ = some (.int .i64 x.v.d)
theorem PkARow.cells {w W : World} {B : Nat} {A : Option Addr} {xs : List PkAD} (h : PkARow w B A xs) (hb : Below B w W) {i : Nat} {x : PkAD} (hi : xs[i]? = some x) : ∃ ad, A = some ad ∧ W.cell? (ad.add (i * 7)) = some (.int .i64 x.kind) ∧ W.cell? ⟨(ad.add (i * 7)).block, (ad.add (i * 7)).off + 1, none⟩ = some (.int .i64 x.id) ∧ W.cell? ⟨(ad.add (i * 7)).block, (ad.add (i * 7)).off + 2, none⟩ = some (.int .i64 x.n) ∧ W.cell? ⟨(ad.add (i * 7)).block, (ad.add (i * 7)).off + 3, none⟩ = some (.int .i64 x.v.a) ∧ W.cell? ⟨(ad.add (i * 7)).block, (ad.add (i * 7)).off + 4, none⟩ = some (.int .i64 x.v.b) ∧ W.cell? ⟨(ad.add (i * 7)).block, (ad.add (i * 7)).off + 5, none⟩ = some (.int .i64 x.v.c) ∧ W.cell? ⟨(ad.add (i * 7)).block, (ad.add (i * 7)).off + 6, none⟩ = some (.int .i64 x.v.d) := by
  obtain ⟨ad, e, hl, hc⟩ := h (Nat.lt_of_le_of_lt (Nat.zero_le _) (List.getElem?_eq_some_iff.1 hi).1)
  obtain ⟨h0, h1, h2, h3, h4, h5, h6⟩ := hc i x hi
  have hp : (ad.add (i * 7)).block < B := by rw [block_addPkA]; exact hl
  exact ⟨ad, e, (hb.cell hp).trans h0, (hb.cell (p := ⟨(ad.add (i * 7)).block, _, none⟩) hp).trans h1, (hb.cell (p := ⟨(ad.add (i * 7)).block, _, none⟩) hp).trans h2, (hb.cell (p := ⟨(ad.add (i * 7)).block, _, none⟩) hp).trans h3, (hb.cell (p := ⟨(ad.add (i * 7)).block, _, none⟩) hp).trans h4, (hb.cell (p := ⟨(ad.add (i * 7)).block, _, none⟩) hp).trans h5, (hb.cell (p := ⟨(ad.add (i * 7)).block, _, none⟩) hp).trans h6⟩
/-- One in a block of its own. -/
def PkABlk (w : World) (g : Nat) (x : PkAD) : Prop := w.heap[g]? = some (.cells #[.int .i64 x.kind, .int .i64 x.id, .int .i64 x.n, .int .i64 x.v.a, .int .i64 x.v.b, .int .i64 x.v.c, .int .i64 x.v.d] 34 (0, 0))
theorem PkABlk.new (w : World) (x : PkAD) : PkABlk (w.alloc (.cells #[.int .i64 x.kind, .int .i64 x.id, .int .i64 x.n, .int .i64 x.v.a, .int .i64 x.v.b, .int .i64 x.v.c, .int .i64 x.v.d] 34)) w.heap.size x := heap_alloc_new w _
theorem PkABlk.cells {w : World} {g : Nat} {x : PkAD} (h : PkABlk w g x) : w.cell? ⟨g, 0, none⟩ = some (.int .i64 x.kind) ∧ w.cell? ⟨g, 1, none⟩ = some (.int .i64 x.id) ∧ w.cell? ⟨g, 2, none⟩ = some (.int .i64 x.n) ∧ w.cell? ⟨g, 3, none⟩ = some (.int .i64 x.v.a) ∧ w.cell? ⟨g, 4, none⟩ = some (.int .i64 x.v.b) ∧ w.cell? ⟨g, 5, none⟩ = some (.int .i64 x.v.c) ∧ w.cell? ⟨g, 6, none⟩ = some (.int .i64 x.v.d) ∧ g < w.heap.size :=
  ⟨cell_of_heap h 0, cell_of_heap h 1, cell_of_heap h 2, cell_of_heap h 3, cell_of_heap h 4, cell_of_heap h 5, cell_of_heap h 6, lt_of_block h⟩
theorem PkABlk.kept {w w' : World} {g p q : Nat} {x : PkAD} (h : PkABlk w g x) (hc : Chg p q w w') (h1 : g ≠ p) (h2 : g ≠ q) : PkABlk w' g x := hc.row h h1 h2
theorem PkABlk.below {w w' : World} {g B : Nat} {x : PkAD} (h : PkABlk w g x) (hb : Below B w w') (hg : g < B) : PkABlk w' g x := (hb.block g hg).trans h
theorem PkABlk.on {w w' : World} {g : Nat} {x : PkAD} (hb : Below w.heap.size w w') (h : PkABlk w g x) : PkABlk w' g x := h.below hb (lt_of_block h)
theorem PkABlk.drewN {w : World} {g : Nat} {x : PkAD} (h : PkABlk w g x) (n : Nat) : PkABlk (w.drewN n) g x := h
theorem PkABlk.drew {w : World} {g : Nat} {x : PkAD} (h : PkABlk w g x) : PkABlk w.drew g x := h
theorem PkABlk.alloc {w : World} {g : Nat} {x : PkAD} (h : PkABlk w g x) (o : Obj) : PkABlk (w.alloc o) g x := (Below.heap_alloc w o g (lt_of_block h)).trans h
end Go.Proofs.YtaenpajmgenjhaaDoor
