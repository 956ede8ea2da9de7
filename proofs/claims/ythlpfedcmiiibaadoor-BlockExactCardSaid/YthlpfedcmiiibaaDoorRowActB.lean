/- A slice of structs that came in, as a list; a struct in a block of its own. No conditions. -/
import Derived.Test.YthlpfedcmiiibaaDoorChg
namespace Go.Proofs.YthlpfedcmiiibaaDoor
open Go Go.RowKit

structure ActBD where
  kind : Int
  a : Int
  n : Int
  b : UInt8
def GoodActB (x : ActBD) : Prop := (-9223372036854775808 ≤ x.kind ∧ x.kind ≤ 9223372036854775807) ∧ (-9223372036854775808 ≤ x.a ∧ x.a ≤ 9223372036854775807) ∧ (-9223372036854775808 ≤ x.n ∧ x.n ≤ 9223372036854775807)
theorem block_addActB (a : Addr) (n : Nat) : (a.add n).block = a.block := by unfold Addr.add; split <;> rfl
/-- The slice reads as a list; its cells lie below block B. -/
def ActBRow (w : World) (B : Nat) (A : Option Addr) (xs : List ActBD) : Prop :=
  0 < xs.length → ∃ ad, A = some ad ∧ ad.block < B ∧ ∀ i x, xs[i]? = some x → w.cell? (ad.add (i * 4)) = some (.int .i64 x.kind) ∧ w.cell? ⟨(ad.add (i * 4)).block, (ad.add (i * 4)).off + 1, none⟩ = some (.int .i64 x.a) ∧ w.cell? ⟨(ad.add (i * 4)).block, (ad.add (i * 4)).off + 2, none⟩ = some (.int .i64 x.n) ∧ w.cell? ⟨(ad.add (i * 4)).block, (ad.add (i * 4)).off + 3, none⟩ = some (.int .u8 (x.b.toNat : Int))
theorem ActBRow.cells {w W : World} {B : Nat} {A : Option Addr} {xs : List ActBD} (h : ActBRow w B A xs) (hb : Below B w W) {i : Nat} {x : ActBD} (hi : xs[i]? = some x) : ∃ ad, A = some ad ∧ W.cell? (ad.add (i * 4)) = some (.int .i64 x.kind) ∧ W.cell? ⟨(ad.add (i * 4)).block, (ad.add (i * 4)).off + 1, none⟩ = some (.int .i64 x.a) ∧ W.cell? ⟨(ad.add (i * 4)).block, (ad.add (i * 4)).off + 2, none⟩ = some (.int .i64 x.n) ∧ W.cell? ⟨(ad.add (i * 4)).block, (ad.add (i * 4)).off + 3, none⟩ = some (.int .u8 (x.b.toNat : Int)) := by
  obtain ⟨ad, e, hl, hc⟩ := h (Nat.lt_of_le_of_lt (Nat.zero_le _) (List.getElem?_eq_some_iff.1 hi).1)
  obtain ⟨h0, h1, h2, h3⟩ := hc i x hi
  have hp : (ad.add (i * 4)).block < B := by rw [block_addActB]; exact hl
  exact ⟨ad, e, (hb.cell hp).trans h0, (hb.cell (p := ⟨(ad.add (i * 4)).block, _, none⟩) hp).trans h1, (hb.cell (p := ⟨(ad.add (i * 4)).block, _, none⟩) hp).trans h2, (hb.cell (p := ⟨(ad.add (i * 4)).block, _, none⟩) hp).trans h3⟩
/-- One in a block of its own. -/
def ActBBlk (w : World) (g : Nat) (x : ActBD) : Prop := w.heap[g]? = some (.cells #[.int .i64 x.kind, .int .i64 x.a, .int .i64 x.n, .int .u8 (x.b.toNat : Int)] 29 (0, 0))
theorem ActBBlk.new (w : World) (x : ActBD) : ActBBlk (w.alloc (.cells #[.int .i64 x.kind, .int .i64 x.a, .int .i64 x.n, .int .u8 (x.b.toNat : Int)] 29)) w.heap.size x := heap_alloc_new w _
theorem ActBBlk.cells {w : World} {g : Nat} {x : ActBD} (h : ActBBlk w g x) : w.cell? ⟨g, 0, none⟩ = some (.int .i64 x.kind) ∧ w.cell? ⟨g, 1, none⟩ = some (.int .i64 x.a) ∧ w.cell? ⟨g, 2, none⟩ = some (.int .i64 x.n) ∧ w.cell? ⟨g, 3, none⟩ = some (.int .u8 (x.b.toNat : Int)) ∧ g < w.heap.size :=
  ⟨cell_of_heap h 0, cell_of_heap h 1, cell_of_heap h 2, cell_of_heap h 3, lt_of_block h⟩
theorem ActBBlk.kept {w w' : World} {g p q : Nat} {x : ActBD} (h : ActBBlk w g x) (hc : Chg p q w w') (h1 : g ≠ p) (h2 : g ≠ q) : ActBBlk w' g x := hc.row h h1 h2
theorem ActBBlk.below {w w' : World} {g B : Nat} {x : ActBD} (h : ActBBlk w g x) (hb : Below B w w') (hg : g < B) : ActBBlk w' g x := (hb.block g hg).trans h
theorem ActBBlk.on {w w' : World} {g : Nat} {x : ActBD} (hb : Below w.heap.size w w') (h : ActBBlk w g x) : ActBBlk w' g x := h.below hb (lt_of_block h)
theorem ActBBlk.drewN {w : World} {g : Nat} {x : ActBD} (h : ActBBlk w g x) (n : Nat) : ActBBlk (w.drewN n) g x := h
theorem ActBBlk.drew {w : World} {g : Nat} {x : ActBD} (h : ActBBlk w g x) : ActBBlk w.drew g x := h
theorem ActBBlk.alloc {w : World} {g : Nat} {x : ActBD} (h : ActBBlk w g x) (o : Obj) : ActBBlk (w.alloc o) g x := (Below.heap_alloc w o g (lt_of_block h)).trans h
end Go.Proofs.YthlpfedcmiiibaaDoor
