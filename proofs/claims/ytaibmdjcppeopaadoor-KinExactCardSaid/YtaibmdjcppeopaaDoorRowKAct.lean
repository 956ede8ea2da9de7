/- A slice of structs that came in, as a list; a struct in a block of its own. No conditions. -/
import Derived.Test.YtaibmdjcppeopaaDoorChg
namespace Go.Proofs.YtaibmdjcppeopaaDoor
open Go Go.RowKit

structure KActD where
  kind : Int
  id : Int
  other : Int
def GoodKAct (x : KActD) : Prop := (-9223372036854775808 ≤ x.kind ∧ x.kind ≤ 9223372036854775807) ∧ (-9223372036854775808 ≤ x.id ∧ x.id ≤ 9223372036854775807) ∧ (-9223372036854775808 ≤ x.other ∧ x.other ≤ 9223372036854775807)
theorem block_addKAct (a : Addr) (n : Nat) : (a.add n).block = a.block := by unfold Addr.add; split <;> rfl
/-- The slice reads as a list; its cells lie below block B. -/
def KActRow (w : World) (B : Nat) (A : Option Addr) (xs : List KActD) : Prop :=
  0 < xs.length → ∃ ad, A = some ad ∧ ad.block < B ∧ ∀ i x, xs[i]? = some x → w.cell? (ad.add (i * 3)) = some (.int .i64 x.kind) ∧ w.cell? ⟨(ad.add (i * 3)).block, (ad.add (i * 3)).off + 1, none⟩ = some (.int .i64 x.id) ∧ w.cell? ⟨(ad.add (i * 3)).block, (ad.add (i * 3)).off + 2, none⟩ = some (.int .i64 x.other)
theorem KActRow.cells {w W : World} {B : Nat} {A : Option Addr} {xs : List KActD} (h : KActRow w B A xs) (hb : Below B w W) {i : Nat} {x : KActD} (hi : xs[i]? = some x) : ∃ ad, A = some ad ∧ W.cell? (ad.add (i * 3)) = some (.int .i64 x.kind) ∧ W.cell? ⟨(ad.add (i * 3)).block, (ad.add (i * 3)).off + 1, none⟩ = some (.int .i64 x.id) ∧ W.cell? ⟨(ad.add (i * 3)).block, (ad.add (i * 3)).off + 2, none⟩ = some (.int .i64 x.other) := by
  obtain ⟨ad, e, hl, hc⟩ := h (Nat.lt_of_le_of_lt (Nat.zero_le _) (List.getElem?_eq_some_iff.1 hi).1)
  obtain ⟨h0, h1, h2⟩ := hc i x hi
  have hp : (ad.add (i * 3)).block < B := by rw [block_addKAct]; exact hl
  exact ⟨ad, e, (hb.cell hp).trans h0, (hb.cell (p := ⟨(ad.add (i * 3)).block, _, none⟩) hp).trans h1, (hb.cell (p := ⟨(ad.add (i * 3)).block, _, none⟩) hp).trans h2⟩
/-- One in a block of its own. -/
def KActBlk (w : World) (g : Nat) (x : KActD) : Prop := w.heap[g]? = some (.cells #[.int .i64 x.kind, .int .i64 x.id, .int .i64 x.other] 29 (0, 0))
theorem KActBlk.new (w : World) (x : KActD) : KActBlk (w.alloc (.cells #[.int .i64 x.kind, .int .i64 x.id, .int .i64 x.other] 29)) w.heap.size x := heap_alloc_new w _
theorem KActBlk.cells {w : World} {g : Nat} {x : KActD} (h : KActBlk w g x) : w.cell? ⟨g, 0, none⟩ = some (.int .i64 x.kind) ∧ w.cell? ⟨g, 1, none⟩ = some (.int .i64 x.id) ∧ w.cell? ⟨g, 2, none⟩ = some (.int .i64 x.other) ∧ g < w.heap.size :=
  ⟨cell_of_heap h 0, cell_of_heap h 1, cell_of_heap h 2, lt_of_block h⟩
theorem KActBlk.kept {w w' : World} {g p q : Nat} {x : KActD} (h : KActBlk w g x) (hc : Chg p q w w') (h1 : g ≠ p) (h2 : g ≠ q) : KActBlk w' g x := hc.row h h1 h2
theorem KActBlk.below {w w' : World} {g B : Nat} {x : KActD} (h : KActBlk w g x) (hb : Below B w w') (hg : g < B) : KActBlk w' g x := (hb.block g hg).trans h
theorem KActBlk.on {w w' : World} {g : Nat} {x : KActD} (hb : Below w.heap.size w w') (h : KActBlk w g x) : KActBlk w' g x := h.below hb (lt_of_block h)
theorem KActBlk.drewN {w : World} {g : Nat} {x : KActD} (h : KActBlk w g x) (n : Nat) : KActBlk (w.drewN n) g x := h
theorem KActBlk.drew {w : World} {g : Nat} {x : KActD} (h : KActBlk w g x) : KActBlk w.drew g x := h
theorem KActBlk.alloc {w : World} {g : Nat} {x : KActD} (h : KActBlk w g x) (o : Obj) : KActBlk (w.alloc o) g x := (Below.heap_alloc w o g (lt_of_block h)).trans h
end Go.Proofs.YtaibmdjcppeopaaDoor
