/- A slice of structs that came in, as a list; a struct in a block of its own. No conditions. -/
import Derived.Test.YtpgioihmaodlcaaDoorChg
import Derived.Test.YtpgioihmaodlcaaDoorKeyV
namespace Go.Proofs.YtpgioihmaodlcaaDoor
open Go Go.RowKit

structure GActD where
  kind : Int
  key : V4
  dst : Int
  amt : V4
def GoodGAct (x : GActD) : Prop := (-9223372036854775808 ≤ x.kind ∧ x.kind ≤ 9223372036854775807) ∧ okV x.key ∧ (-9223372036854775808 ≤ x.dst ∧ x.dst ≤ 9223372036854775807) ∧ okV x.amt
theorem block_addGAct (a : Addr) (n : Nat) : (a.add n).block = a.block := by unfold Addr.add; split <;> rfl
/-- The slice reads as a list; its cells lie below block B. -/
def GActRow (w : World) (B : Nat) (A : Option Addr) (xs : List GActD) : Prop :=
  0 < xs.length → ∃ ad, A = some ad ∧ ad.block < B ∧ ∀ i x, xs[i]? = some x → w.cell? (ad.add (i * 10)) = some (.int .i64 x.kind) ∧ w.cell? ⟨(ad.add (i * 10)).block, (ad.add (i * 10)).off + 1, none⟩ = some (.int .i64 x.key.a) ∧ w.cell? ⟨(ad.add (i * 10)).block, (ad.add (i * 10)).off + 2, none⟩ = some (.int .i64 x.key.b) ∧ w.cell? ⟨(ad.add (i * 10)).block, (ad.add (i * 10)).off + 3, none⟩ = some (.int .i64 x.key.c) ∧ w.cell? ⟨(ad.add (i * 10)).block, (ad.add (i * 10)).off + 4, none⟩ = some (.int .i64 x.key.d) ∧ w.cell? ⟨(ad.add (i * 10)).block, (ad.add (i * 10)).off + 5, none⟩ = some (.int .i64 x.dst) ∧ w.cell? ⟨(ad.add (i * 10)).block, (ad.add (i * 10)).off + 6, none⟩ = some (.int .i64 x.amt.a) ∧ w.cell? ⟨(ad.add (i * 10)).block, (ad.add (i * 10)).off + 7, none⟩ = some (.int .i64 x.amt.b) ∧ w.cell? ⟨(ad.add (i * 10)).block, (ad.add (i * 10)).off + 8, none⟩ = some (.int .i64 x.amt.c) ∧ w.cell? ⟨(ad.add (i * 10)).block, (ad.add (i * 10)).off + 9, none⟩ = some (.int .i64 x.amt.d)
theorem GActRow.cells {w W : World} {B : Nat} {A : Option Addr} {xs : List GActD} (h : GActRow w B A xs) (hb : Below B w W) {i : Nat} {x : GActD} (hi : xs[i]? = some x) : ∃ ad, A = some ad ∧ W.cell? (ad.add (i * 10)) = some (.int .i64 x.kind) ∧ W.cell? ⟨(ad.add (i * 10)).block, (ad.add (i * 10)).off + 1, none⟩ = some (.int .i64 x.key.a) ∧ W.cell? ⟨(ad.add (i * 10)).block, (ad.add (i * 10)).off + 2, none⟩ = some (.int .i64 x.key.b) ∧ W.cell? ⟨(ad.add (i * 10)).block, (ad.add (i * 10)).off + 3, none⟩ = some (.int .i64 x.key.c) ∧ W.cell? ⟨(ad.add (i * 10)).block, (ad.add (i * 10)).off + 4, none⟩ = some (.int .i64 x.key.d) ∧ W.cell? ⟨(ad.add (i * 10)).block, (ad.add (i * 10)).off + 5, none⟩ = some (.int .i64 x.dst) ∧ W.cell? ⟨(ad.add (i * 10)).block, (ad.add (i * 10)).off + 6, none⟩ = some (.int .i64 x.amt.a) ∧ W.cell? ⟨(ad.add (i * 10)).block, (ad.add (i * 10)).off + 7, none⟩ = some (.int .i64 x.amt.b) ∧ W.cell? ⟨(ad.add (i * 10)).block, (ad.add (i * 10)).off + 8, none⟩ = some (.int .i64 x.amt.c) ∧ W.cell? ⟨(ad.add (i * 10)).block, (ad.add (i * 10)).off + 9, none⟩ = some (.int .i64 x.amt.d) := by
  obtain ⟨ad, e, hl, hc⟩ := h (Nat.lt_of_le_of_lt (Nat.zero_le _) (List.getElem?_eq_some_iff.1 hi).1)
  obtain ⟨h0, h1, h2, h3, h4, h5, h6, h7, h8, h9⟩ := hc i x hi
  have hp : (ad.add (i * 10)).block < B := by rw [block_addGAct]; exact hl
  exact ⟨ad, e, (hb.cell hp).trans h0, (hb.cell (p := ⟨(ad.add (i * 10)).block, _, none⟩) hp).trans h1, (hb.cell (p := ⟨(ad.add (i * 10)).block, _, none⟩) hp).trans h2, (hb.cell (p := ⟨(ad.add (i * 10)).block, _, none⟩) hp).trans h3, (hb.cell (p := ⟨(ad.add (i * 10)).block, _, none⟩) hp).trans h4, (hb.cell (p := ⟨(ad.add (i * 10)).block, _, none⟩) hp).trans h5, (hb.cell (p := ⟨(ad.add (i * 10)).block, _, none⟩) hp).trans h6, (hb.cell (p := ⟨(ad.add (i * 10)).block, _, none⟩) hp).trans h7, (hb.cell (p := ⟨(ad.add (i * 10)).block, _, none⟩) hp).trans h8, (hb.cell (p := ⟨(ad.add (i * 10)).block, _, none⟩) hp).trans h9⟩
/-- One in a block of its own. -/
def GActBlk (w : World) (g : Nat) (x : GActD) : Prop := w.heap[g]? = some (.cells #[.int .i64 x.kind, .int .i64 x.key.a, .int .i64 x.key.b, .int .i64 x.key.c, .int .i64 x.key.d, .int .i64 x.dst, .int .i64 x.amt.a, .int .i64 x.amt.b, .int .i64 x.amt.c, .int .i64 x.amt.d] 33 (0, 0))
theorem GActBlk.new (w : World) (x : GActD) : GActBlk (w.alloc (.cells #[.int .i64 x.kind, .int .i64 x.key.a, .int .i64 x.key.b, .int .i64 x.key.c, .int .i64 x.key.d, .int .i64 x.dst, .int .i64 x.amt.a, .int .i64 x.amt.b, .int .i64 x.amt.c, .int .i64 x.amt.d] 33)) w.heap.size x := heap_alloc_new w _
theorem GActBlk.cells {w : World} {g : Nat} {x : GActD} (h : GActBlk w g x) : w.cell? ⟨g, 0, none⟩ = some (.int .i64 x.kind) ∧ w.cell? ⟨g, 1, none⟩ = some (.int .i64 x.key.a) ∧ w.cell? ⟨g, 2, none⟩ = some (.int .i64 x.key.b) ∧ w.cell? ⟨g, 3, none⟩ = some (.int .i64 x.key.c) ∧ w.cell? ⟨g, 4, none⟩ = some (.int .i64 x.key.d) ∧ w.cell? ⟨g, 5, none⟩ = some (.int .i64 x.dst) ∧ w.cell? ⟨g, 6, none⟩ = some (.int .i64 x.amt.a) ∧ w.cell? ⟨g, 7, none⟩ = some (.int .i64 x.amt.b) ∧ w.cell? ⟨g, 8, none⟩ = some (.int .i64 x.amt.c) ∧ w.cell? ⟨g, 9, none⟩ = some (.int .i64 x.amt.d) ∧ g < w.heap.size :=
  ⟨cell_of_heap h 0, cell_of_heap h 1, cell_of_heap h 2, cell_of_heap h 3, cell_of_heap h 4, cell_of_heap h 5, cell_of_heap h 6, cell_of_heap h 7, cell_of_heap h 8, cell_of_heap h 9, lt_of_block h⟩
theorem GActBlk.kept {w w' : World} {g p q : Nat} {x : GActD} (h : GActBlk w g x) (hc : Chg p q w w') (h1 : g ≠ p) (h2 : g ≠ q) : GActBlk w' g x := hc.row h h1 h2
theorem GActBlk.below {w w' : World} {g B : Nat} {x : GActD} (h : GActBlk w g x) (hb : Below B w w') (hg : g < B) : GActBlk w' g x := (hb.block g hg).trans h
theorem GActBlk.on {w w' : World} {g : Nat} {x : GActD} (hb : Below w.heap.size w w') (h : GActBlk w g x) : GActBlk w' g x := h.below hb (lt_of_block h)
theorem GActBlk.drewN {w : World} {g : Nat} {x : GActD} (h : GActBlk w g x) (n : Nat) : GActBlk (w.drewN n) g x := h
theorem GActBlk.drew {w : World} {g : Nat} {x : GActD} (h : GActBlk w g x) : GActBlk w.drew g x := h
theorem GActBlk.alloc {w : World} {g : Nat} {x : GActD} (h : GActBlk w g x) (o : Obj) : GActBlk (w.alloc o) g x := (Below.heap_alloc w o g (lt_of_block h)).trans h
end Go.Proofs.YtpgioihmaodlcaaDoor
