/- The frame of an object: what a method that writes into the object's own blocks leaves alone. No conditions. -/
import Derived.Test.YtlckofoabnnlhaaDoorProg
import Derived.Laws.OwnMore
import Derived.Laws.AppendOwn
import Derived.OwnWalk
import Derived.Below
import Derived.OneCell
import Derived.BigQuiet
import Derived.Deep.Draws
namespace Go.Proofs.YtlckofoabnnlhaaDoor
open Go Go.RowKit

theorem ret_i {k : IntKind} {a b : Int} (h : a = b) : Ending.returned (.int k a) = .returned (.int k b) := by rw [h]

theorem ret_v {k : IntKind} {a b : Int} (h : a = b) : Value.int k a = Value.int k b := by rw [h]

theorem below_drewN {B : Nat} {a w : World} (h : Below B a w) (n : Nat) : Below B a (w.drewN n) := ⟨h.os, h.tape, h.output, h.size, h.block⟩
theorem World.size_drewN (w : World) (n : Nat) : (w.drewN n).heap.size = w.heap.size := rfl
/-- Between the worlds w and w' nothing that was there has turned but the blocks p and q. -/
structure Chg (p q : Nat) (w w' : World) : Prop where
  os : w'.os = w.os
  tape : w'.tape = w.tape
  output : w'.output = w.output
  size : w.heap.size ≤ w'.heap.size
  block : ∀ k, k < w.heap.size → k ≠ p → k ≠ q → w'.heap[k]? = w.heap[k]?

theorem Chg.refl (p q : Nat) (w : World) : Chg p q w w := ⟨rfl, rfl, rfl, Nat.le_refl _, fun _ _ _ _ => rfl⟩
theorem Chg.trans {p q q' : Nat} {a b c : World} (h : Chg p q a b) (k : Chg p q' b c) (hq : q' = q ∨ a.heap.size ≤ q') : Chg p q a c :=
  ⟨k.os.trans h.os, k.tape.trans h.tape, k.output.trans h.output, Nat.le_trans h.size k.size, fun i hi h1 h2 =>
    (k.block i (Nat.lt_of_lt_of_le hi h.size) h1 (by rcases hq with rfl | hq <;> omega)).trans (h.block i hi h1 h2)⟩
theorem Chg.of_below {p q : Nat} {a b : World} (h : Below a.heap.size a b) : Chg p q a b := ⟨h.os, h.tape, h.output, h.size, fun k hk _ _ => h.block k hk⟩
theorem Chg.below {p q B : Nat} {a b : World} (h : Chg p q a b) (hp : B ≤ p) (hq : B ≤ q) (hB : B ≤ a.heap.size) : Below B a b := ⟨h.os, h.tape, h.output, h.size, fun k hk => h.block k (by omega) (by omega) (by omega)⟩
theorem Chg.drew {p q : Nat} {a w : World} (h : Chg p q a w) : Chg p q a w.drew := ⟨h.os, h.tape, h.output, h.size, h.block⟩
theorem Chg.drewN {p q : Nat} {a w : World} (h : Chg p q a w) (n : Nat) : Chg p q a (w.drewN n) := ⟨h.os, h.tape, h.output, h.size, h.block⟩
theorem Chg.alloc {p q : Nat} {a w : World} (h : Chg p q a w) (o : Obj) : Chg p q a (w.alloc o) :=
  ⟨h.os, h.tape, h.output, Nat.le_trans h.size (by simp), fun k hk h1 h2 => (Below.heap_alloc w o k (Nat.lt_of_lt_of_le hk h.size)).trans (h.block k hk h1 h2)⟩
theorem Chg.setCell {p q : Nat} {a w : World} (h : Chg p q a w) {ad : Addr} (ha : ad.block = p ∨ ad.block = q ∨ a.heap.size ≤ ad.block) (u : Value) : Chg p q a (w.setCell ad u) :=
  ⟨h.os, h.tape, h.output, Nat.le_trans h.size (by simp [World.setCell]), fun k hk h1 h2 => (Below.heap_setCell w ad u k (by omega)).trans (h.block k hk h1 h2)⟩
theorem Chg.grown {p q : Nat} {a w w' : World} {row : Option Nat} (h : Chg p q a w) (hg : w.grownBy w' row) (hr : ∀ k, row = some k → k = p ∨ k = q ∨ a.heap.size ≤ k) : Chg p q a w' :=
  ⟨hg.os.trans h.os, hg.tape.trans h.tape, hg.output.trans h.output, Nat.le_trans h.size hg.size, fun k hk h1 h2 =>
    (hg.block k (Nat.lt_of_lt_of_le hk h.size) (fun e => by have := hr k e.symm; omega)).trans (h.block k hk h1 h2)⟩
theorem Chg.row {p q : Nat} {a b : World} (h : Chg p q a b) {k : Nat} {o : Obj} (hk : a.heap[k]? = some o) (h1 : k ≠ p) (h2 : k ≠ q) : b.heap[k]? = some o :=
  (h.block k (Array.getElem?_eq_some_iff.1 hk).1 h1 h2).trans hk

/-- The cells of bytes. -/
def byteVs (bs : List UInt8) : List Value := bs.map fun b => .int .u8 (b.toNat : Int)
theorem byteVs_len (bs : List UInt8) : (byteVs bs).length = bs.length := by simp [byteVs]
theorem byteVs_app (a b : List UInt8) : byteVs a ++ byteVs b = byteVs (a ++ b) := by simp [byteVs]

theorem own_same {w w' : World} {base n : Nat} {e : TypeId} {size : Nat} {v : Value} {xs : List Value} (h : w.ownsRow base e size v n xs) (hs : ∀ k, v.ownBlock = some k → w'.heap[k]? = w.heap[k]?) : w'.ownsRow base e size v n xs := by
  refine ⟨h.1, ?_⟩
  rcases h.2 with hn | ⟨g, cap, cur, rfl, hb, hgg, rest⟩
  · exact .inl hn
  · exact .inr ⟨g, cap, cur, rfl, hb, by rw [hs g rfl]; exact hgg, rest⟩
/-- The cells of a block. -/
theorem cell_of_heap {w : World} {p : Nat} {cs : Array Value} {t : TypeId} (h : w.heap[p]? = some (.cells cs t (0, 0))) (j : Nat) : w.cell? ⟨p, j, none⟩ = cs[j]? := by simp [World.cell?, h]
theorem frozen_of_heap {w : World} {p : Nat} {cs : Array Value} {t : TypeId} (h : w.heap[p]? = some (.cells cs t (0, 0))) (j : Nat) : w.frozen? ⟨p, j, none⟩ = false := by simp [World.frozen?, h]
theorem Tryd.infoB : (Tryd.prog.info? 5).map (fun i => (i.zero, i.size, i.bytes)) = some (some (.int .u8 0), 1, 1) := by kernel_rfl
end Go.Proofs.YtlckofoabnnlhaaDoor
