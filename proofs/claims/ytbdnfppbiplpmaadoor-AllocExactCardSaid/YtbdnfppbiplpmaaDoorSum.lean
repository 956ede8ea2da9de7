/- The contract of Sum of the package vec, over any slice of vectors. Condition: the sentinels lie as the text lays them. -/
import Derived.Test.YtbdnfppbiplpmaaDoorVecAdd
import Derived.LoopTactic
import Derived.Lib.Hide
import Derived.Deep.AppendLies
import Derived.Laws.OwnMore
namespace Go.Proofs.YtbdnfppbiplpmaaDoor
open Go Go.RowKit

/-- The sum of a list from a total on: the sum, the error's number, the place. -/
def sumGo : List V4 → V4 → Nat → V4 × Nat × Nat
  | [], t, _ => (t, 0, 0)
  | z :: r, t, i => if (addR t z).2 = 0 then sumGo r (addR t z).1 (i + 1) else (⟨0, 0, 0, 0⟩, (addR t z).2, i)
def sumR (zs : List V4) : V4 × Nat × Nat := sumGo zs ⟨0, 0, 0, 0⟩ 0

theorem block_of_add (a : Addr) (n : Nat) : (a.add n).block = a.block := by unfold Addr.add; split <;> rfl

/-- A slice value reads as a list of vectors that lie below block B. -/
def VRow (w : World) (B : Nat) (A : Option Addr) (zs : List V4) : Prop :=
  0 < zs.length → ∃ ad, A = some ad ∧ ad.block < B ∧ ∀ i z, zs[i]? = some z →
    w.cell? (ad.add (i * 4)) = some (.int .i64 z.a) ∧ w.cell? ⟨(ad.add (i * 4)).block, (ad.add (i * 4)).off + 1, none⟩ = some (.int .i64 z.b) ∧ w.cell? ⟨(ad.add (i * 4)).block, (ad.add (i * 4)).off + 2, none⟩ = some (.int .i64 z.c) ∧ w.cell? ⟨(ad.add (i * 4)).block, (ad.add (i * 4)).off + 3, none⟩ = some (.int .i64 z.d)
theorem VRow.below {w w' : World} {B : Nat} {A : Option Addr} {zs : List V4} (h : VRow w B A zs) (hb : Below B w w') : VRow w' B A zs := fun hn => by
  obtain ⟨ad, e, hl, hc⟩ := h hn
  refine ⟨ad, e, hl, fun i z hz => ?_⟩
  obtain ⟨h0, h1, h2, h3⟩ := hc i z hz
  have hp : (ad.add (i * 4)).block < B := by rw [block_of_add]; exact hl
  exact ⟨(hb.cell hp).trans h0, (hb.cell (p := ⟨(ad.add (i * 4)).block, _, none⟩) hp).trans h1, (hb.cell (p := ⟨(ad.add (i * 4)).block, _, none⟩) hp).trans h2, (hb.cell (p := ⟨(ad.add (i * 4)).block, _, none⟩) hp).trans h3⟩

/-- A block that is one vector. -/
def Vb (w : World) (g : Nat) (x : V4) : Prop := w.heap[g]? = some (.cells #[.int .i64 x.a, .int .i64 x.b, .int .i64 x.c, .int .i64 x.d] 34 (0, 0))
theorem Vb.facts {w : World} {g : Nat} {x : V4} (h : Vb w g x) : w.cell? ⟨g, 0, none⟩ = some (.int .i64 x.a) ∧ w.cell? ⟨g, 1, none⟩ = some (.int .i64 x.b) ∧ w.cell? ⟨g, 2, none⟩ = some (.int .i64 x.c) ∧ w.cell? ⟨g, 3, none⟩ = some (.int .i64 x.d) ∧
    (∀ i, w.frozen? ⟨g, i, none⟩ = false) ∧ g < w.heap.size := by
  have hl := lt_of_row h
  unfold Vb at h
  refine ⟨?_, ?_, ?_, ?_, fun i => ?_, hl⟩ <;> simp [World.cell?, World.frozen?, h]
theorem Vb.below {w w' : World} {g B : Nat} {x : V4} (h : Vb w g x) (hb : Below B w w') (hg : g < B) : Vb w' g x := (hb.block g hg).trans h
theorem Vb.new (w : World) (x : V4) : Vb (w.alloc (.cells #[.int .i64 x.a, .int .i64 x.b, .int .i64 x.c, .int .i64 x.d] 34)) w.heap.size x := by
  exact heap_alloc_new w _

theorem Vb.new_at {w : World} {g : Nat} (hg : g = w.heap.size) (x : V4) : Vb (w.alloc (.cells #[.int .i64 x.a, .int .i64 x.b, .int .i64 x.c, .int .i64 x.d] 34)) g x := by
  subst hg; exact Vb.new w x
theorem Vb.alloc {w : World} {g : Nat} {x : V4} (h : Vb w g x) (o : Obj) : Vb (w.alloc o) g x := (Below.heap_alloc w o g (lt_of_row h)).trans h
theorem Vb.set4 {w : World} {g : Nat} {x : V4} (h : Vb w g x) (a b c d : Int) :
    Vb ((((w.setCell ⟨g, 0, none⟩ (.int .i64 a)).setCell ⟨g, 1, none⟩ (.int .i64 b)).setCell ⟨g, 2, none⟩ (.int .i64 c)).setCell ⟨g, 3, none⟩ (.int .i64 d)) g ⟨a, b, c, d⟩ := by
  unfold Vb at h ⊢
  simp [World.setCell, Array.getElem?_modify, h]
theorem Vb.far {w : World} {g : Nat} {x : V4} (h : Vb w g x) {p : Addr} (hp : g ≠ p.block) (u : Value) : Vb (w.setCell p u) g x := (Below.heap_setCell w p u g hp).trans h

theorem add_ok (s : Nat → Addr) (x y : V4) (w : World) (hs : Sent s w) (h : (addR x y).2 = 0) :
    Calls Tryd.prog 59 #[.agg #[.int .i64 x.a, .int .i64 x.b, .int .i64 x.c, .int .i64 x.d], .agg #[.int .i64 y.a, .int .i64 y.b, .int .i64 y.c, .int .i64 y.d]] w fun e w' => e = .returned (.tuple #[.agg #[.int .i64 ((addR x y).1).a, .int .i64 ((addR x y).1).b, .int .i64 ((addR x y).1).c, .int .i64 ((addR x y).1).d], .nilIface]) ∧ Below w.heap.size w w' := by
  have := add_c s x y w hs
  rw [show errV s (addR x y).2 = .nilIface from if_pos h] at this
  exact this
theorem add_err (s : Nat → Addr) (x y : V4) (w : World) (hs : Sent s w) (h : (addR x y).2 ≠ 0) :
    Calls Tryd.prog 59 #[.agg #[.int .i64 x.a, .int .i64 x.b, .int .i64 x.c, .int .i64 x.d], .agg #[.int .i64 y.a, .int .i64 y.b, .int .i64 y.c, .int .i64 y.d]] w fun e w' => e = .returned (.tuple #[.agg #[.int .i64 ((addR x y).1).a, .int .i64 ((addR x y).1).b, .int .i64 ((addR x y).1).c, .int .i64 ((addR x y).1).d], .iface 225 (.pointer (some (s ((addR x y).2 - 1))))]) ∧ Below w.heap.size w w' := by
  have := add_c s x y w hs
  rw [show errV s (addR x y).2 = _ from if_neg h] at this
  exact this
theorem drop_of_get {zs : List V4} {k : Nat} {z : V4} (h : zs[k]? = some z) : zs.drop k = z :: zs.drop (k + 1) := by
  obtain ⟨hk, rfl⟩ := List.getElem?_eq_some_iff.1 h
  exact List.drop_eq_getElem_cons hk
theorem sumGo_ok {z t : V4} {r : List V4} {i : Nat} (h : (addR t z).2 = 0) : sumGo (z :: r) t i = sumGo r (addR t z).1 (i + 1) := if_pos h
theorem sumGo_err {z t : V4} {r : List V4} {i : Nat} (h : (addR t z).2 ≠ 0) : sumGo (z :: r) t i = (⟨0, 0, 0, 0⟩, (addR t z).2, i) := if_neg h

/-- What a round of Sum begins with. -/
def SRel (w : World) (zs : List V4) (i : Value) (wr : World) : Prop :=
  ∃ (k : Nat) (t : V4), k ≤ zs.length ∧ i = .int .i64 k ∧ sumR zs = sumGo (zs.drop k) t k ∧ Below w.heap.size w wr ∧ w.heap.size + 2 ≤ wr.heap.size ∧
    Vb wr w.heap.size ⟨0, 0, 0, 0⟩ ∧ Vb wr (w.heap.size + 1) t

end Go.Proofs.YtbdnfppbiplpmaaDoor
