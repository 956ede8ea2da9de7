/- Fills in memory (stage 14): six cells, a block of their own, their equality. No conditions. -/
import Derived.Test.YtogmlbjbjgkdcaaDoorOdS
import Derived.Test.YtogmlbjbjgkdcaaDoorRwS
import Derived.Test.YtogmlbjbjgkdcaaDoorDlM
import Derived.Laws.StructEq
namespace Go.Proofs.YtogmlbjbjgkdcaaDoor
open Go Go.RowKit

def encFl : EncK Fl 6 where
  enc x := [.int .i64 x.ask, .int .i64 x.bid, .int .i64 x.seller, .int .i64 x.buyer, .int .i64 x.price, .int .i64 x.lots]
  len _ := rfl
  one x u hu := by simp at hu; rcases hu with rfl | rfl | rfl | rfl | rfl | rfl <;> rfl
/-- A fill in a block of its own. -/
def FlB (t : TypeId) (w : World) (g : Nat) (x : Fl) : Prop := w.heap[g]? = some (.cells #[.int .i64 x.ask, .int .i64 x.bid, .int .i64 x.seller, .int .i64 x.buyer, .int .i64 x.price, .int .i64 x.lots] t (0, 0))
theorem FlB.cells {t : TypeId} {w : World} {g : Nat} {x : Fl} (h : FlB t w g x) : w.cell? ⟨g, 0, none⟩ = some (.int .i64 x.ask) ∧ w.cell? ⟨g, 1, none⟩ = some (.int .i64 x.bid) ∧ w.cell? ⟨g, 2, none⟩ = some (.int .i64 x.seller) ∧ w.cell? ⟨g, 3, none⟩ = some (.int .i64 x.buyer) ∧ w.cell? ⟨g, 4, none⟩ = some (.int .i64 x.price) ∧ w.cell? ⟨g, 5, none⟩ = some (.int .i64 x.lots) ∧ g < w.heap.size :=
  ⟨cell_of_heap h 0, cell_of_heap h 1, cell_of_heap h 2, cell_of_heap h 3, cell_of_heap h 4, cell_of_heap h 5, lt_of_row h⟩
theorem FlB.on {t : TypeId} {w w' : World} {g : Nat} {x : Fl} (hb : Below w.heap.size w w') (h : FlB t w g x) : FlB t w' g x := (hb.block g (lt_of_row h)).trans h
theorem FlB.lies {t : TypeId} {w : World} {g : Nat} {x : Fl} (h : FlB t w g x) : LiesE encFl w (.slice (some ⟨g, 0, none⟩) 1 1) [x] :=
  .inr ⟨_, 1, rfl, Nat.le_refl _, fun j u hu => by
    rw [cellsE_one] at hu
    rw [show (⟨g, 0, none⟩ : Addr).add j = ⟨g, j, none⟩ by unfold Addr.add; split <;> simp_all, cell_of_heap h j, ← Array.getElem?_toList]
    exact hu⟩
theorem Tryd.infoFl : (Tryd.prog.info? 48).map (fun i => (i.zero, i.size, i.bytes)) = some (some (.agg #[.int .i64 0, .int .i64 0, .int .i64 0, .int .i64 0, .int .i64 0, .int .i64 0]), 6, 48) := by kernel_rfl
theorem Tryd.infoDF : (Tryd.prog.info? 47).map (fun i => (i.zero, i.size, i.bytes)) = some (some (.agg #[.int .i64 0, .int .i64 0, .int .i64 0, .int .i64 0, .int .i64 0, .int .i64 0]), 6, 48) := by kernel_rfl

theorem eqDF (x y : Fl) (w : World) : (Op.equalIn 10000 47 (.agg #[.int .i64 x.ask, .int .i64 x.bid, .int .i64 x.seller, .int .i64 x.buyer, .int .i64 x.price, .int .i64 x.lots]) (.agg #[.int .i64 y.ask, .int .i64 y.bid, .int .i64 y.seller, .int .i64 y.buyer, .int .i64 y.price, .int .i64 y.lots])).run Tryd.prog w = .ok (decide (x = y)) w := by
  have hs : Tryd.prog.stoodInHeld 47 = false := by kernel_rfl
  have ht : Tryd.prog.underlying 47 = some (.struct (Tryd.prog.fieldsOf 47)) := by kernel_rfl
  have hf : ∃ fs, Tryd.prog.fieldsOf 47 = fs ∧ Tryd.prog.underlying 47 = some (.struct fs) := ⟨_, rfl, ht⟩
  obtain ⟨fs, h1, h2⟩ := hf
  rw [Tryd.underlying47] at h2
  simp only [Option.some.injEq, TypeDesc.struct.injEq] at h2
  subst h2
  rw [run_equalIn_agg w 9999 47 _ _ ht hs, h1]
  have q0 : ∀ (W : World) (a0 a1 a2 a3 a4 a5 : Value), (part 3 #[a0, a1, a2, a3, a4, a5] 0).run Tryd.prog W = .ok a0 W := fun _ _ _ _ _ _ _ => by kernel_rfl
  have q1 : ∀ (W : World) (a0 a1 a2 a3 a4 a5 : Value), (part 3 #[a0, a1, a2, a3, a4, a5] 1).run Tryd.prog W = .ok a1 W := fun _ _ _ _ _ _ _ => by kernel_rfl
  have q2 : ∀ (W : World) (a0 a1 a2 a3 a4 a5 : Value), (part 3 #[a0, a1, a2, a3, a4, a5] 2).run Tryd.prog W = .ok a2 W := fun _ _ _ _ _ _ _ => by kernel_rfl
  have q3 : ∀ (W : World) (a0 a1 a2 a3 a4 a5 : Value), (part 3 #[a0, a1, a2, a3, a4, a5] 3).run Tryd.prog W = .ok a3 W := fun _ _ _ _ _ _ _ => by kernel_rfl
  have q4 : ∀ (W : World) (a0 a1 a2 a3 a4 a5 : Value), (part 3 #[a0, a1, a2, a3, a4, a5] 4).run Tryd.prog W = .ok a4 W := fun _ _ _ _ _ _ _ => by kernel_rfl
  have q5 : ∀ (W : World) (a0 a1 a2 a3 a4 a5 : Value), (part 3 #[a0, a1, a2, a3, a4, a5] 5).run Tryd.prog W = .ok a5 W := fun _ _ _ _ _ _ _ => by kernel_rfl
  obtain ⟨x0, x1, x2, x3, x4, x5⟩ := x
  obtain ⟨y0, y1, y2, y3, y4, y5⟩ := y
  by_cases e0 : x0 = y0
  · by_cases e1 : x1 = y1
    · by_cases e2 : x2 = y2
      · by_cases e3 : x3 = y3
        · by_cases e4 : x4 = y4 <;> by_cases e5 : x5 = y5 <;>
            simp [Op.eqFields, q0, q1, q2, q3, q4, q5, run_equalIn_int _ _ _ _ _ _ _ Tryd.underlying3, e0, e1, e2, e3, e4, e5]
        · simp [Op.eqFields, q0, q1, q2, q3, run_equalIn_int _ _ _ _ _ _ _ Tryd.underlying3, e0, e1, e2, e3]
      · simp [Op.eqFields, q0, q1, q2, run_equalIn_int _ _ _ _ _ _ _ Tryd.underlying3, e0, e1, e2]
    · simp [Op.eqFields, q0, q1, run_equalIn_int _ _ _ _ _ _ _ Tryd.underlying3, e0, e1]
  · simp [Op.eqFields, q0, run_equalIn_int _ _ _ _ _ _ _ Tryd.underlying3, e0]
end Go.Proofs.YtogmlbjbjgkdcaaDoor
