/- Rows of texts and of integers as memory holds them. No conditions. -/
import Derived.Test.YtaibmdjcppeopaaGreatDoorLgZ
namespace Go.Proofs.YtaibmdjcppeopaaGreatDoor
open Go Go.RowKit

theorem SRow.same {w w' : World} {B : Nat} {A : Option Addr} {zs : List ByteArray} (h : SRow w B A zs) (hs : Same w w') : SRow w' B A zs := fun h0 => by
  obtain ⟨a, e, hb, hc⟩ := h h0
  exact ⟨a, e, hb, fun i z hz => (World.cell?_of_block (hs.block _)).trans (hc i z hz)⟩
theorem Reads.same {w w' : World} {v : Value} {F : List (List UInt8)} (h : Reads w v F) (hs : Same w w') : Reads w' v F := by
  obtain ⟨A, c, e, hc, hr⟩ := h
  exact ⟨A, c, e, hc, by rw [hs.size]; exact hr.same hs⟩
theorem Reads.below {w w' : World} {B : Nat} {v : Value} {F : List (List UInt8)} (h : Reads w v F) (hb : Below B w w') (hB : w.heap.size ≤ B) : Reads w' v F := by
  obtain ⟨A, c, e, hc, hr⟩ := h
  exact ⟨A, c, e, hc, (hr.below hb hB).mono hb.size⟩
theorem Reads.keptS {S : Nat → Prop} {w w' : World} {v : Value} {F : List (List UInt8)} (h : Reads w v F) (hc : ChgS S w w') (hS : ∀ k, v.ownBlock = some k → ¬ S k) : Reads w' v F := by
  obtain ⟨A, c, e, hcc, hr⟩ := h
  refine ⟨A, c, e, hcc, fun h0 => ?_⟩
  obtain ⟨a, e1, hb, hcl⟩ := hr h0
  refine ⟨a, e1, Nat.lt_of_lt_of_le hb hc.size, fun i z hz => (World.cell?_of_block ?_).trans (hcl i z hz)⟩
  rw [block_addS]
  refine hc.block _ hb (hS _ ?_)
  rw [e, e1]; rfl
theorem reads_one (w : World) (x : ByteArray) : Reads (w.alloc (.cells #[.string x] 9)) (.slice (some ⟨w.heap.size, 0, none⟩) 1 1) [x.data.toList] := by
  refine ⟨_, 1, rfl, Nat.le_refl _, fun _ => ⟨_, rfl, by simp, fun i z hz => ?_⟩⟩
  refine cell_one_new w (.string x) _ i (.string z) ?_
  match i, hz with
  | 0, hz =>
    have hz' : some (bst x.data.toList) = some z := hz
    rw [← bst_of] at hz'
    rw [← Option.some.inj hz']; rfl
theorem str_beqK (a b : ByteArray) : (a.toList == b.toList) = decide (a = b) := by
  rw [Bool.eq_iff_iff, beq_iff_eq, decide_eq_true_eq, toList_is, toList_is]
  exact ⟨bst_ext, fun h => by rw [h]⟩
/-- A slice of integers reads as a list; its cells lie below block B. -/
def IntRow (w : World) (B : Nat) (A : Option Addr) (zs : List Int) : Prop := 0 < zs.length → ∃ a, A = some a ∧ a.block < B ∧ ∀ i z, zs[i]? = some z → w.cell? (a.add i) = some (.int .i64 z)
theorem IntRow.cell {w w' : World} {B i : Nat} {A : Option Addr} {zs : List Int} {z : Int} (h : IntRow w B A zs) (hb : Below B w w') (hi : zs[i]? = some z) : ∃ a, A = some a ∧ w'.cell? (a.add i) = some (.int .i64 z) := by
  obtain ⟨a, e, hl, hc⟩ := h (Nat.lt_of_le_of_lt (Nat.zero_le _) (List.getElem?_eq_some_iff.1 hi).1)
  exact ⟨a, e, (hb.cell (p := a.add i) (by rw [block_addS]; exact hl)).trans (hc i z hi)⟩
theorem layR_one (b : Nat) (rs : List (List UInt8)) (x : List UInt8) : (layR b (rs ++ [x])).length = (layR b rs).length + nblk x.length := by rw [layR_snoc, List.length_append, framesF_len]
end Go.Proofs.YtaibmdjcppeopaaGreatDoor
