/- Strings as lists of bytes; an owned slice of bytes as a string. No conditions. -/
import Derived.Test.YtaibmdjcppeopaaGreatDoorChg
import Derived.WalkKit
import Derived.Outline
import Derived.Handy
import Derived.Lib.Hide
import Derived.Lib.AppendStr
import Derived.Laws.IdiomStrings
import Derived.Laws.BytesArg
namespace Go.Proofs.YtaibmdjcppeopaaGreatDoor
open Go Go.RowKit

/-- The string of a list of bytes. -/
def bst (l : List UInt8) : ByteArray := ⟨l.toArray⟩
theorem bst_of (s : ByteArray) : s = bst s.data.toList := by obtain ⟨⟨l⟩⟩ := s; rfl
theorem bst_list (l : List UInt8) : (bst l).data.toList = l := rfl
theorem bst_size (l : List UInt8) : (bst l).size = l.length := by simp [bst, ByteArray.size]
theorem size_len (s : ByteArray) : s.data.toList.length = s.size := by simp
theorem bst_inj {a b : List UInt8} (h : bst a = bst b) : a = b := by
  have := congrArg (fun s : ByteArray => s.data.toList) h
  exact this
theorem bst_ext {p q : ByteArray} (h : p.data.toList = q.data.toList) : p = q := by rw [bst_of p, bst_of q, h]
theorem bst_cat (a b : List UInt8) : bst a ++ bst b = bst (a ++ b) := bst_ext (by simp [bst])
theorem bst_cut (l : List UInt8) (i j : Nat) : (bst l).extract i j = bst ((l.drop i).take (j - i)) := bst_ext (by
  rw [ByteArray.data_extract, Array.toList_extract, List.extract_eq_take_drop]; rfl)
theorem cut_list (s : ByteArray) (i j : Nat) : (s.extract i j).data.toList = (s.data.toList.drop i).take (j - i) := by
  rw [ByteArray.data_extract, Array.toList_extract, List.extract_eq_take_drop]
theorem cut_size (s : ByteArray) (i j : Nat) (hij : i ≤ j) (hj : j ≤ s.size) : (s.extract i j).size = j - i := by
  rw [← size_len, cut_list]; simp; omega

theorem ret_str {a b : ByteArray} (h : a = b) : Ending.returned (.string a) = .returned (.string b) := by rw [h]
theorem val_str {a b : ByteArray} (h : a = b) : Value.string a = .string b := by rw [h]
theorem byteVs_at (bs : List UInt8) (j : Nat) (hj : j < bs.length) : (byteVs bs)[j]? = some (.int .u8 (bs[j].toNat : Int)) := by simp [byteVs, hj]
theorem strCells_bst (s : ByteArray) : Lib.strCells s = byteVs s.data.toList := by simp [Lib.strCells, byteVs]
theorem adr0 (g j : Nat) : (⟨g, 0, none⟩ : Addr).add j = ⟨g, j, none⟩ := by
  unfold Addr.add; split
  · subst_vars; rfl
  · simp
/-- An owned slice of bytes, as a string. -/
theorem conv_own (w : World) (B n : Nat) (bs : List UInt8) (v : Value) (h : w.ownsRow B 5 1 v n (byteVs bs)) : (convert 51 9 v).run Tryz.prog w = .ok (.string (bst bs)) w := by
  have hlen : bs.length = n := by have := h.1; rw [byteVs_len] at this; omega
  subst hlen
  rcases h.2 with ⟨rfl, h0⟩ | ⟨g, cap, cur, rfl, hbg, hgg, rest⟩
  · have : bs = [] := List.eq_nil_of_length_eq_zero h0
    subst this
    exact run_convert_bytes_nil (P := Tryz.prog) (w := w) 51 5 Tryz.underlying51 Tryz.underlying5 0 0 _ Tryz.underlying9
  · refine run_convert_bytes_back _ 51 9 5 ⟨g, 0, none⟩ cap bs Tryz.underlying51 Tryz.underlying5 Tryz.underlying9 fun j hj => ?_
    exact h.cells (g := g) rfl j _ (byteVs_at bs j hj)
/-- A piece of a string. -/
theorem run_cut (X : ByteArray) (i j : Int) (a b : Nat) (w : World) (hi : i = a) (hj : j = b) (hab : a ≤ b) (hb : b ≤ X.size) :
    (Instr.slice 9 (.string X) (some (.int .i64 i)) (some (.int .i64 j)) none).run Tryz.prog w = .ok (.string (X.extract a b)) w := by
  subst hi; subst hj
  have h1 : (a : Int) ≤ (b : Int) := by omega
  have h2 : (b : Int) ≤ (X.size : Int) := by omega
  have h3 : (0 : Int) ≤ (a : Int) := by omega
  have h4 : (0 : Int) ≤ (b : Int) := by omega
  simp [Instr.slice, run_underlying Tryz.underlying9, h2, h3, h4, go_sem]
  intro h; omega
end Go.Proofs.YtaibmdjcppeopaaGreatDoor
