/- The walk of the law FrameExact: whatever the arguments, it returns true. Conditions: the sentinels and the type's variable lie as the program's text lays them, the row reads as a list. -/
import Derived.Test.YtaibmdjcppeopaaGreatDoorFrOw
import Derived.Test.YtaibmdjcppeopaaGreatDoorFrSz
import Derived.Test.YtaibmdjcppeopaaGreatDoorFrV
namespace Go.Proofs.YtaibmdjcppeopaaGreatDoor
open Go Go.RowKit

/-- What a round of the first loop begins with. -/
def X1 (w1 : World) (n : Nat) (i : Value) (wr : World) : Prop := ∃ j : Nat, i = .int .i64 j ∧ j ≤ n ∧ wr = w1
/-- What a round of the second loop begins with. -/
def X2 (w : World) (gx gy : Nat) (F : List (List UInt8)) (i : Value) (wr : World) : Prop :=
  ∃ j : Nat, i = .int .i64 j ∧ j ≤ F.length ∧ RowV wr gx (strVs F) ∧ SRow wr wr.heap.size (some ⟨gy, 0, none⟩) (F.map bst) ∧ Below w.heap.size w wr
theorem X2.drew {w wr : World} {gx gy : Nat} {F : List (List UInt8)} {i : Value} (h : X2 w gx gy F i wr) : X2 w gx gy F i wr.drew := by
  obtain ⟨j, h1, h2, h3, h4, h5⟩ := h
  exact ⟨j, h1, h2, h3, h4, h5.drew⟩
theorem X2.drewN {w wr : World} {gx gy : Nat} {F : List (List UInt8)} {i : Value} (h : X2 w gx gy F i wr) (n : Nat) : X2 w gx gy F i (wr.drewN n) := by
  obtain ⟨j, h1, h2, h3, h4, h5⟩ := h
  exact ⟨j, h1, h2, h3, h4, below_drewN h5 n⟩

/-- What Read of the reference returns, whatever the row. -/
theorem rread_c (B c : Nat) (A : Option Addr) (l : List ByteArray) (w : World) (hl : l.length ≤ 9223372036854775807) (h : SRow w B A l) (hB : B ≤ w.heap.size) :
    Calls Tryz.prog 29 #[.slice A l.length c] w fun e w' => RReadV e (readF (rows l)) ∧ Below w.heap.size w w' := by
  rw [← readP_eq]
  cases hi : l[0]? with
  | none =>
    have e : readP (rows l) = .error 0 := by unfold readP; rw [rows_get, hi]; rfl
    rw [e]
    refine (rread_none B c A l w hl h fun z hz => by rw [hi] at hz; cases hz).mono ?_
    rintro e' w' ⟨h1, rfl⟩
    exact ⟨h1, Below.refl _ _⟩
  | some z =>
    have hrow : (rows l)[0]? = some z.data.toList := by rw [rows_get, hi]; rfl
    by_cases hz : z.size = 64
    · by_cases hbad : seqOf z.data.toList < 1 ∨ 2147483647 < seqOf z.data.toList ∨ idxOf z.data.toList ≠ 0 ∨ cntOf z.data.toList < 1 ∨ 108 < cntOf z.data.toList
      · have e : readP (rows l) = .error 0 := by
          unfold readP; rw [hrow]
          simp only []
          rw [if_neg (by rw [size_len]; omega), if_pos hbad]
        rw [e]
        refine (rread_begins B c A l z _ _ _ w hl h hi hz rfl rfl rfl hbad).mono ?_
        rintro e' w' ⟨h1, rfl⟩
        exact ⟨h1, Below.refl _ _⟩
      · rw [readP_eq]
        exact rread_loop B c A l z _ _ w hl h hB hi hz rfl (by omega) rfl (by omega)
    · have e : readP (rows l) = .error 0 := by
        unfold readP; rw [hrow]
        simp only []
        rw [if_pos (by rw [size_len]; exact hz)]
      rw [e]
      refine (rread_none B c A l w hl h fun z' hz' => by rw [hi] at hz'; cases hz'; exact hz).mono ?_
      rintro e' w' ⟨h1, rfl⟩
      exact ⟨h1, Below.refl _ _⟩

end Go.Proofs.YtaibmdjcppeopaaGreatDoor
