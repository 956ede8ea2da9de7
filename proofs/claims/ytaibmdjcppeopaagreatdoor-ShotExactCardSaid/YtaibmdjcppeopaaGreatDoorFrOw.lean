/- An owned row of strings. No conditions. -/
import Derived.Test.YtaibmdjcppeopaaGreatDoorFrL
namespace Go.Proofs.YtaibmdjcppeopaaGreatDoor
open Go Go.RowKit

/-- An owned row of strings reads as a list. -/
theorem own_srow {w : World} {base n : Nat} {v : Value} {F : List (List UInt8)} (h : w.ownsRow base 9 1 v n (strVs F)) (h0 : 0 < n) :
    ∃ g cap, v = .slice (some ⟨g, 0, none⟩) F.length cap ∧ F.length ≤ cap ∧ SRow w w.heap.size (some ⟨g, 0, none⟩) (F.map bst) ∧ n = F.length := by
  have hn : F.length = n := by have := h.1; rw [strVs_len] at this; omega
  rcases h.2 with ⟨_, k⟩ | ⟨g, cap, cur, rfl, hb, hg, hc, _⟩
  · omega
  · refine ⟨g, cap, by rw [hn], by omega, fun _ => ⟨_, rfl, (Array.getElem?_eq_some_iff.1 hg).1, fun i z hz => ?_⟩, hn.symm⟩
    refine h.cells (g := g) rfl i _ ?_
    rw [strVs_get]
    rw [List.getElem?_map] at hz
    cases hF : F[i]? with
    | none => rw [hF] at hz; cases hz
    | some b => rw [hF] at hz; simp at hz; simp [hz]
theorem strVs_app (F G : List (List UInt8)) : strVs F ++ strVs G = strVs (F ++ G) := by simp [strVs]
theorem strVs_one (F : List (List UInt8)) : ∀ u ∈ strVs F, u.oneCell' = true := fun u hu => by
  obtain ⟨b, _, rfl⟩ := List.mem_map.1 hu; rfl
/-- The cells of a row of strings, where an append takes them from. -/
theorem RowV.news {w : World} {g : Nat} {F : List (List UInt8)} (h : RowV w g (strVs F)) : ∀ j u, (strVs F)[j]? = some u → w.cell? ((⟨g, 0, none⟩ : Addr).add j) = some u := fun j u hu => by
  rw [adr0]; exact h.cell hu
theorem RowV.alloc {w : World} {g : Nat} {l : List Value} (h : RowV w g l) (o : Obj) : RowV (w.alloc o) g l := (Below.heap_alloc w o g h.lt).trans h
theorem RowV.grown {w w' : World} {g : Nat} {l : List Value} {row : Option Nat} (h : RowV w g l) (hg : w.grownBy w' row) (hr : row ≠ some g) : RowV w' g l := (hg.block g h.lt (fun e => hr e.symm)).trans h
theorem RowV.drew {w : World} {g : Nat} {l : List Value} (h : RowV w g l) : RowV w.drew g l := h
theorem RowV.drewN {w : World} {g : Nat} {l : List Value} (h : RowV w g l) (n : Nat) : RowV (w.drewN n) g l := h
end Go.Proofs.YtaibmdjcppeopaaGreatDoor
