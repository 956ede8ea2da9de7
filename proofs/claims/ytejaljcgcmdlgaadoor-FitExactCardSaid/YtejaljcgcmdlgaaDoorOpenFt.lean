/- How spots, vectors and numbers that came in read, as rows. No conditions. -/
import Derived.Test.YtejaljcgcmdlgaaDoorOpenV4
import Derived.Test.YtejaljcgcmdlgaaDoorLieO
import Derived.Test.YtejaljcgcmdlgaaDoorFtW
namespace Go.Proofs.YtejaljcgcmdlgaaDoor
open Go Go.ChangeShapes Go.WideShapes Go.ChangeAt Go.WideMaps Go.WideElems Go.RowKit

theorem some_ofSpo {α : Type} {l : List α} {i : Nat} {o : Option α} (h : o = l[i]?) (hi : i < l.length) : ∃ x, o = some x := ⟨_, h.trans (List.getElem?_eq_getElem hi)⟩
def GoodSpo (x : Spt) : Prop := i64 x.id ∧ okV x.left
section
variable {H : Type} {enc : TypeId × Value → H} {w : World} {base : Nat} {spare : Nat → Bool} {held : Bool}

set_option maxRecDepth 100000 in
theorem cells_Spo {fuel : Nat} {cs : List Value} {x : DataW H × List MemPlace} (h : DataW.trod enc Tryd.prog w base spare held fuel 40 cs = some x) :
    ∃ x : Spt, cs = [.int .i64 x.id, .int .i64 x.left.a, .int .i64 x.left.b, .int .i64 x.left.c, .int .i64 x.left.d] ∧ GoodSpo x := by
  obtain ⟨xs, m, _, hx, hlen, hxl, hg⟩ := DataW.trod_struct Tryd.underlying40 h
  have cN : Tryd.prog.cellsOf 40 = 5 := by kernel_rfl
  rw [cN] at hlen
  have hl5 : xs.length = 2 := hxl
  obtain ⟨k0, k1, k2, k3, k4, rfl⟩ : ∃ k0 k1 k2 k3 k4, cs = [k0, k1, k2, k3, k4] := by
    match cs, hlen with
    | [q0, q1, q2, q3, q4], _ => exact ⟨q0, q1, q2, q3, q4, rfl⟩
  have z_int : Tryd.prog.cellsOf 3 = 1 := by kernel_rfl
  have z_v4 : Tryd.prog.cellsOf 31 = 4 := by kernel_rfl
  have g0 : DataW.trod enc Tryd.prog w base spare held m 3 [k0] = xs[0]? := by
    have := hg 0 _ rfl
    change DataW.trod enc Tryd.prog w base spare held m 3 (([k0, k1, k2, k3, k4].drop 0).take (Tryd.prog.cellsOf 3)) = xs[0]? at this
    rw [z_int] at this
    exact this
  have g1 : DataW.trod enc Tryd.prog w base spare held m 31 [k1, k2, k3, k4] = xs[1]? := by
    have := hg 1 _ rfl
    change DataW.trod enc Tryd.prog w base spare held m 31 (([k0, k1, k2, k3, k4].drop 1).take (Tryd.prog.cellsOf 31)) = xs[1]? at this
    rw [z_v4] at this
    exact this
  obtain ⟨y0, e0⟩ := some_ofSpo g0 (by omega)
  obtain ⟨n0, h0, _, i0⟩ := DataW.trod_int Tryd.underlying3 e0
  obtain ⟨y1, e1⟩ := some_ofSpo g1 (by omega)
  obtain ⟨n1, h1, i1⟩ := v4_cells e1
  simp only [List.cons.injEq, and_true] at h0 h1
  obtain ⟨rfl, rfl, rfl, rfl⟩ := h1
  subst h0
  exact ⟨⟨n0, n1⟩, rfl, ⟨⟨i64_lo i0, i64_hi i0⟩, i1⟩⟩


theorem open_spts {v : Value} {d : DataW H} {ps : List MemPlace} (hv : Value.okWide Tryd.prog w .any base 22 v) (h : DataW.Trod enc Tryd.prog w 0 spare held 22 v d ps) :
    ∃ (A : Option Addr) (c : Nat) (xs : List Spt), v = .slice A xs.length c ∧ LiesE encSpt w (.slice A xs.length c) xs ∧ (∀ x ∈ xs, GoodSpo x) ∧ xs.length ≤ 9223372036854775807 ∧ xs.length ≤ c :=
  open_lies encSpt GoodSpo (by decide) (by kernel_rfl) (by kernel_rfl) (fun _ _ _ h => cells_Spo h) hv h
theorem open_v4s {v : Value} {d : DataW H} {ps : List MemPlace} (hv : Value.okWide Tryd.prog w .any base 23 v) (h : DataW.Trod enc Tryd.prog w 0 spare held 23 v d ps) :
    ∃ (A : Option Addr) (c : Nat) (xs : List V4), v = .slice A xs.length c ∧ LiesE encV16 w (.slice A xs.length c) xs ∧ (∀ x ∈ xs, okV x) ∧ xs.length ≤ 9223372036854775807 ∧ xs.length ≤ c :=
  open_lies encV16 okV (by decide) (by kernel_rfl) (by kernel_rfl) (fun _ _ _ h => v4_cells h) hv h
theorem open_ints16 {v : Value} {d : DataW H} {ps : List MemPlace} (hv : Value.okWide Tryd.prog w .any base 24 v) (h : DataW.Trod enc Tryd.prog w 0 spare held 24 v d ps) :
    ∃ (A : Option Addr) (c : Nat) (xs : List Int), v = .slice A xs.length c ∧ LiesE encI w (.slice A xs.length c) xs ∧ (∀ x ∈ xs, i64 x) ∧ xs.length ≤ 9223372036854775807 ∧ xs.length ≤ c :=
  open_lies encI i64 (by decide) (by kernel_rfl) (by kernel_rfl) (fun _ cs _ h => by
    have cN : Tryd.prog.cellsOf 3 = 1 := by kernel_rfl
    obtain ⟨n, hn, _, hi⟩ := DataW.trod_int Tryd.underlying3 h
    exact ⟨n, hn, i64_lo hi, i64_hi hi⟩) hv h
end
end Go.Proofs.YtejaljcgcmdlgaaDoor
