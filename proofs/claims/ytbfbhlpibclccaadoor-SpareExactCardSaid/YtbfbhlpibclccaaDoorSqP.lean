/- The law's row of deeds: how it lies in memory, how one that came in reads. No conditions. -/
import Derived.Test.YtbfbhlpibclccaaDoorLieO
import Derived.Test.YtbfbhlpibclccaaDoorSqK
namespace Go.Proofs.YtbfbhlpibclccaaDoor
open Go Go.ChangeShapes Go.WideShapes Go.ChangeAt Go.WideMaps Go.WideElems Go.RowKit

/-- A deed. -/
structure AcQ where
  kind : Int
  job : Int
  win : Int
def GoodAcQ (x : AcQ) : Prop := i64 x.kind ∧ i64 x.job ∧ i64 x.win
def encAcQ : EncK AcQ 3 where
  enc x := [.int .i64 x.kind, .int .i64 x.job, .int .i64 x.win]
  len _ := rfl
  one x u hu := by simp at hu; rcases hu with rfl | rfl | rfl <;> rfl
theorem some_ofQ {β : Type} {o : Option β} {l : List β} {i : Nat} (h : o = l[i]?) (hi : i < l.length) : ∃ y, o = some y := ⟨l[i], by rw [h]; exact List.getElem?_eq_getElem hi⟩
section
variable {H : Type} {enc : TypeId × Value → H} {w : World} {base : Nat} {spare : Nat → Bool} {held : Bool}
set_option maxRecDepth 100000 in
theorem cells_AcQ {fuel : Nat} {cs : List Value} {x : DataW H × List MemPlace} (h : DataW.trod enc Tryd.prog w base spare held fuel 77 cs = some x) :
    ∃ x : AcQ, cs = [.int .i64 x.kind, .int .i64 x.job, .int .i64 x.win] ∧ GoodAcQ x := by
  obtain ⟨xs, m, _, hx, hlen, hxl, hg⟩ := DataW.trod_struct Tryd.underlying77 h
  have cN : Tryd.prog.cellsOf 77 = 3 := by kernel_rfl
  rw [cN] at hlen
  have hl5 : xs.length = 3 := hxl
  obtain ⟨k0, k1, k2, rfl⟩ : ∃ k0 k1 k2, cs = [k0, k1, k2] := by
    match cs, hlen with
    | [q0, q1, q2], _ => exact ⟨q0, q1, q2, rfl⟩
  have z_int : Tryd.prog.cellsOf 3 = 1 := by kernel_rfl
  have g0 : DataW.trod enc Tryd.prog w base spare held m 3 [k0] = xs[0]? := by
    have := hg 0 _ rfl
    change DataW.trod enc Tryd.prog w base spare held m 3 (([k0, k1, k2].drop 0).take (Tryd.prog.cellsOf 3)) = xs[0]? at this
    rw [z_int] at this
    exact this
  have g1 : DataW.trod enc Tryd.prog w base spare held m 3 [k1] = xs[1]? := by
    have := hg 1 _ rfl
    change DataW.trod enc Tryd.prog w base spare held m 3 (([k0, k1, k2].drop 1).take (Tryd.prog.cellsOf 3)) = xs[1]? at this
    rw [z_int] at this
    exact this
  have g2 : DataW.trod enc Tryd.prog w base spare held m 3 [k2] = xs[2]? := by
    have := hg 2 _ rfl
    change DataW.trod enc Tryd.prog w base spare held m 3 (([k0, k1, k2].drop 2).take (Tryd.prog.cellsOf 3)) = xs[2]? at this
    rw [z_int] at this
    exact this
  obtain ⟨y0, e0⟩ := some_ofQ g0 (by omega)
  obtain ⟨n0, h0, _, i0⟩ := DataW.trod_int Tryd.underlying3 e0
  obtain ⟨y1, e1⟩ := some_ofQ g1 (by omega)
  obtain ⟨n1, h1, _, i1⟩ := DataW.trod_int Tryd.underlying3 e1
  obtain ⟨y2, e2⟩ := some_ofQ g2 (by omega)
  obtain ⟨n2, h2, _, i2⟩ := DataW.trod_int Tryd.underlying3 e2
  simp only [List.cons.injEq, and_true] at h0 h1 h2
  subst h0
  subst h1
  subst h2
  exact ⟨⟨n0, n1, n2⟩, rfl, ⟨i64_lo i0, i64_hi i0⟩, ⟨i64_lo i1, i64_hi i1⟩, ⟨i64_lo i2, i64_hi i2⟩⟩
set_option maxRecDepth 100000 in
theorem open_acQ {v : Value} {d : DataW H} {ps : List MemPlace} (hv : Value.okWide Tryd.prog w .any base 69 v) (h : DataW.Trod enc Tryd.prog w 0 spare held 69 v d ps) :
    ∃ (A : Option Addr) (c : Nat) (xs : List AcQ), v = .slice A xs.length c ∧ LiesE encAcQ w (.slice A xs.length c) xs ∧ (∀ x ∈ xs, GoodAcQ x) ∧ xs.length ≤ 9223372036854775807 ∧ xs.length ≤ c :=
  open_lies encAcQ GoodAcQ (by decide) (by kernel_rfl) (by kernel_rfl) (fun _ _ _ h => cells_AcQ h) hv h
end
end Go.Proofs.YtbfbhlpibclccaaDoor
