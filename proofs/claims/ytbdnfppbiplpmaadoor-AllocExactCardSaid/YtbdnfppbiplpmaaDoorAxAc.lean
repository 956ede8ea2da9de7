/- How the law's deeds that came in read, as a row. No conditions. -/
import Derived.Test.YtbdnfppbiplpmaaDoorOpenV4
import Derived.Test.YtbdnfppbiplpmaaDoorLieO
import Derived.Test.YtbdnfppbiplpmaaDoorTkE
import Derived.Test.YtbdnfppbiplpmaaDoorAlM
namespace Go.Proofs.YtbdnfppbiplpmaaDoor
open Go Go.ChangeShapes Go.WideShapes Go.ChangeAt Go.WideMaps Go.WideElems Go.RowKit

theorem some_ofAcA {α : Type} {l : List α} {i : Nat} {o : Option α} (h : o = l[i]?) (hi : i < l.length) : ∃ x, o = some x := ⟨_, h.trans (List.getElem?_eq_getElem hi)⟩
/-- A deed. -/
structure AcA where
  kind : Int
  set : Int
  n : Int
  tk : Tk
  v : V4
def GoodAcA (x : AcA) : Prop := i64 x.kind ∧ i64 x.set ∧ i64 x.n ∧ okT x.tk ∧ okV x.v
def encAcA : EncK AcA 9 where
  enc x := [.int .i64 x.kind, .int .i64 x.set, .int .i64 x.n, .int .i64 x.tk.job, .int .i64 x.tk.ix, .int .i64 x.v.a, .int .i64 x.v.b, .int .i64 x.v.c, .int .i64 x.v.d]
  len _ := rfl
  one x u hu := by simp at hu; rcases hu with rfl | rfl | rfl | rfl | rfl | rfl | rfl | rfl | rfl <;> rfl
section
variable {H : Type} {enc : TypeId × Value → H} {w : World} {base : Nat} {spare : Nat → Bool} {held : Bool}
set_option maxRecDepth 100000 in
theorem tk_cells {fuel : Nat} {cs : List Value} {x : DataW H × List MemPlace} (h : DataW.trod enc Tryd.prog w base spare held fuel 32 cs = some x) :
    ∃ x : Tk, cs = [.int .i64 x.job, .int .i64 x.ix] ∧ okT x := by
  obtain ⟨xs, m, _, hx, hlen, hxl, hg⟩ := DataW.trod_struct Tryd.underlying32 h
  have cN : Tryd.prog.cellsOf 32 = 2 := by kernel_rfl
  rw [cN] at hlen
  have hl5 : xs.length = 2 := hxl
  obtain ⟨k0, k1, rfl⟩ : ∃ k0 k1, cs = [k0, k1] := by
    match cs, hlen with
    | [q0, q1], _ => exact ⟨q0, q1, rfl⟩
  have z_int : Tryd.prog.cellsOf 3 = 1 := by kernel_rfl
  have g0 : DataW.trod enc Tryd.prog w base spare held m 3 [k0] = xs[0]? := by
    have := hg 0 _ rfl
    change DataW.trod enc Tryd.prog w base spare held m 3 (([k0, k1].drop 0).take (Tryd.prog.cellsOf 3)) = xs[0]? at this
    rw [z_int] at this
    exact this
  have g1 : DataW.trod enc Tryd.prog w base spare held m 3 [k1] = xs[1]? := by
    have := hg 1 _ rfl
    change DataW.trod enc Tryd.prog w base spare held m 3 (([k0, k1].drop 1).take (Tryd.prog.cellsOf 3)) = xs[1]? at this
    rw [z_int] at this
    exact this
  obtain ⟨y0, e0⟩ := some_ofAcA g0 (by omega)
  obtain ⟨n0, h0, _, i0⟩ := DataW.trod_int Tryd.underlying3 e0
  obtain ⟨y1, e1⟩ := some_ofAcA g1 (by omega)
  obtain ⟨n1, h1, _, i1⟩ := DataW.trod_int Tryd.underlying3 e1
  simp only [List.cons.injEq, and_true] at h0 h1
  subst h0; subst h1
  exact ⟨⟨n0, n1⟩, rfl, ⟨i64_lo i0, i64_hi i0⟩, ⟨i64_lo i1, i64_hi i1⟩⟩
set_option maxRecDepth 100000 in
theorem cells_AcA {fuel : Nat} {cs : List Value} {x : DataW H × List MemPlace} (h : DataW.trod enc Tryd.prog w base spare held fuel 36 cs = some x) :
    ∃ x : AcA, cs = encAcA.enc x ∧ GoodAcA x := by
  obtain ⟨xs, m, _, hx, hlen, hxl, hg⟩ := DataW.trod_struct Tryd.underlying36 h
  have cN : Tryd.prog.cellsOf 36 = 9 := by kernel_rfl
  rw [cN] at hlen
  have hl5 : xs.length = 5 := hxl
  obtain ⟨k0, k1, k2, k3, k4, k5, k6, k7, k8, rfl⟩ : ∃ k0 k1 k2 k3 k4 k5 k6 k7 k8, cs = [k0, k1, k2, k3, k4, k5, k6, k7, k8] := by
    match cs, hlen with
    | [q0, q1, q2, q3, q4, q5, q6, q7, q8], _ => exact ⟨q0, q1, q2, q3, q4, q5, q6, q7, q8, rfl⟩
  have z_int : Tryd.prog.cellsOf 3 = 1 := by kernel_rfl
  have z_tk : Tryd.prog.cellsOf 32 = 2 := by kernel_rfl
  have z_v4 : Tryd.prog.cellsOf 34 = 4 := by kernel_rfl
  have g0 : DataW.trod enc Tryd.prog w base spare held m 3 [k0] = xs[0]? := by
    have := hg 0 _ rfl
    change DataW.trod enc Tryd.prog w base spare held m 3 (([k0, k1, k2, k3, k4, k5, k6, k7, k8].drop 0).take (Tryd.prog.cellsOf 3)) = xs[0]? at this
    rw [z_int] at this
    exact this
  have g1 : DataW.trod enc Tryd.prog w base spare held m 3 [k1] = xs[1]? := by
    have := hg 1 _ rfl
    change DataW.trod enc Tryd.prog w base spare held m 3 (([k0, k1, k2, k3, k4, k5, k6, k7, k8].drop 1).take (Tryd.prog.cellsOf 3)) = xs[1]? at this
    rw [z_int] at this
    exact this
  have g2 : DataW.trod enc Tryd.prog w base spare held m 3 [k2] = xs[2]? := by
    have := hg 2 _ rfl
    change DataW.trod enc Tryd.prog w base spare held m 3 (([k0, k1, k2, k3, k4, k5, k6, k7, k8].drop 2).take (Tryd.prog.cellsOf 3)) = xs[2]? at this
    rw [z_int] at this
    exact this
  have g3 : DataW.trod enc Tryd.prog w base spare held m 32 [k3, k4] = xs[3]? := by
    have := hg 3 _ rfl
    change DataW.trod enc Tryd.prog w base spare held m 32 (([k0, k1, k2, k3, k4, k5, k6, k7, k8].drop 3).take (Tryd.prog.cellsOf 32)) = xs[3]? at this
    rw [z_tk] at this
    exact this
  have g4 : DataW.trod enc Tryd.prog w base spare held m 34 [k5, k6, k7, k8] = xs[4]? := by
    have := hg 4 _ rfl
    change DataW.trod enc Tryd.prog w base spare held m 34 (([k0, k1, k2, k3, k4, k5, k6, k7, k8].drop 5).take (Tryd.prog.cellsOf 34)) = xs[4]? at this
    rw [z_v4] at this
    exact this
  obtain ⟨y0, e0⟩ := some_ofAcA g0 (by omega)
  obtain ⟨n0, h0, _, i0⟩ := DataW.trod_int Tryd.underlying3 e0
  obtain ⟨y1, e1⟩ := some_ofAcA g1 (by omega)
  obtain ⟨n1, h1, _, i1⟩ := DataW.trod_int Tryd.underlying3 e1
  obtain ⟨y2, e2⟩ := some_ofAcA g2 (by omega)
  obtain ⟨n2, h2, _, i2⟩ := DataW.trod_int Tryd.underlying3 e2
  obtain ⟨y3, e3⟩ := some_ofAcA g3 (by omega)
  obtain ⟨n3, h3, i3⟩ := tk_cells e3
  obtain ⟨y4, e4⟩ := some_ofAcA g4 (by omega)
  obtain ⟨n4, h4, i4⟩ := v4_cells e4
  simp only [List.cons.injEq, and_true] at h0 h1 h2 h3 h4
  obtain ⟨rfl, rfl, rfl, rfl⟩ := h4
  obtain ⟨rfl, rfl⟩ := h3
  subst h0; subst h1; subst h2
  exact ⟨⟨n0, n1, n2, n3, n4⟩, rfl, ⟨⟨i64_lo i0, i64_hi i0⟩, ⟨i64_lo i1, i64_hi i1⟩, ⟨i64_lo i2, i64_hi i2⟩, i3, i4⟩⟩
set_option maxRecDepth 100000 in
theorem open_acA {v : Value} {d : DataW H} {ps : List MemPlace} (hv : Value.okWide Tryd.prog w .any base 22 v) (h : DataW.Trod enc Tryd.prog w 0 spare held 22 v d ps) :
    ∃ (A : Option Addr) (c : Nat) (xs : List AcA), v = .slice A xs.length c ∧ LiesE encAcA w (.slice A xs.length c) xs ∧ (∀ x ∈ xs, GoodAcA x) ∧ xs.length ≤ 9223372036854775807 ∧ xs.length ≤ c :=
  open_lies encAcA GoodAcA (by decide) (by kernel_rfl) (by kernel_rfl) (fun _ _ _ h => cells_AcA h) hv h
end
end Go.Proofs.YtbdnfppbiplpmaaDoor
