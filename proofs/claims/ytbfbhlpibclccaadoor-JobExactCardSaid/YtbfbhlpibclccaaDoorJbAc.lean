/- How the law's deeds that came in read, as a row. No conditions. -/
import Derived.Test.YtbfbhlpibclccaaDoorLieO
import Derived.Test.YtbfbhlpibclccaaDoorJbA
namespace Go.Proofs.YtbfbhlpibclccaaDoor
open Go Go.ChangeShapes Go.WideShapes Go.ChangeAt Go.WideMaps Go.WideElems Go.RowKit

theorem some_ofAcJ {α : Type} {l : List α} {i : Nat} {o : Option α} (h : o = l[i]?) (hi : i < l.length) : ∃ x, o = some x := ⟨_, h.trans (List.getElem?_eq_getElem hi)⟩
/-- A deed. -/
structure AcJ where
  kind : Int
  job : JR
  tk : Tk
  n : Int
def okJ (x : JR) : Prop := i64 x.id ∧ i64 x.tasks ∧ okV x.need
def GoodAcJ (x : AcJ) : Prop := i64 x.kind ∧ okJ x.job ∧ okT x.tk ∧ i64 x.n
def encAcJ : EncK AcJ 18 where
  enc x := [.int .i64 x.kind, .int .i64 x.job.id, .int .i64 x.job.tenant, .int .i64 x.job.cell, .int .i64 x.job.band, .int .i64 x.job.tasks, .int .i64 x.job.need.a, .int .i64 x.job.need.b, .int .i64 x.job.need.c, .int .i64 x.job.need.d, .int .i64 x.job.first, .int .i64 x.job.windows, .int .i64 x.job.budget, .bool x.job.env, .int .i64 x.job.set, .int .i64 x.tk.job, .int .i64 x.tk.ix, .int .i64 x.n]
  len _ := rfl
  one x u hu := by simp at hu; rcases hu with rfl | rfl | rfl | rfl | rfl | rfl | rfl | rfl | rfl | rfl | rfl | rfl | rfl | rfl | rfl | rfl | rfl | rfl <;> rfl
section
variable {H : Type} {enc : TypeId × Value → H} {w : World} {base : Nat} {spare : Nat → Bool} {held : Bool}
set_option maxRecDepth 100000 in
theorem tk_cellsJ {fuel : Nat} {cs : List Value} {x : DataW H × List MemPlace} (h : DataW.trod enc Tryd.prog w base spare held fuel 35 cs = some x) :
    ∃ x : Tk, cs = [.int .i64 x.job, .int .i64 x.ix] ∧ okT x := by
  obtain ⟨xs, m, _, hx, hlen, hxl, hg⟩ := DataW.trod_struct Tryd.underlying35 h
  have cN : Tryd.prog.cellsOf 35 = 2 := by kernel_rfl
  rw [cN] at hlen
  have hl5 : xs.length = 2 := hxl
  obtain ⟨k0, k1, rfl⟩ : ∃ k0 k1, cs = [k0, k1] := by
    match cs, hlen with
    | [q0, q1], _ => exact ⟨q0, q1, rfl⟩
  have z_int : Tryd.prog.cellsOf 3 = 1 := by kernel_rfl
  have g0 : DataW.trod enc Tryd.prog w base spare held m 3 [k0] = xs[0]? := by
    have := hg 0 _ rfl
    change DataW.trod enc Tryd.prog w base spare held m 3 (([k0, k1].drop 0).take (Tryd.prog.cellsOf 3)) = xs[0]? at this
    rw [z_int] at this
    exact this
  have g1 : DataW.trod enc Tryd.prog w base spare held m 3 [k1] = xs[1]? := by
    have := hg 1 _ rfl
    change DataW.trod enc Tryd.prog w base spare held m 3 (([k0, k1].drop 1).take (Tryd.prog.cellsOf 3)) = xs[1]? at this
    rw [z_int] at this
    exact this
  obtain ⟨y0, e0⟩ := some_ofAcJ g0 (by omega)
  obtain ⟨n0, h0, _, i0⟩ := DataW.trod_int Tryd.underlying3 e0
  obtain ⟨y1, e1⟩ := some_ofAcJ g1 (by omega)
  obtain ⟨n1, h1, _, i1⟩ := DataW.trod_int Tryd.underlying3 e1
  simp only [List.cons.injEq, and_true] at h0 h1
  subst h0
  subst h1
  exact ⟨⟨n0, n1⟩, rfl, ⟨⟨i64_lo i0, i64_hi i0⟩, ⟨i64_lo i1, i64_hi i1⟩⟩⟩
set_option maxRecDepth 100000 in
theorem cells_JR {fuel : Nat} {cs : List Value} {x : DataW H × List MemPlace} (h : DataW.trod enc Tryd.prog w base spare held fuel 33 cs = some x) :
    ∃ x : JR, cs = [.int .i64 x.id, .int .i64 x.tenant, .int .i64 x.cell, .int .i64 x.band, .int .i64 x.tasks, .int .i64 x.need.a, .int .i64 x.need.b, .int .i64 x.need.c, .int .i64 x.need.d, .int .i64 x.first, .int .i64 x.windows, .int .i64 x.budget, .bool x.env, .int .i64 x.set] ∧ okJ x := by
  obtain ⟨xs, m, _, hx, hlen, hxl, hg⟩ := DataW.trod_struct Tryd.underlying33 h
  have cN : Tryd.prog.cellsOf 33 = 14 := by kernel_rfl
  rw [cN] at hlen
  have hl5 : xs.length = 11 := hxl
  obtain ⟨k0, k1, k2, k3, k4, k5, k6, k7, k8, k9, k10, k11, k12, k13, rfl⟩ : ∃ k0 k1 k2 k3 k4 k5 k6 k7 k8 k9 k10 k11 k12 k13, cs = [k0, k1, k2, k3, k4, k5, k6, k7, k8, k9, k10, k11, k12, k13] := by
    match cs, hlen with
    | [q0, q1, q2, q3, q4, q5, q6, q7, q8, q9, q10, q11, q12, q13], _ => exact ⟨q0, q1, q2, q3, q4, q5, q6, q7, q8, q9, q10, q11, q12, q13, rfl⟩
  have z_api_Vec : Tryd.prog.cellsOf 31 = 4 := by kernel_rfl
  have z_bool : Tryd.prog.cellsOf 4 = 1 := by kernel_rfl
  have z_int : Tryd.prog.cellsOf 3 = 1 := by kernel_rfl
  have g0 : DataW.trod enc Tryd.prog w base spare held m 3 [k0] = xs[0]? := by
    have := hg 0 _ rfl
    change DataW.trod enc Tryd.prog w base spare held m 3 (([k0, k1, k2, k3, k4, k5, k6, k7, k8, k9, k10, k11, k12, k13].drop 0).take (Tryd.prog.cellsOf 3)) = xs[0]? at this
    rw [z_int] at this
    exact this
  have g1 : DataW.trod enc Tryd.prog w base spare held m 3 [k1] = xs[1]? := by
    have := hg 1 _ rfl
    change DataW.trod enc Tryd.prog w base spare held m 3 (([k0, k1, k2, k3, k4, k5, k6, k7, k8, k9, k10, k11, k12, k13].drop 1).take (Tryd.prog.cellsOf 3)) = xs[1]? at this
    rw [z_int] at this
    exact this
  have g2 : DataW.trod enc Tryd.prog w base spare held m 3 [k2] = xs[2]? := by
    have := hg 2 _ rfl
    change DataW.trod enc Tryd.prog w base spare held m 3 (([k0, k1, k2, k3, k4, k5, k6, k7, k8, k9, k10, k11, k12, k13].drop 2).take (Tryd.prog.cellsOf 3)) = xs[2]? at this
    rw [z_int] at this
    exact this
  have g3 : DataW.trod enc Tryd.prog w base spare held m 3 [k3] = xs[3]? := by
    have := hg 3 _ rfl
    change DataW.trod enc Tryd.prog w base spare held m 3 (([k0, k1, k2, k3, k4, k5, k6, k7, k8, k9, k10, k11, k12, k13].drop 3).take (Tryd.prog.cellsOf 3)) = xs[3]? at this
    rw [z_int] at this
    exact this
  have g4 : DataW.trod enc Tryd.prog w base spare held m 3 [k4] = xs[4]? := by
    have := hg 4 _ rfl
    change DataW.trod enc Tryd.prog w base spare held m 3 (([k0, k1, k2, k3, k4, k5, k6, k7, k8, k9, k10, k11, k12, k13].drop 4).take (Tryd.prog.cellsOf 3)) = xs[4]? at this
    rw [z_int] at this
    exact this
  have g5 : DataW.trod enc Tryd.prog w base spare held m 31 [k5, k6, k7, k8] = xs[5]? := by
    have := hg 5 _ rfl
    change DataW.trod enc Tryd.prog w base spare held m 31 (([k0, k1, k2, k3, k4, k5, k6, k7, k8, k9, k10, k11, k12, k13].drop 5).take (Tryd.prog.cellsOf 31)) = xs[5]? at this
    rw [z_api_Vec] at this
    exact this
  have g6 : DataW.trod enc Tryd.prog w base spare held m 3 [k9] = xs[6]? := by
    have := hg 6 _ rfl
    change DataW.trod enc Tryd.prog w base spare held m 3 (([k0, k1, k2, k3, k4, k5, k6, k7, k8, k9, k10, k11, k12, k13].drop 9).take (Tryd.prog.cellsOf 3)) = xs[6]? at this
    rw [z_int] at this
    exact this
  have g7 : DataW.trod enc Tryd.prog w base spare held m 3 [k10] = xs[7]? := by
    have := hg 7 _ rfl
    change DataW.trod enc Tryd.prog w base spare held m 3 (([k0, k1, k2, k3, k4, k5, k6, k7, k8, k9, k10, k11, k12, k13].drop 10).take (Tryd.prog.cellsOf 3)) = xs[7]? at this
    rw [z_int] at this
    exact this
  have g8 : DataW.trod enc Tryd.prog w base spare held m 3 [k11] = xs[8]? := by
    have := hg 8 _ rfl
    change DataW.trod enc Tryd.prog w base spare held m 3 (([k0, k1, k2, k3, k4, k5, k6, k7, k8, k9, k10, k11, k12, k13].drop 11).take (Tryd.prog.cellsOf 3)) = xs[8]? at this
    rw [z_int] at this
    exact this
  have g9 : DataW.trod enc Tryd.prog w base spare held m 4 [k12] = xs[9]? := by
    have := hg 9 _ rfl
    change DataW.trod enc Tryd.prog w base spare held m 4 (([k0, k1, k2, k3, k4, k5, k6, k7, k8, k9, k10, k11, k12, k13].drop 12).take (Tryd.prog.cellsOf 4)) = xs[9]? at this
    rw [z_bool] at this
    exact this
  have g10 : DataW.trod enc Tryd.prog w base spare held m 3 [k13] = xs[10]? := by
    have := hg 10 _ rfl
    change DataW.trod enc Tryd.prog w base spare held m 3 (([k0, k1, k2, k3, k4, k5, k6, k7, k8, k9, k10, k11, k12, k13].drop 13).take (Tryd.prog.cellsOf 3)) = xs[10]? at this
    rw [z_int] at this
    exact this
  obtain ⟨y0, e0⟩ := some_ofAcJ g0 (by omega)
  obtain ⟨n0, h0, _, i0⟩ := DataW.trod_int Tryd.underlying3 e0
  obtain ⟨y1, e1⟩ := some_ofAcJ g1 (by omega)
  obtain ⟨n1, h1, _, i1⟩ := DataW.trod_int Tryd.underlying3 e1
  obtain ⟨y2, e2⟩ := some_ofAcJ g2 (by omega)
  obtain ⟨n2, h2, _, i2⟩ := DataW.trod_int Tryd.underlying3 e2
  obtain ⟨y3, e3⟩ := some_ofAcJ g3 (by omega)
  obtain ⟨n3, h3, _, i3⟩ := DataW.trod_int Tryd.underlying3 e3
  obtain ⟨y4, e4⟩ := some_ofAcJ g4 (by omega)
  obtain ⟨n4, h4, _, i4⟩ := DataW.trod_int Tryd.underlying3 e4
  obtain ⟨y5, e5⟩ := some_ofAcJ g5 (by omega)
  obtain ⟨n5, h5, i5⟩ := v4_cells e5
  obtain ⟨y6, e6⟩ := some_ofAcJ g6 (by omega)
  obtain ⟨n6, h6, _, i6⟩ := DataW.trod_int Tryd.underlying3 e6
  obtain ⟨y7, e7⟩ := some_ofAcJ g7 (by omega)
  obtain ⟨n7, h7, _, i7⟩ := DataW.trod_int Tryd.underlying3 e7
  obtain ⟨y8, e8⟩ := some_ofAcJ g8 (by omega)
  obtain ⟨n8, h8, _, i8⟩ := DataW.trod_int Tryd.underlying3 e8
  obtain ⟨y9, e9⟩ := some_ofAcJ g9 (by omega)
  obtain ⟨n9, h9, _⟩ := DataW.trod_bool Tryd.underlying4 e9
  obtain ⟨y10, e10⟩ := some_ofAcJ g10 (by omega)
  obtain ⟨n10, h10, _, i10⟩ := DataW.trod_int Tryd.underlying3 e10
  simp only [List.cons.injEq, and_true] at h0 h1 h2 h3 h4 h5 h6 h7 h8 h9 h10
  subst h0
  subst h1
  subst h2
  subst h3
  subst h4
  obtain ⟨rfl, rfl, rfl, rfl⟩ := h5
  subst h6
  subst h7
  subst h8
  subst h9
  subst h10
  exact ⟨⟨n0, n1, n2, n3, n4, n5, n6, n7, n8, n9, n10⟩, rfl, ⟨⟨i64_lo i0, i64_hi i0⟩, ⟨i64_lo i4, i64_hi i4⟩, i5⟩⟩
set_option maxRecDepth 100000 in
theorem cells_AcJ {fuel : Nat} {cs : List Value} {x : DataW H × List MemPlace} (h : DataW.trod enc Tryd.prog w base spare held fuel 37 cs = some x) :
    ∃ x : AcJ, cs = encAcJ.enc x ∧ GoodAcJ x := by
  obtain ⟨xs, m, _, hx, hlen, hxl, hg⟩ := DataW.trod_struct Tryd.underlying37 h
  have cN : Tryd.prog.cellsOf 37 = 18 := by kernel_rfl
  rw [cN] at hlen
  have hl5 : xs.length = 4 := hxl
  obtain ⟨k0, k1, k2, k3, k4, k5, k6, k7, k8, k9, k10, k11, k12, k13, k14, k15, k16, k17, rfl⟩ : ∃ k0 k1 k2 k3 k4 k5 k6 k7 k8 k9 k10 k11 k12 k13 k14 k15 k16 k17, cs = [k0, k1, k2, k3, k4, k5, k6, k7, k8, k9, k10, k11, k12, k13, k14, k15, k16, k17] := by
    match cs, hlen with
    | [q0, q1, q2, q3, q4, q5, q6, q7, q8, q9, q10, q11, q12, q13, q14, q15, q16, q17], _ => exact ⟨q0, q1, q2, q3, q4, q5, q6, q7, q8, q9, q10, q11, q12, q13, q14, q15, q16, q17, rfl⟩
  have z_api_Task : Tryd.prog.cellsOf 35 = 2 := by kernel_rfl
  have z_int : Tryd.prog.cellsOf 3 = 1 := by kernel_rfl
  have z_job_Job : Tryd.prog.cellsOf 33 = 14 := by kernel_rfl
  have g0 : DataW.trod enc Tryd.prog w base spare held m 3 [k0] = xs[0]? := by
    have := hg 0 _ rfl
    change DataW.trod enc Tryd.prog w base spare held m 3 (([k0, k1, k2, k3, k4, k5, k6, k7, k8, k9, k10, k11, k12, k13, k14, k15, k16, k17].drop 0).take (Tryd.prog.cellsOf 3)) = xs[0]? at this
    rw [z_int] at this
    exact this
  have g1 : DataW.trod enc Tryd.prog w base spare held m 33 [k1, k2, k3, k4, k5, k6, k7, k8, k9, k10, k11, k12, k13, k14] = xs[1]? := by
    have := hg 1 _ rfl
    change DataW.trod enc Tryd.prog w base spare held m 33 (([k0, k1, k2, k3, k4, k5, k6, k7, k8, k9, k10, k11, k12, k13, k14, k15, k16, k17].drop 1).take (Tryd.prog.cellsOf 33)) = xs[1]? at this
    rw [z_job_Job] at this
    exact this
  have g2 : DataW.trod enc Tryd.prog w base spare held m 35 [k15, k16] = xs[2]? := by
    have := hg 2 _ rfl
    change DataW.trod enc Tryd.prog w base spare held m 35 (([k0, k1, k2, k3, k4, k5, k6, k7, k8, k9, k10, k11, k12, k13, k14, k15, k16, k17].drop 15).take (Tryd.prog.cellsOf 35)) = xs[2]? at this
    rw [z_api_Task] at this
    exact this
  have g3 : DataW.trod enc Tryd.prog w base spare held m 3 [k17] = xs[3]? := by
    have := hg 3 _ rfl
    change DataW.trod enc Tryd.prog w base spare held m 3 (([k0, k1, k2, k3, k4, k5, k6, k7, k8, k9, k10, k11, k12, k13, k14, k15, k16, k17].drop 17).take (Tryd.prog.cellsOf 3)) = xs[3]? at this
    rw [z_int] at this
    exact this
  obtain ⟨y0, e0⟩ := some_ofAcJ g0 (by omega)
  obtain ⟨n0, h0, _, i0⟩ := DataW.trod_int Tryd.underlying3 e0
  obtain ⟨y1, e1⟩ := some_ofAcJ g1 (by omega)
  obtain ⟨n1, h1, i1⟩ := cells_JR e1
  obtain ⟨y2, e2⟩ := some_ofAcJ g2 (by omega)
  obtain ⟨n2, h2, i2⟩ := tk_cellsJ e2
  obtain ⟨y3, e3⟩ := some_ofAcJ g3 (by omega)
  obtain ⟨n3, h3, _, i3⟩ := DataW.trod_int Tryd.underlying3 e3
  simp only [List.cons.injEq, and_true] at h0 h1 h2 h3
  subst h0
  obtain ⟨rfl, rfl, rfl, rfl, rfl, rfl, rfl, rfl, rfl, rfl, rfl, rfl, rfl, rfl⟩ := h1
  obtain ⟨rfl, rfl⟩ := h2
  subst h3
  exact ⟨⟨n0, n1, n2, n3⟩, rfl, ⟨⟨i64_lo i0, i64_hi i0⟩, i1, i2, ⟨i64_lo i3, i64_hi i3⟩⟩⟩
set_option maxRecDepth 100000 in
theorem open_acJ {v : Value} {d : DataW H} {ps : List MemPlace} (hv : Value.okWide Tryd.prog w .any base 22 v) (h : DataW.Trod enc Tryd.prog w 0 spare held 22 v d ps) :
    ∃ (A : Option Addr) (c : Nat) (xs : List AcJ), v = .slice A xs.length c ∧ LiesE encAcJ w (.slice A xs.length c) xs ∧ (∀ x ∈ xs, GoodAcJ x) ∧ xs.length ≤ 9223372036854775807 ∧ xs.length ≤ c :=
  open_lies encAcJ GoodAcJ (by decide) (by kernel_rfl) (by kernel_rfl) (fun _ _ _ h => cells_AcJ h) hv h
end
end Go.Proofs.YtbfbhlpibclccaaDoor
