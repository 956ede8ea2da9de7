/- The answers that the document fixes by number: the law's own awake. No conditions. -/
import Derived.Test.YtbfbhlpibclccaaDoorSqX
import Derived.Laws.StructEq
namespace Go.Proofs.YtbfbhlpibclccaaDoor
open Go Go.RowKit Go.Maps Go.Sort

set_option maxRecDepth 100000 in
set_option maxHeartbeats 3200000 in
theorem awake19_c (w : World) : Calls Tryd.prog 31 #[] w fun e w' => e = .returned (.bool true) ∧ Below w.heap.size w w' := by
  have hk : okQ ⟨4, 2⟩ := by unfold okQ i64; simp
  have HKK := Lib.hid hk
  have hE : ∀ W, (Op.equalIn 10000 85 (.agg #[.int .i64 4, .int .i64 2, .int .i64 2, .int .i64 1]) (.agg #[.int .i64 4, .int .i64 2, .int .i64 2, .int .i64 1])).run Tryd.prog W = .ok true W := fun W => by rw [eqCt]; rfl
  have i3 : i64 3 := by unfold i64; omega
  have i1 : i64 1 := by unfold i64; omega
  have HI3 := Lib.hid i3; have HI1 := Lib.hid i1
  clear hk i3 i1
  go_enter Tryd.func31, Tryd.ntmps31
  go_wp2_with fail
  refine (sx_new (w0 := w) (Below.refl _ _)).mono ?_
  rintro e w1 ⟨q, b, rfl, h1⟩
  have H1 := Lib.hid h1
  clear h1
  go_wp2_with fail
  refine (H1.out.add_c ⟨4, 2, false⟩ HKK.out (by simp)).mono ?_
  rintro e w2 ⟨rfl, h2, -⟩
  have H2 := Lib.hid h2
  clear h2 H1
  go_wp2_with fail
  refine (H2.out.add_c ⟨4, 2, false⟩ HKK.out (by simp)).mono ?_
  rintro e w3 ⟨rfl, h3, -⟩
  have H3 := Lib.hid h3
  clear h3 H2
  go_wp2_with fail
  refine (H3.out.add_c ⟨4, 2, true⟩ HKK.out (by simp)).mono ?_
  rintro e w4 ⟨rfl, h4, -⟩
  obtain ⟨E, hE0⟩ : ∃ E : List Ev, [] ++ [⟨4, 2, false⟩] ++ [⟨4, 2, false⟩] ++ [⟨4, 2, true⟩] = E := ⟨_, rfl⟩
  have hf : ((cntE E 4 2 false : Nat) : Int) = 2 := by rw [← hE0]; rfl
  have ht : ((cntE E 4 2 true : Nat) : Int) = 1 := by rw [← hE0]; rfl
  have hone : ∀ e ∈ E, keyE e = ⟨4, 2⟩ := by
    rw [← hE0]; intro e he
    simp only [List.nil_append, List.cons_append, List.mem_cons, List.not_mem_nil, or_false] at he
    rcases he with rfl | rfl | rfl <;> rfl
  have hne : E ≠ [] := by rw [← hE0]; simp
  have hlen : E.length ≤ 1000 := by rw [← hE0]; simp
  rw [hE0] at h4
  have H4 := Lib.hid h4
  have hof := h4.of_c HKK.out
  simp only at hof
  rw [hf, ht] at hof
  have HOF := Lib.hid hof
  have HLF : Hid (∀ W n, SqX w W q b E → i64 n → Calls Tryd.prog 39 #[.pointer (some ⟨q, 0, none⟩), .int .i64 4, .int .i64 2, .int .i64 n] W fun r w' => r = .returned (.int .i64 (leftI 2 n)) ∧ Below W.heap.size W w') := Lib.hid fun W n h hn => by
    have := h.left_c HKK.out hn
    simp only at this
    rw [hf] at this
    exact this
  have HONE := Lib.hid hone; have HNE := Lib.hid hne; have HLEN := Lib.hid hlen
  clear h4 H3 hE0 hf ht hone hne hlen hof
  go_wp2_with fail
  refine HOF.out.mono ?_
  rintro e w5 ⟨rfl, b5⟩
  have H5 := Lib.hid (H4.out.on b5)
  clear b5 H4 HOF
  go_wp2_with fail
  refine (HLF.out _ 3 H5.out HI3.out).mono ?_
  rintro e w6 ⟨rfl, b6⟩
  have H6 := Lib.hid (H5.out.on b6)
  rw [show leftI 2 3 = 1 from rfl]
  clear b6 H5
  go_wp2_with fail
  refine (HLF.out _ 1 H6.out HI1.out).mono ?_
  rintro e w7 ⟨rfl, b7⟩
  have H7 := Lib.hid (H6.out.on b7)
  rw [show leftI 2 1 = 0 from rfl]
  clear b7 H6
  go_wp2_with fail
  refine (H7.out.list_c HLEN.out).mono ?_
  rintro e w8 ⟨A, c, M, rfl, hls, -, b8⟩
  have hm := hls.one HONE.out HNE.out
  rw [hm]
  have HB8 := Lib.hid (H7.out.on b8).below
  clear b8 H7 hls hm
  go_wp2_with fail
  go_ret
  exact ⟨rfl, HB8.out⟩
end Go.Proofs.YtbfbhlpibclccaaDoor
