/- The reference's book of evictions: Count and Keep by contracts. Condition: the book lies in memory as its row has it. -/
import Derived.Test.YtbfbhlpibclccaaDoorSqK
import Derived.Test.YtbfbhlpibclccaaDoorChP
import Derived.Test.YtbfbhlpibclccaaDoorErrs
import Derived.Deep.DeepCutAuto
import Derived.Deep.CutBlock
import Derived.LoopTactic
import Derived.Lib.Hide
namespace Go.Proofs.YtbfbhlpibclccaaDoor
open Go Go.RowKit Go.Maps

def natR : Value → Nat
  | .int _ z => z.toNat
  | _ => 0
/-- The reference's book: its box, its row. -/
structure RqA (w : World) (u : Nat) (v : Value) (E : List Ev) : Prop where
  box : w.heap[u]? = some (.cells #[v] 75 (0, 0))
  s : OwnE encEv 82 w (u + 1) v E
def RqQ (u : Nat) (v : Value) (k : Nat) : Prop := k = u ∨ v.ownBlock = some k
section
variable {w w' : World} {u : Nat} {v : Value} {E : List Ev}
theorem RqA.old (h : RqA w u v E) : ∀ k, RqQ u v k → u ≤ k ∧ k < w.heap.size := fun k hk => by
  rcases hk with rfl | hk
  · exact ⟨Nat.le_refl _, lt_of_row h.box⟩
  · have := h.s.lt k hk; exact ⟨by omega, this.2⟩
theorem RqA.same (h : RqA w u v E) (hb : ∀ k, RqQ u v k → w'.heap[k]? = w.heap[k]?) : RqA w' u v E := ⟨(hb u (.inl rfl)).trans h.box, h.s.same fun k hk => hb k (.inr hk)⟩
theorem RqA.on (h : RqA w u v E) (hb : Below w.heap.size w w') : RqA w' u v E := h.same fun k hk => hb.block k (h.old k hk).2
theorem RqA.far {R : Nat → Prop} (h : RqA w u v E) (hc : ChP R w w') (hR : ∀ k, RqQ u v k → ¬ R k) : RqA w' u v E := h.same fun k hk => hc.block k (h.old k hk).2 (hR k hk)
theorem RqA.at (h : RqA w u v E) : ∃ A c, v = .slice A E.length c ∧ w.cell? ⟨u, 0, none⟩ = some (.slice A E.length c) ∧ ∀ (i : Nat) (e : Ev), E[i]? = some e → ∃ ad g, A = some ad ∧ ad.add (i * 3) = ⟨g, i * 3, none⟩ ∧ ∀ r x, (encEv.enc e)[r]? = some x → w.cell? ⟨g, i * 3 + r, none⟩ = some x := by
  obtain ⟨A, c, hv⟩ := h.s.form
  refine ⟨A, c, hv, by rw [← hv]; exact cell_of_heap h.box 0, fun i s hi => ?_⟩
  have hs := h.s
  rw [hv] at hs
  obtain ⟨ad, g, hA, hg, _, _, _, hc⟩ := hs.at hi
  exact ⟨ad, g, hA, hg, hc⟩
end
set_option maxRecDepth 100000 in
set_option maxHeartbeats 3200000 in
/-- Count. -/
theorem rqcount_c {w : World} {u : Nat} {v : Value} {E : List Ev} (h : RqA w u v E) (hE : E.length ≤ 1000) (j wn : Int) (f : Bool) :
    Calls Tryd.prog 37 #[.pointer (some ⟨u, 0, none⟩), .int .i64 j, .int .i64 wn, .bool f] w fun e w' => e = .returned (.int .i64 (cntE E j wn f : Int)) ∧ w = w' := by
  obtain ⟨A, c, -, c0, hz⟩ := h.at
  obtain ⟨N, hN⟩ : ∃ N, E.length = N := ⟨_, rfl⟩
  rw [hN] at c0 hE
  have HNN := Lib.hid hN; have HZ := Lib.hid hz
  clear h hz hN
  go_enter Tryd.func37, Tryd.ntmps37
  go_wp2_with fail
  go_loopw [9, 10] (fun V I wr => ∃ i : Nat, i ≤ N ∧ V = .int .i64 (cntE (E.take i) j wn f : Int) ∧ I = .int .i64 (i : Int) ∧ w = wr) (fun _ I _ => N - natR I)
  case atStart => exact ⟨0, Nat.zero_le _, rfl, rfl, rfl⟩
  case round =>
    obtain ⟨i, hi, rfl, rfl, rfl⟩ := hrel
    have i0 : (0 : Int) ≤ (i : Int) := by omega
    have hcl : cntE (E.take i) j wn f ≤ i := Nat.le_trans (cntE_le _ _ _ _) (List.length_take_le _ _)
    obtain ⟨k, hk⟩ : ∃ k, cntE (E.take i) j wn f = k := ⟨_, rfl⟩
    rw [hk] at hcl ⊢
    have HK := Lib.hid hk
    by_cases hiN : i < N
    · have i1 : (i : Int) < (N : Int) := by omega
      have hw1 : wrap64 ((i : Int) + 1) = ((i + 1 : Nat) : Int) := by unfold wrap64; omega
      have hw2 : wrap64 ((k : Int) + 1) = ((k + 1 : Nat) : Int) := by unfold wrap64; omega
      obtain ⟨e, he⟩ : ∃ e, E[i]? = some e := ⟨_, List.getElem?_eq_getElem (by rw [HNN.out]; exact hiN)⟩
      obtain ⟨ad, g, rfl, ea, hcc⟩ := HZ.out i e he
      have x0 : w.cell? ⟨g, i * 3, none⟩ = some (.int .i64 e.job) := hcc 0 _ rfl
      have x1 := hcc 1 _ rfl
      have x2 := hcc 2 _ rfl
      have ht := cntE_take he j wn f
      rw [hk] at ht
      have HT := Lib.hid ht; have HIN := Lib.hid hiN; have HW1 := Lib.hid hw1; have HW2 := Lib.hid hw2
      clear hcc he ht hk hcl hi hiN hw1 hw2
      have HNO : Hid (isE j wn f e = false → cntE (E.take (i + 1)) j wn f = k) := Lib.hid fun h0 => by rw [HT.out, h0]; simp
      have HYES : Hid (isE j wn f e = true → cntE (E.take (i + 1)) j wn f = k + 1) := Lib.hid fun h0 => by rw [HT.out, h0]; simp
      by_cases h0 : e.job = j
      · have e0 : (e.job == j) = true := by simpa using h0
        by_cases h1 : e.win = wn
        · have e1 : (e.win == wn) = true := by simpa using h1
          cases e2 : (e.frc == f) with
          | true =>
            have hy := HYES.out (isE_iff.2 ⟨h0, h1, by simpa using e2⟩)
            have HY := Lib.hid hy
            clear h0 h1 hy HNO HYES
            go_wp2_with fail
            go_roundw
            case rel => exact ⟨i + 1, HIN.out, by rw [HY.out]; first | exact congrArg (Value.int .i64) HW2.out | rfl, by first | exact congrArg (Value.int .i64) HW1.out | rfl, by first | rfl | trivial⟩
            case measure => simp [natR]; have := HIN.out; omega
          | false =>
            have hy := HNO.out (by unfold isE; rw [e2]; simp)
            have HY := Lib.hid hy
            clear h0 h1 hy HNO HYES
            go_wp2_with fail
            go_roundw
            case rel => exact ⟨i + 1, HIN.out, by rw [HY.out], by first | exact congrArg (Value.int .i64) HW1.out | rfl, by first | rfl | trivial⟩
            case measure => simp [natR]; have := HIN.out; omega
        · have e1 : (e.win == wn) = false := by simpa using h1
          have hy := HNO.out (by unfold isE; rw [decide_eq_false h1]; simp)
          have HY := Lib.hid hy
          clear h0 h1 hy HNO HYES
          go_wp2_with fail
          go_roundw
          case rel => exact ⟨i + 1, HIN.out, by rw [HY.out], by first | exact congrArg (Value.int .i64) HW1.out | rfl, by first | rfl | trivial⟩
          case measure => simp [natR]; have := HIN.out; omega
      · have e0 : (e.job == j) = false := by simpa using h0
        have hy := HNO.out (by unfold isE; rw [decide_eq_false h0]; simp)
        have HY := Lib.hid hy
        clear h0 hy HNO HYES
        go_wp2_with fail
        go_roundw
        case rel => exact ⟨i + 1, HIN.out, by rw [HY.out], by first | exact congrArg (Value.int .i64) HW1.out | rfl, by first | rfl | trivial⟩
        case measure => simp [natR]; have := HIN.out; omega
    · obtain rfl : i = N := by omega
      have he : E.take i = E := List.take_of_length_le (by rw [HNN.out]; exact Nat.le_refl _)
      rw [he] at HK
      clear he hk hcl
      go_wp2_with fail
      go_ret
      exact ⟨by rw [HK.out]; rfl, rfl⟩
theorem lessE_take {E : List Ev} {i : Nat} {e : Ev} (h : E[i]? = some e) (pd : K2 → Bool) : lessE pd (E.take (i + 1)) = lessE pd (E.take i) ++ (if pd (keyE e) then [] else [e]) := by
  have e1 : E.take (i + 1) = E.take i ++ [e] := by rw [List.take_add_one, h]; rfl
  rw [e1]; unfold lessE
  rw [List.filter_append]
  cases hp : pd (keyE e) <;> simp [hp]
/-- What Keep makes of the reference's book. -/
def RqK (w w' : World) (u : Nat) (E' : List Ev) : Prop := ∃ v', RqA w' u v' E' ∧ (∀ k, v'.ownBlock = some k → w.heap.size ≤ k) ∧ ChP (fun k => k = u) w w'
set_option maxRecDepth 100000 in
set_option maxHeartbeats 6400000 in
/-- Keep: those of windows from one on. -/
theorem rqkeepw_c {w : World} {u : Nat} {v : Value} {E : List Ev} (h : RqA w u v E) (hE : E.length ≤ 1000) (wn : Int) :
    Calls Tryd.prog 34 #[.pointer (some ⟨u, 0, none⟩), .int .i64 wn, .int .i64 0, .bool false] w fun e w' => e = .returned (.tuple #[]) ∧ RqK w w' u (lessE (fun k : K2 => decide (k.win < wn)) E) := by
  obtain ⟨N, hN⟩ : ∃ N, E.length = N := ⟨_, rfl⟩
  rw [hN] at hE
  have hu := lt_of_row h.box
  obtain ⟨pd, hpd⟩ : ∃ pd : K2 → Bool, (fun k : K2 => decide (k.win < wn)) = pd := ⟨_, rfl⟩
  have HPD : Hid (∀ k, pd k = (fun k : K2 => decide (k.win < wn)) k) := Lib.hid fun k => by rw [hpd]
  rw [hpd]
  have HH := Lib.hid h; have HNN := Lib.hid hN; have HU := Lib.hid hu
  obtain ⟨ii, h0, q0, q1, q2⟩ := info_parts Tryd.infoEv
  clear h hN hu hpd
  go_enter Tryd.func34, Tryd.ntmps34
  go_wp2_with fail
  have A0 : Hid (OwnE encEv 82 (w.alloc (.cells #[] 82)) w.heap.size (.slice (some ⟨w.heap.size, 0, none⟩) 0 0) []) := Lib.hid (OwnE.none w (Nat.le_refl _))
  have B0 : Hid (Below w.heap.size w (w.alloc (.cells #[] 82))) := Lib.hid ((Below.refl _ _).alloc (Nat.le_refl _) _)
  go_loopw [8, 9, 10] (fun V I X wr => ∃ i : Nat, i ≤ N ∧ I = .int .i64 (i : Int) ∧ OwnE encEv 82 wr w.heap.size V (lessE pd (E.take i)) ∧ Below w.heap.size w wr) (fun _ I _ _ => N - natR I)
  case atStart => exact ⟨0, Nat.zero_le _, rfl, A0.out, B0.out⟩
  case round =>
    obtain ⟨i, hi, rfl, hown, hb⟩ := hrel
    clear A0 B0
    have i0 : (0 : Int) ≤ (i : Int) := by omega
    have hh := HH.out.on hb
    obtain ⟨A, c, hv, c0, hz⟩ := hh.at
    rw [HNN.out] at c0 hv
    obtain ⟨Ao, co, hvo⟩ := hown.form
    subst hvo
    have hlo : (lessE pd (E.take i)).length ≤ i := Nat.le_trans (List.length_filter_le _ _) (List.length_take_le _ _)
    have HO := Lib.hid hown; have HB := Lib.hid hb; have HLO := Lib.hid hlo
    obtain ⟨m, hm⟩ : ∃ m, (lessE pd (E.take i)).length = m := ⟨_, rfl⟩
    rw [hm] at HO ⊢
    have HM := Lib.hid hm
    clear hown hb hlo hm
    by_cases hiN : i < N
    · have i1 : (i : Int) < (N : Int) := by omega
      have hw1 : wrap64 ((i : Int) + 1) = ((i + 1 : Nat) : Int) := by unfold wrap64; omega
      obtain ⟨e, he⟩ : ∃ e, E[i]? = some e := ⟨_, List.getElem?_eq_getElem (by rw [HNN.out]; exact hiN)⟩
      obtain ⟨ad, g, rfl, ea, hcc⟩ := hz i e he
      have x0 : wr.cell? ⟨g, i * 3, none⟩ = some (.int .i64 e.job) := hcc 0 _ rfl
      have x1 := hcc 1 _ rfl
      have x2 := hcc 2 _ rfl
      have ht := lessE_take he pd
      obtain ⟨W1, hW1⟩ : ∃ W1, wr.alloc (.cells #[.int .i64 e.job, .int .i64 e.win, .bool e.frc] 82) = W1 := ⟨_, rfl⟩
      obtain ⟨X, hX⟩ : ∃ X, wr.heap.size = X := ⟨_, rfl⟩
      have hx1 : W1.heap[X]? = some (.cells #[.int .i64 e.job, .int .i64 e.win, .bool e.frc] 82 (0, 0)) := by rw [← hW1, ← hX]; exact heap_alloc_new _ _
      have hb1 : Below wr.heap.size wr W1 := by rw [← hW1]; exact (Below.refl _ _).alloc (Nat.le_refl _) _
      have HX1 := Lib.hid hx1; have HB1 := Lib.hid hb1; have HT := Lib.hid ht; have HIN := Lib.hid hiN; have HW := Lib.hid hw1; have HW1 := Lib.hid hW1; have HX := Lib.hid hX
      clear hcc he hz hh hv hx1 hb1 ht hiN hw1 hW1 hX hi
      go_upto_region 5 with fail
      rw [HW1.out, HX.out]
      clear x0 x1 x2 c0 ea
      have x0 := cell_of_heap HX1.out 0
      have x1 := cell_of_heap HX1.out 1
      have x2 := cell_of_heap HX1.out 2
      simp at x0 x1 x2
      cases hp : pd (keyE e) with
      | true =>
        have HT' : Hid (lessE pd (E.take (i + 1)) = lessE pd (E.take i)) := Lib.hid (by rw [HT.out, hp]; simp)
        rw [HPD.out] at hp
        have d1 : decide (wn ≤ e.win) = false := decide_eq_false (by have h9 : decide (e.win < wn) = true := hp; simp at h9; omega)
        clear hp HT
        go_wp2_with fail
        go_roundw
        case rel =>
          refine ⟨i + 1, HIN.out, by first | exact congrArg (Value.int .i64) HW.out | rfl, ?_, HB.out.trans (HB1.out.mono HB.out.size)⟩
          rw [HT'.out]; exact HO.out.on HB1.out
        case measure => simp [natR]; have := HIN.out; omega
      | false =>
        have HT' : Hid (lessE pd (E.take (i + 1)) = lessE pd (E.take i) ++ [e]) := Lib.hid (by rw [HT.out, hp]; simp)
        rw [HPD.out] at hp
        have d1 : decide (wn ≤ e.win) = true := decide_eq_true (by have h9 : decide (e.win < wn) = false := hp; simp at h9; omega)
        clear hp HT
        obtain ⟨W2, hW2⟩ : ∃ W2, W1.alloc (.cells #[.int .i64 e.job, .int .i64 e.win, .bool e.frc] 82) = W2 := ⟨_, rfl⟩
        obtain ⟨Y, hY⟩ : ∃ Y, W1.heap.size = Y := ⟨_, rfl⟩
        have hb2 : Below wr.heap.size wr W2 := by rw [← hW2]; exact HB1.out.alloc HB1.out.size _
        have A1 : Hid (OwnE encEv 82 (W1.alloc (.cells #[.int .i64 e.job, .int .i64 e.win, .bool e.frc] 82)) w.heap.size (.slice Ao m co) (lessE pd (E.take i))) := Lib.hid (by rw [hW2]; exact HO.out.on hb2)
        have A2 : Hid (LiesE encEv (W1.alloc (.cells #[.int .i64 e.job, .int .i64 e.win, .bool e.frc] 82)) (.slice (some ⟨W1.heap.size, 0, none⟩) 1 1) [e]) := Lib.hid (lies_lit encEv [e] (heap_alloc_new W1 _))
        have A3 : Hid ((lessE pd (E.take i)).length + [e].length ≤ maxLen) := Lib.hid (by have := HLO.out; have := HIN.out; simp only [List.length_singleton, maxLen]; omega)
        have A4 : Hid (((lessE pd (E.take i)).length + [e].length) * 24 ≤ 140737488355328) := Lib.hid (by have := HLO.out; have := HIN.out; simp only [List.length_singleton]; omega)
        have A5 : Hid (w.heap.size ≤ (W1.alloc (.cells #[.int .i64 e.job, .int .i64 e.win, .bool e.frc] 82)).heap.size) := Lib.hid (by rw [hW2]; exact Nat.le_trans HB.out.size hb2.size)
        have HB2 : Hid (Below w.heap.size w (W1.alloc (.cells #[.int .i64 e.job, .int .i64 e.win, .bool e.frc] 82))) := Lib.hid (by rw [hW2]; exact HB.out.trans (hb2.mono HB.out.size))
        have HS1 : Hid (W1.heap.size < (W1.alloc (.cells #[.int .i64 e.job, .int .i64 e.win, .bool e.frc] 82)).heap.size) := Lib.hid (by simp)
        have HWS : Hid (w.heap.size ≤ W1.heap.size) := Lib.hid (Nat.le_trans HB.out.size HB1.out.size)
        clear hW2 hY hb2
        go_wp2_with (at_builtin
                     refine wpList_append_E (E := encEv) rfl _ _ 73 rfl ii _ 24 Tryd.underlying73 h0 q0 q1 q2 rfl (by decide) rfl A1.out rfl A2.out A3.out A4.out A5.out ?_
                     intro v4 w4 own4 gr4 lo4
                     have hb4 : Below w.heap.size w w4 := HB2.out.grown gr4 HB2.out.size (fun k hk => (A1.out.lt k hk).1)
                     have H4 := Lib.hid own4; have HB4 := Lib.hid hb4
                     clear A1 A2 A3 A4 A5 own4 gr4 lo4 hb4)
        go_roundw
        case rel =>
          refine ⟨i + 1, HIN.out, by first | exact congrArg (Value.int .i64) HW.out | rfl, ?_, HB4.out⟩
          rw [HT'.out]; exact H4.out
        case measure => simp [natR]; have := HIN.out; omega
    · obtain rfl : i = N := by omega
      have he : E.take i = E := List.take_of_length_le (by rw [HNN.out]; exact Nat.le_refl _)
      rw [he] at HO HM
      have uf := frozen_of_heap hh.box 0
      have HBX := Lib.hid hh.box
      clear he hz hh hv
      go_wp2_with fail
      go_end0
      have hlt : ∀ k, (Value.slice Ao m co).ownBlock = some k → w.heap.size ≤ k := fun k hk => (HO.out.lt k hk).1
      refine ⟨rfl, _, ⟨(heap_setCell_same _ _ _ _ _ _ HBX.out).trans rfl, ?_⟩, hlt, ?_⟩
      · refine OwnE.same (HO.out.base (base' := u + 1) (by have := HU.out; omega)) fun k hk => heap_setCell_other _ _ _ _ ?_
        have h1 := hlt k hk
        have h2 := HU.out
        show k ≠ u
        omega
      · exact ChP.setCell (P := fun k => k = u) (ad := ⟨u, 0, none⟩) (ChP.of_below HB.out) (.inl rfl) _
set_option maxRecDepth 100000 in
set_option maxHeartbeats 6400000 in
/-- Keep: those of other jobs. -/
theorem rqkeepj_c {w : World} {u : Nat} {v : Value} {E : List Ev} (h : RqA w u v E) (hE : E.length ≤ 1000) (j : Int) :
    Calls Tryd.prog 34 #[.pointer (some ⟨u, 0, none⟩), .int .i64 0, .int .i64 j, .bool true] w fun e w' => e = .returned (.tuple #[]) ∧ RqK w w' u (lessE (fun k : K2 => k.job == j) E) := by
  obtain ⟨N, hN⟩ : ∃ N, E.length = N := ⟨_, rfl⟩
  rw [hN] at hE
  have hu := lt_of_row h.box
  obtain ⟨pd, hpd⟩ : ∃ pd : K2 → Bool, (fun k : K2 => k.job == j) = pd := ⟨_, rfl⟩
  have HPD : Hid (∀ k, pd k = (fun k : K2 => k.job == j) k) := Lib.hid fun k => by rw [hpd]
  rw [hpd]
  have HH := Lib.hid h; have HNN := Lib.hid hN; have HU := Lib.hid hu
  obtain ⟨ii, h0, q0, q1, q2⟩ := info_parts Tryd.infoEv
  clear h hN hu hpd
  go_enter Tryd.func34, Tryd.ntmps34
  go_wp2_with fail
  have A0 : Hid (OwnE encEv 82 (w.alloc (.cells #[] 82)) w.heap.size (.slice (some ⟨w.heap.size, 0, none⟩) 0 0) []) := Lib.hid (OwnE.none w (Nat.le_refl _))
  have B0 : Hid (Below w.heap.size w (w.alloc (.cells #[] 82))) := Lib.hid ((Below.refl _ _).alloc (Nat.le_refl _) _)
  go_loopw [8, 9, 10] (fun V I X wr => ∃ i : Nat, i ≤ N ∧ I = .int .i64 (i : Int) ∧ OwnE encEv 82 wr w.heap.size V (lessE pd (E.take i)) ∧ Below w.heap.size w wr) (fun _ I _ _ => N - natR I)
  case atStart => exact ⟨0, Nat.zero_le _, rfl, A0.out, B0.out⟩
  case round =>
    obtain ⟨i, hi, rfl, hown, hb⟩ := hrel
    clear A0 B0
    have i0 : (0 : Int) ≤ (i : Int) := by omega
    have hh := HH.out.on hb
    obtain ⟨A, c, hv, c0, hz⟩ := hh.at
    rw [HNN.out] at c0 hv
    obtain ⟨Ao, co, hvo⟩ := hown.form
    subst hvo
    have hlo : (lessE pd (E.take i)).length ≤ i := Nat.le_trans (List.length_filter_le _ _) (List.length_take_le _ _)
    have HO := Lib.hid hown; have HB := Lib.hid hb; have HLO := Lib.hid hlo
    obtain ⟨m, hm⟩ : ∃ m, (lessE pd (E.take i)).length = m := ⟨_, rfl⟩
    rw [hm] at HO ⊢
    have HM := Lib.hid hm
    clear hown hb hlo hm
    by_cases hiN : i < N
    · have i1 : (i : Int) < (N : Int) := by omega
      have hw1 : wrap64 ((i : Int) + 1) = ((i + 1 : Nat) : Int) := by unfold wrap64; omega
      obtain ⟨e, he⟩ : ∃ e, E[i]? = some e := ⟨_, List.getElem?_eq_getElem (by rw [HNN.out]; exact hiN)⟩
      obtain ⟨ad, g, rfl, ea, hcc⟩ := hz i e he
      have x0 : wr.cell? ⟨g, i * 3, none⟩ = some (.int .i64 e.job) := hcc 0 _ rfl
      have x1 := hcc 1 _ rfl
      have x2 := hcc 2 _ rfl
      have ht := lessE_take he pd
      obtain ⟨W1, hW1⟩ : ∃ W1, wr.alloc (.cells #[.int .i64 e.job, .int .i64 e.win, .bool e.frc] 82) = W1 := ⟨_, rfl⟩
      obtain ⟨X, hX⟩ : ∃ X, wr.heap.size = X := ⟨_, rfl⟩
      have hx1 : W1.heap[X]? = some (.cells #[.int .i64 e.job, .int .i64 e.win, .bool e.frc] 82 (0, 0)) := by rw [← hW1, ← hX]; exact heap_alloc_new _ _
      have hb1 : Below wr.heap.size wr W1 := by rw [← hW1]; exact (Below.refl _ _).alloc (Nat.le_refl _) _
      have HX1 := Lib.hid hx1; have HB1 := Lib.hid hb1; have HT := Lib.hid ht; have HIN := Lib.hid hiN; have HW := Lib.hid hw1; have HW1 := Lib.hid hW1; have HX := Lib.hid hX
      clear hcc he hz hh hv hx1 hb1 ht hiN hw1 hW1 hX hi
      go_upto_region 5 with fail
      rw [HW1.out, HX.out]
      clear x0 x1 x2 c0 ea
      have x0 := cell_of_heap HX1.out 0
      have x1 := cell_of_heap HX1.out 1
      have x2 := cell_of_heap HX1.out 2
      simp at x0 x1 x2
      cases hp : pd (keyE e) with
      | true =>
        have HT' : Hid (lessE pd (E.take (i + 1)) = lessE pd (E.take i)) := Lib.hid (by rw [HT.out, hp]; simp)
        rw [HPD.out] at hp
        have d1 : (e.job != j) = false := by have h9 : (e.job == j) = true := hp; simpa using h9
        clear hp HT
        go_wp2_with fail
        go_roundw
        case rel =>
          refine ⟨i + 1, HIN.out, by first | exact congrArg (Value.int .i64) HW.out | rfl, ?_, HB.out.trans (HB1.out.mono HB.out.size)⟩
          rw [HT'.out]; exact HO.out.on HB1.out
        case measure => simp [natR]; have := HIN.out; omega
      | false =>
        have HT' : Hid (lessE pd (E.take (i + 1)) = lessE pd (E.take i) ++ [e]) := Lib.hid (by rw [HT.out, hp]; simp)
        rw [HPD.out] at hp
        have d1 : (e.job != j) = true := by have h9 : (e.job == j) = false := hp; simpa using h9
        clear hp HT
        obtain ⟨W2, hW2⟩ : ∃ W2, W1.alloc (.cells #[.int .i64 e.job, .int .i64 e.win, .bool e.frc] 82) = W2 := ⟨_, rfl⟩
        obtain ⟨Y, hY⟩ : ∃ Y, W1.heap.size = Y := ⟨_, rfl⟩
        have hb2 : Below wr.heap.size wr W2 := by rw [← hW2]; exact HB1.out.alloc HB1.out.size _
        have A1 : Hid (OwnE encEv 82 (W1.alloc (.cells #[.int .i64 e.job, .int .i64 e.win, .bool e.frc] 82)) w.heap.size (.slice Ao m co) (lessE pd (E.take i))) := Lib.hid (by rw [hW2]; exact HO.out.on hb2)
        have A2 : Hid (LiesE encEv (W1.alloc (.cells #[.int .i64 e.job, .int .i64 e.win, .bool e.frc] 82)) (.slice (some ⟨W1.heap.size, 0, none⟩) 1 1) [e]) := Lib.hid (lies_lit encEv [e] (heap_alloc_new W1 _))
        have A3 : Hid ((lessE pd (E.take i)).length + [e].length ≤ maxLen) := Lib.hid (by have := HLO.out; have := HIN.out; simp only [List.length_singleton, maxLen]; omega)
        have A4 : Hid (((lessE pd (E.take i)).length + [e].length) * 24 ≤ 140737488355328) := Lib.hid (by have := HLO.out; have := HIN.out; simp only [List.length_singleton]; omega)
        have A5 : Hid (w.heap.size ≤ (W1.alloc (.cells #[.int .i64 e.job, .int .i64 e.win, .bool e.frc] 82)).heap.size) := Lib.hid (by rw [hW2]; exact Nat.le_trans HB.out.size hb2.size)
        have HB2 : Hid (Below w.heap.size w (W1.alloc (.cells #[.int .i64 e.job, .int .i64 e.win, .bool e.frc] 82))) := Lib.hid (by rw [hW2]; exact HB.out.trans (hb2.mono HB.out.size))
        have HS1 : Hid (W1.heap.size < (W1.alloc (.cells #[.int .i64 e.job, .int .i64 e.win, .bool e.frc] 82)).heap.size) := Lib.hid (by simp)
        have HWS : Hid (w.heap.size ≤ W1.heap.size) := Lib.hid (Nat.le_trans HB.out.size HB1.out.size)
        clear hW2 hY hb2
        go_wp2_with (at_builtin
                     refine wpList_append_E (E := encEv) rfl _ _ 73 rfl ii _ 24 Tryd.underlying73 h0 q0 q1 q2 rfl (by decide) rfl A1.out rfl A2.out A3.out A4.out A5.out ?_
                     intro v4 w4 own4 gr4 lo4
                     have hb4 : Below w.heap.size w w4 := HB2.out.grown gr4 HB2.out.size (fun k hk => (A1.out.lt k hk).1)
                     have H4 := Lib.hid own4; have HB4 := Lib.hid hb4
                     clear A1 A2 A3 A4 A5 own4 gr4 lo4 hb4)
        go_roundw
        case rel =>
          refine ⟨i + 1, HIN.out, by first | exact congrArg (Value.int .i64) HW.out | rfl, ?_, HB4.out⟩
          rw [HT'.out]; exact H4.out
        case measure => simp [natR]; have := HIN.out; omega
    · obtain rfl : i = N := by omega
      have he : E.take i = E := List.take_of_length_le (by rw [HNN.out]; exact Nat.le_refl _)
      rw [he] at HO HM
      have uf := frozen_of_heap hh.box 0
      have HBX := Lib.hid hh.box
      clear he hz hh hv
      go_wp2_with fail
      go_end0
      have hlt : ∀ k, (Value.slice Ao m co).ownBlock = some k → w.heap.size ≤ k := fun k hk => (HO.out.lt k hk).1
      refine ⟨rfl, _, ⟨(heap_setCell_same _ _ _ _ _ _ HBX.out).trans rfl, ?_⟩, hlt, ?_⟩
      · refine OwnE.same (HO.out.base (base' := u + 1) (by have := HU.out; omega)) fun k hk => heap_setCell_other _ _ _ _ ?_
        have h1 := hlt k hk
        have h2 := HU.out
        show k ≠ u
        omega
      · exact ChP.setCell (P := fun k => k = u) (ad := ⟨u, 0, none⟩) (ChP.of_below HB.out) (.inl rfl) _
end Go.Proofs.YtbfbhlpibclccaaDoor
