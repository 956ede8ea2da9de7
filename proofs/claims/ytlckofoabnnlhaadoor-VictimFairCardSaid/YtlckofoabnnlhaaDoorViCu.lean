/- Whom a host loses for a demand, by contract: the walk over the candidates, with none. Conditions: the room's candidates lie in memory; vectors are valid. -/
import Derived.Test.YtlckofoabnnlhaaDoorViCk
namespace Go.Proofs.YtlckofoabnnlhaaDoor
open Go Go.RowKit Go.Maps

set_option maxRecDepth 100000 in
set_option maxHeartbeats 12800000 in
theorem clearU_c (r : Hst) (x : V4) (w : World) (hr : ReadsE encGst w r.A r.on) (hl : r.on.length ≤ 10) (hg : goodV r.left = true) (hn : ∀ g ∈ r.on, goodV g.need = true) (hj : ∀ g ∈ r.on, i64 g.task.job) :
    Calls Tryd.prog 34 #[.agg #[.int .i64 r.id, .int .i64 r.left.a, .int .i64 r.left.b, .int .i64 r.left.c, .int .i64 r.left.d, .slice r.A r.on.length r.c], .agg #[.int .i64 x.a, .int .i64 x.b, .int .i64 x.c, .int .i64 x.d], .func (.func 22) #[] #[]] w fun e w' => ∃ (A' : Option Addr) (n' c' : Nat) (B : Option Addr) (cb : Nat), e = .returned (.tuple #[.agg #[.int .i64 r.id, .int .i64 (clearK x alInf r.left r.on).1.a, .int .i64 (clearK x alInf r.left r.on).1.b, .int .i64 (clearK x alInf r.left r.on).1.c, .int .i64 (clearK x alInf r.left r.on).1.d, .slice A' n' c'], .slice B (clearK x alInf r.left r.on).2.length cb, .bool (fitsV x (clearK x alInf r.left r.on).1)]) ∧ OwnE encTk 33 w' w.heap.size (.slice B (clearK x alInf r.left r.on).2.length cb) ((clearK x alInf r.left r.on).2.map (·.task)) ∧ Below w.heap.size w w' := by
  have HAL : Hid (∀ (W : World) (j : Int), i64 j → Below w.heap.size w W → Calls Tryd.prog 22 #[.int .i64 j] W fun e w' => e = .returned (.int .i64 (alInf j)) ∧ Below W.heap.size W w') := Lib.hid fun W j _ _ => unlim_c j W
  have eg : ∀ args w, (callFunc 22 args).run Tryd.prog w = .ok (.enter 22 args) w := enters_of Tryd.func22 (by kernel_rfl) rfl
  generalize hal : alInf = al at *
  clear hal
  obtain ⟨iG, hiG, hG0, hG1, hG2⟩ := info_parts Tryd.infoGs
  obtain ⟨iT, hiT, hT0, hT1, hT2⟩ := info_parts Tryd.infoTk
  have hzI : ∀ W : World, (zeroValue 3).run Tryd.prog W = .ok (.int .i64 0) W := Tryd.zeroValue3
  obtain ⟨id, l, on, A, c⟩ := r
  simp only at hr hl hg hn hj
  obtain ⟨z, hz⟩ : ∃ z, clearK x al l on = z := ⟨_, rfl⟩
  rw [hz]
  have HZ := Lib.hid hz
  clear hz
  have HR := Lib.hid hr
  have HN := Lib.hid hn
  have HJ := Lib.hid hj
  have HIG := Lib.hid hiG
  have HIT := Lib.hid hiT
  have HGL := Lib.hid hg
  have hmm := @run_makeMap Tryd.prog
  obtain ⟨g3, hg3⟩ : ∃ g3, w.heap.size = g3 := ⟨_, rfl⟩
  obtain ⟨g4, hg4⟩ : ∃ g4, w.heap.size + 1 = g4 := ⟨_, rfl⟩
  obtain ⟨g6, hg6⟩ : ∃ g6, w.heap.size + 1 + 1 = g6 := ⟨_, rfl⟩
  obtain ⟨g9, hg9⟩ : ∃ g9, w.heap.size + 1 + 1 + 1 = g9 := ⟨_, rfl⟩
  obtain ⟨mb, hmb⟩ : ∃ mb, w.heap.size + 1 + 1 + 1 + 1 = mb := ⟨_, rfl⟩
  obtain ⟨W1, hW1⟩ : ∃ W1, (((w.alloc (.cells #[.int .i64 id, .int .i64 l.a, .int .i64 l.b, .int .i64 l.c, .int .i64 l.d, .slice A on.length c] 61)).alloc (.cells #[.int .i64 x.a, .int .i64 x.b, .int .i64 x.c, .int .i64 x.d] 24)).alloc (.cells #[.int .i64 0, .int .i64 0, .int .i64 0, .int .i64 0, .int .i64 0, .slice none 0 0] 61)).alloc (.cells #[.int .i64 id, .int .i64 l.a, .int .i64 l.b, .int .i64 l.c, .int .i64 l.d, .slice none 0 0] 61) = W1 := ⟨_, rfl⟩
  obtain ⟨W5, hW5⟩ : ∃ W5, W1.alloc (.map #[] 0) = W5 := ⟨_, rfl⟩
  have hb1 : Below w.heap.size w W1 := by rw [← hW1]; exact ((((Below.refl _ _).alloc (Nat.le_refl _) _).alloc (by simp) _).alloc (by simp; omega) _).alloc (by simp; omega) _
  have hs1 : W1.heap.size = w.heap.size + 4 := by rw [← hW1]; simp
  have hb5 : Below w.heap.size w W5 := by rw [← hW5]; exact hb1.alloc hb1.size _
  have hx9 : W5.heap[g9]? = some (.cells #[.int .i64 id, .int .i64 l.a, .int .i64 l.b, .int .i64 l.c, .int .i64 l.d, .slice none 0 0] 61 (0, 0)) := by
    rw [← hW5, Below.heap_alloc _ _ _ (by omega), ← hW1, ← hg9]
    exact heap_at_newV (by simp) _
  have hx6 : W5.heap[g6]? = some (.cells #[.int .i64 0, .int .i64 0, .int .i64 0, .int .i64 0, .int .i64 0, .slice none 0 0] 61 (0, 0)) := by
    rw [← hW5, Below.heap_alloc _ _ _ (by omega), ← hW1, ← hg6, Below.heap_alloc _ _ _ (by simp)]
    exact heap_at_newV (by simp) _
  have hx4 : W5.heap[g4]? = some (.cells #[.int .i64 x.a, .int .i64 x.b, .int .i64 x.c, .int .i64 x.d] 24 (0, 0)) := by
    rw [← hW5, Below.heap_alloc _ _ _ (by omega), ← hW1, ← hg4, Below.heap_alloc _ _ _ (by simp; try omega), Below.heap_alloc _ _ _ (by simp; try omega)]
    exact heap_at_newV (by simp) _
  have hx3 : W5.heap[g3]? = some (.cells #[.int .i64 id, .int .i64 l.a, .int .i64 l.b, .int .i64 l.c, .int .i64 l.d, .slice A on.length c] 61 (0, 0)) := by
    rw [← hW5, Below.heap_alloc _ _ _ (by omega), ← hW1, ← hg3, Below.heap_alloc _ _ _ (by simp; omega), Below.heap_alloc _ _ _ (by simp; omega), Below.heap_alloc _ _ _ (by simp)]
    exact heap_at_newV rfl _
  have hm5 : MapG Tryd.prog 3 (Lit.int .i64) i64 (Value.int .i64) W5 mb [] := by
    have e : mb = W1.heap.size := by omega
    rw [← hW5, e]; exact MapG.made _ _ _ _ _ W1
  have ST5 : Hid (ClrAt w x g4 g6 g9 mb id W5 l (none, 0, 0) [] none 0) := Lib.hid ⟨hx4, ⟨_, hx6, rfl⟩, hx9, OwnE.nil .., ⟨[], hm5, Nat.le_refl _, fun _ => rfl⟩, hb5, hg, by omega, by omega, by omega⟩
  have SL5 : Hid (LineAt w W5 (none, 0, 0) []) := Lib.hid ⟨rfl, OwnE.nil ..⟩
  have z5 := cell_of_heap hx3 5
  simp at z5
  have HW1 := Lib.hid hW1
  have HW5 := Lib.hid hW5
  have HG := Lib.hid (show w.heap.size = g3 ∧ w.heap.size + 1 = g4 ∧ w.heap.size + 1 + 1 = g6 ∧ w.heap.size + 1 + 1 + 1 = g9 ∧ w.heap.size + 1 + 1 + 1 + 1 = mb from ⟨hg3, hg4, hg6, hg9, hmb⟩)
  clear hr hn hj hiG hiT hg hW1 hW5 hb1 hs1 hb5 hx9 hx6 hx4 hx3 hm5 hg3 hg4 hg6 hg9 hmb
  go_enter Tryd.func34, Tryd.ntmps34
  go_upto_region 4 with fail
  rw [HG.out.2.2.2.2, HG.out.2.2.2.1, HG.out.2.2.1, HG.out.2.1, HG.out.1, HW1.out, HW5.out]
  go_upto_region 5 with fail
  go_loopg [10, 24] on.length (fun gk s10 s24 wr => ∃ (k : Nat) (lf : V4) (cl : Option Addr × Nat × Nat) (O : List Gst) (K : List Gst) (Bo : Option Addr) (cb : Nat), s24 = .int .i64 k ∧ s10 = .slice Bo O.length cb ∧ k ≤ on.length ∧ on.length - k ≤ gk ∧ Aside (ClrAt w x g4 g6 g9 mb id wr lf cl O Bo cb ∧ LineAt w wr cl K ∧ (lf, O) = clearK x al l (on.take k) ∧ O.length ≤ k ∧ K.length ≤ k))
  case atStart => exact ⟨0, l, (none, 0, 0), [], [], none, 0, rfl, rfl, Nat.zero_le _, Nat.le_refl _, ST5.out, SL5.out, rfl, Nat.le_refl _, Nat.le_refl _⟩
  case round =>
    obtain ⟨k, lf, cl, O, K, Bo, cb, rfl, rfl, hk, hgk, IN⟩ := hrel
    have HC := Lib.hid IN.out.1
    have HLN := Lib.hid IN.out.2.1
    have HE := Lib.hid IN.out.2.2.1
    have HOL := Lib.hid IN.out.2.2.2.1
    have HKL := Lib.hid IN.out.2.2.2.2
    clear IN
    clear z5
    by_cases hlt : k < on.length
    · obtain ⟨y, hy⟩ : ∃ y, on[k]? = some y := ⟨_, List.getElem?_eq_getElem hlt⟩
      obtain ⟨ad, q, rfl, had, hq, hc⟩ := HR.out k y hy
      have hym : y ∈ on := List.mem_of_getElem? hy
      have HGN := Lib.hid (HN.out y hym)
      have HJJ := Lib.hid (HJ.out y hym)
      have hltz : (k : Int) < (on.length : Int) := by omega
      have HB := Lib.hid HC.out.low
      have v0 := (HB.out.cell (p := q) hq).trans ((congrArg w.cell? (add_zeroE q).symm).trans (hc 0 _ rfl))
      have v1 := (HB.out.cell (p := ⟨q.block, q.off + 1, none⟩) hq).trans (hc 1 _ rfl)
      have v2 := (HB.out.cell (p := ⟨q.block, q.off + 2, none⟩) hq).trans (hc 2 _ rfl)
      have v3 := (HB.out.cell (p := ⟨q.block, q.off + 3, none⟩) hq).trans (hc 3 _ rfl)
      have v4 := (HB.out.cell (p := ⟨q.block, q.off + 4, none⟩) hq).trans (hc 4 _ rfl)
      have v5 := (HB.out.cell (p := ⟨q.block, q.off + 5, none⟩) hq).trans (hc 5 _ rfl)
      have v6 := (HB.out.cell (p := ⟨q.block, q.off + 6, none⟩) hq).trans (hc 6 _ rfl)
      have v7 := (HB.out.cell (p := ⟨q.block, q.off + 7, none⟩) hq).trans (hc 7 _ rfl)
      have hpl : q.block < wr.heap.size := Nat.lt_of_lt_of_le hq HB.out.size
      have HX := Lib.hid (clearK_take (x := x) (al := al) (left := l) hy)
      obtain ⟨⟨job, ix⟩, bd, env, ⟨a, b, d, e⟩⟩ := y
      simp only at HGN HJJ
      obtain ⟨gg, hgg⟩ : ∃ gg, wr.heap.size = gg := ⟨_, rfl⟩
      obtain ⟨W2, hW2⟩ : ∃ W2, wr.alloc (.cells #[.int .i64 job, .int .i64 ix, .int .i64 bd, .bool env, .int .i64 a, .int .i64 b, .int .i64 d, .int .i64 e] 35) = W2 := ⟨_, rfl⟩
      have hb2 : Below wr.heap.size wr W2 := by rw [← hW2]; exact (Below.refl _ _).alloc (Nat.le_refl _) _
      have hxg : W2.heap[gg]? = some (.cells #[.int .i64 job, .int .i64 ix, .int .i64 bd, .bool env, .int .i64 a, .int .i64 b, .int .i64 d, .int .i64 e] 35 (0, 0)) := by rw [← hW2, ← hgg]; exact heap_alloc_new _ _
      have hC2 := HC.out.on hb2
      have HC2 := Lib.hid hC2
      have HLN2 := Lib.hid (HLN.out.on hb2)
      have HXG := Lib.hid hxg
      have HB2 : Hid (Below w.heap.size w W2) := Lib.hid (HB.out.trans (hb2.mono HB.out.size))
      obtain ⟨v, hv⟩ : ∃ v, (cntJ job O : Int) = v := ⟨_, rfl⟩
      have HNV : Hid (∀ W, Below W2.heap.size W2 W → W.cell? ⟨g4, 0, none⟩ = some (.int .i64 x.a) ∧ W.cell? ⟨g4, 1, none⟩ = some (.int .i64 x.b) ∧ W.cell? ⟨g4, 2, none⟩ = some (.int .i64 x.c) ∧ W.cell? ⟨g4, 3, none⟩ = some (.int .i64 x.d)) := Lib.hid fun W hW => (hC2.on hW).needs
      have HLV : Hid (∀ W, Below W2.heap.size W2 W → W.cell? ⟨g9, 1, none⟩ = some (.int .i64 lf.a) ∧ W.cell? ⟨g9, 2, none⟩ = some (.int .i64 lf.b) ∧ W.cell? ⟨g9, 3, none⟩ = some (.int .i64 lf.c) ∧ W.cell? ⟨g9, 4, none⟩ = some (.int .i64 lf.d)) := Lib.hid fun W hW => (hC2.on hW).lefts
      have HLK : Hid (∀ W, Below W2.heap.size W2 W → (Instr.lookup 56 (.map (some mb)) (.int .i64 job) false).run Tryd.prog W = .ok (.int .i64 v) W) := Lib.hid fun W hW => by
        rw [← hv]; exact (hC2.on hW).gone hzI HJJ.out
      have HFT : Hid (∀ W, Below W2.heap.size W2 W → Calls Tryd.prog 41 #[.agg #[.int .i64 x.a, .int .i64 x.b, .int .i64 x.c, .int .i64 x.d], .agg #[.int .i64 lf.a, .int .i64 lf.b, .int .i64 lf.c, .int .i64 lf.d]] W fun e w' => e = .returned (.bool (fitsV x lf)) ∧ Below W.heap.size W w') := Lib.hid fun W _ => fits_c x lf W
      have hv10 : 0 ≤ v ∧ v ≤ 10 := by
        have h1 : cntJ job O ≤ O.length := List.countP_le_length
        have := HOL.out; omega
      obtain ⟨hv0, hv1⟩ := hv10
      have HV := Lib.hid hv
      have HW2 := Lib.hid hW2
      have HGG := Lib.hid hgg
      have u0 := cell_of_heap hxg 0
      simp at u0
      obtain ⟨ft, hft⟩ : ∃ ft, fitsV x lf = ft := ⟨_, rfl⟩
      rw [hft] at HFT
      have HFI := Lib.hid hft
      have HST : Hid ((lf, O) = clearK x al l (on.take k)) := HE
      clear hy hq hc hym hW2 hb2 hC2 hxg hv hgg hft HE HC HB HLN
      go_upto_region 7 with fail
      rw [HW2.out, HGG.out]
      go_upto_region 8 with fail
      clear v0 v1 v2 v3 v4 v5 v6 v7 had hpl u0
      cases ft with
      | true =>
        refine wp_region_held_drew (S := fun W => Below W2.heap.size W2 W) (by kernel_rfl) ?_ (fun hHeld => ?_)
        · exact (Below.refl _ _).drew
        refine rg_take 0 (some 31) _ (by kernel_rfl) (by kernel_rfl) (by kernel_rfl) (fun _ _ _ h => h) (by kernel_rfl) (by kernel_rfl) (by intro w' hSw op_ ho; simp only [List.getElem?_toArray, List.getElem?_cons_zero, Option.some.injEq] at ho; subst ho; obtain ⟨n0, n1, n2, n3⟩ := HNV.out _ hSw; go_simp; with_reducible rfl) (by assumption) ?_
        try simp only [Act.put, List.setIfInBounds_toArray, List.set_cons_zero, List.set_cons_succ]
        refine rg_take 1 (some 32) _ (by kernel_rfl) (by kernel_rfl) (by kernel_rfl) (fun _ _ _ h => h) (by kernel_rfl) (by kernel_rfl) (by intro w' hSw op_ ho; simp only [List.getElem?_toArray, List.getElem?_cons_succ, List.getElem?_cons_zero, Option.some.injEq] at ho; subst ho; go_simp; with_reducible rfl) (by assumption) ?_
        try simp only [Act.put, List.setIfInBounds_toArray, List.set_cons_zero, List.set_cons_succ]
        refine rg_take 2 (some 33) _ (by kernel_rfl) (by kernel_rfl) (by kernel_rfl) (fun _ _ _ h => h) (by kernel_rfl) (by kernel_rfl) (by intro w' hSw op_ ho; simp only [List.getElem?_toArray, List.getElem?_cons_succ, List.getElem?_cons_zero, Option.some.injEq] at ho; subst ho; obtain ⟨e0, e1, e2, e3⟩ := HLV.out _ hSw; go_simp; with_reducible rfl) (by assumption) ?_
        try simp only [Act.put, List.setIfInBounds_toArray, List.set_cons_zero, List.set_cons_succ]
        refine rg_one 3 (by kernel_rfl) (by kernel_rfl) (fun op_ ho KK hK => ?_)
        simp only [List.getElem?_toArray, List.getElem?_cons_succ, List.getElem?_cons_zero, Option.some.injEq] at ho
        subst ho
        go_simp
        go_at_call 41
        refine (HFT.out _ hHeld).mono ?_
        rintro e w3 ⟨rfl, b3⟩
        have S3 := Lib.hid (hHeld.trans (b3.mono hHeld.size))
        clear b3
        go_wp2_with fail
        refine hK.out _ _ S3.out (fun hHeld => ?_)
        clear hK
        try simp only [Act.put, List.setIfInBounds_toArray, List.set_cons_zero, List.set_cons_succ]
        refine rg_take 4 (some 35) _ (by kernel_rfl) (by kernel_rfl) (by kernel_rfl) (fun _ _ _ h => h) (by kernel_rfl) (by kernel_rfl) (by intro w' hSw op_ ho; simp only [List.getElem?_toArray, List.getElem?_cons_succ, List.getElem?_cons_zero, Option.some.injEq] at ho; subst ho; go_simp; with_reducible rfl) (by assumption) ?_
        try simp only [Act.put, List.setIfInBounds_toArray, List.set_cons_zero, List.set_cons_succ]
        refine rg_skip 5 (some 36) (by kernel_rfl) (by kernel_rfl) (by kernel_rfl) (fun _ _ _ h => h) (by kernel_rfl) (by kernel_rfl) (by assumption) ?_
        try simp only [Act.put, List.setIfInBounds_toArray, List.set_cons_zero, List.set_cons_succ]
        refine rg_skip 6 (some 37) (by kernel_rfl) (by kernel_rfl) (by kernel_rfl) (fun _ _ _ h => h) (by kernel_rfl) (by kernel_rfl) (by assumption) ?_
        try simp only [Act.put, List.setIfInBounds_toArray, List.set_cons_zero, List.set_cons_succ]
        refine rg_skip 7 (some 38) (by kernel_rfl) (by kernel_rfl) (by kernel_rfl) (fun _ _ _ h => h) (by kernel_rfl) (by kernel_rfl) (by assumption) ?_
        try simp only [Act.put, List.setIfInBounds_toArray, List.set_cons_zero, List.set_cons_succ]
        refine rg_skip 8 (some 39) (by kernel_rfl) (by kernel_rfl) (by kernel_rfl) (fun _ _ _ h => h) (by kernel_rfl) (by kernel_rfl) (by assumption) ?_
        try simp only [Act.put, List.setIfInBounds_toArray, List.set_cons_zero, List.set_cons_succ]
        refine rg_skip 9 (some 40) (by kernel_rfl) (by kernel_rfl) (by kernel_rfl) (fun _ _ _ h => h) (by kernel_rfl) (by kernel_rfl) (by assumption) ?_
        try simp only [Act.put, List.setIfInBounds_toArray, List.set_cons_zero, List.set_cons_succ]
        refine rg_skip 10 (some 41) (by kernel_rfl) (by kernel_rfl) (by kernel_rfl) (fun _ _ _ h => h) (by kernel_rfl) (by kernel_rfl) (by assumption) ?_
        try simp only [Act.put, List.setIfInBounds_toArray, List.set_cons_zero, List.set_cons_succ]
        refine rg_skip 11 (some 42) (by kernel_rfl) (by kernel_rfl) (by kernel_rfl) (fun _ _ _ h => h) (by kernel_rfl) (by kernel_rfl) (by assumption) ?_
        try simp only [Act.put, List.setIfInBounds_toArray, List.set_cons_zero, List.set_cons_succ]
        refine rg_take 12 (some 43) _ (by kernel_rfl) (by kernel_rfl) (by kernel_rfl) (fun _ _ _ h => h) (by kernel_rfl) (by kernel_rfl) (by intro w' hSw op_ ho; simp only [List.getElem?_toArray, List.getElem?_cons_succ, List.getElem?_cons_zero, Option.some.injEq] at ho; subst ho; go_simp; with_reducible rfl) (by assumption) ?_
        try simp only [Act.put, List.setIfInBounds_toArray, List.set_cons_zero, List.set_cons_succ]
        refine wpAnyH_done (by kernel_rfl) ?_ _
        have HB3 := Lib.hid hHeld
        clear hHeld
        have hC3 := HC2.out.on HB3.out
        have hx3 := (HB3.out.block gg (lt_of_row HXG.out)).trans HXG.out
        have hsz3 := hC3.low.size
        obtain ⟨gn, hgn⟩ : ∃ gn, w3.heap.size = gn := ⟨_, rfl⟩
        obtain ⟨W4, hW4⟩ : ∃ W4, w3.alloc (.cells #[.int .i64 job, .int .i64 ix, .int .i64 bd, .bool env, .int .i64 a, .int .i64 b, .int .i64 d, .int .i64 e] 35) = W4 := ⟨_, rfl⟩
        have hb4 : Below w3.heap.size w3 W4 := by rw [← hW4]; exact (Below.refl _ _).alloc (Nat.le_refl _) _
        have hC4 := hC3.on hb4
        obtain ⟨hrn, hrow⟩ := (HLN2.out.on HB3.out).on hb4
        have A1 : Hid (OwnE encGst 35 W4 w.heap.size (.slice cl.1 cl.2.1 cl.2.2) K) := Lib.hid hrow
        have A2 : Hid (LiesE encGst W4 (.slice (some ⟨gn, 0, none⟩) 1 1) [⟨⟨job, ix⟩, bd, env, ⟨a, b, d, e⟩⟩]) := Lib.hid (by
          have h := heap_alloc_new w3 (.cells #[.int .i64 job, .int .i64 ix, .int .i64 bd, .bool env, .int .i64 a, .int .i64 b, .int .i64 d, .int .i64 e] 35)
          rw [hW4, hgn] at h
          exact lies_lit encGst [⟨⟨job, ix⟩, bd, env, ⟨a, b, d, e⟩⟩] h)
        have A3 : Hid (K.length + [(⟨⟨job, ix⟩, bd, env, ⟨a, b, d, e⟩⟩ : Gst)].length ≤ maxLen) := by have := HKL.out; simp only [Hid, List.length_cons, List.length_nil, maxLen]; omega
        have A4 : Hid ((K.length + [(⟨⟨job, ix⟩, bd, env, ⟨a, b, d, e⟩⟩ : Gst)].length) * 64 ≤ 140737488355328) := by have := HKL.out; simp only [Hid, List.length_cons, List.length_nil]; omega
        have A5 : Hid (w.heap.size ≤ W4.heap.size) := Lib.hid hC4.low.size
        have HC4 := Lib.hid hC4
        have HW4 := Lib.hid hW4
        have HGN4 := Lib.hid hgn
        have c5 := (hC3.cl5).1
        have u0 := cell_of_heap hx3 0
        have u1 := cell_of_heap hx3 1
        have u2 := cell_of_heap hx3 2
        have u3 := cell_of_heap hx3 3
        have u4 := cell_of_heap hx3 4
        have u5 := cell_of_heap hx3 5
        have u6 := cell_of_heap hx3 6
        have u7 := cell_of_heap hx3 7
        simp at u0 u1 u2 u3 u4 u5 u6 u7
        have hle3 : gg < w3.heap.size ∧ g9 < w3.heap.size := ⟨lt_of_row hx3, lt_of_row hC3.clr⟩
        obtain ⟨hle3, hle9⟩ := hle3
        obtain ⟨cA, cn, cc⟩ := cl
        simp only at A1 c5 hrn
        subst hrn
        clear hC3 hx3 hb4 hC4 hrow hW4 hgn hsz3
        go_upto_region 9 with fail
        go_wp2_with (first | (at_builtin; rw [HW4.out, HGN4.out]; refine wpList_append_E rfl _ _ 29 rfl iG _ 64 Tryd.underlying29 HIG.out hG0 hG1 hG2 rfl (by decide) rfl A1.out rfl A2.out A3.out A4.out A5.out ?_; intro v' w5 hv' hgr hown; obtain ⟨B', c', e'⟩ := hv'.form; subst e'; have hC5 := HC4.out.grownK A1.out hgr; obtain ⟨f5, f5l, f5f⟩ := hC5.cl5; have hf5 := f5f 5; have HC5 := Lib.hid hC5; have HV5 := Lib.hid hv'; clear hv' hgr hown hC5 f5f) | fail)
        go_roundg (on.length - (k + 1))
        case measure => omega
        case rel =>
          refine ⟨k + 1, lf, (B', K.length + 1, c'), O, K ++ [⟨⟨job, ix⟩, bd, env, ⟨a, b, d, e⟩⟩], Bo, cb, by go_num, rfl, by omega, Nat.le_refl _, HC5.out.set5 _ _ _, ?_, ?_, by have := HOL.out; omega, by have := HKL.out; rw [List.length_append]; simp only [List.length_cons, List.length_nil]; omega⟩
          · have h := LineAt.set5 HC5.out HV5.out; rw [List.length_append] at h; exact h
          · rw [HX.out, ← HST.out, stepK, if_pos (Or.inl HFI.out)]
      | false =>
        by_cases hge : al job ≤ v
        · have HGE := Lib.hid hge
          refine wp_region_held_drew (S := fun W => Below W2.heap.size W2 W) (by kernel_rfl) ?_ (fun hHeld => ?_)
          · exact (Below.refl _ _).drew
          refine rg_take 0 (some 31) _ (by kernel_rfl) (by kernel_rfl) (by kernel_rfl) (fun _ _ _ h => h) (by kernel_rfl) (by kernel_rfl) (by intro w' hSw op_ ho; simp only [List.getElem?_toArray, List.getElem?_cons_zero, Option.some.injEq] at ho; subst ho; obtain ⟨n0, n1, n2, n3⟩ := HNV.out _ hSw; go_simp; with_reducible rfl) (by assumption) ?_
          try simp only [Act.put, List.setIfInBounds_toArray, List.set_cons_zero, List.set_cons_succ]
          refine rg_take 1 (some 32) _ (by kernel_rfl) (by kernel_rfl) (by kernel_rfl) (fun _ _ _ h => h) (by kernel_rfl) (by kernel_rfl) (by intro w' hSw op_ ho; simp only [List.getElem?_toArray, List.getElem?_cons_succ, List.getElem?_cons_zero, Option.some.injEq] at ho; subst ho; go_simp; with_reducible rfl) (by assumption) ?_
          try simp only [Act.put, List.setIfInBounds_toArray, List.set_cons_zero, List.set_cons_succ]
          refine rg_take 2 (some 33) _ (by kernel_rfl) (by kernel_rfl) (by kernel_rfl) (fun _ _ _ h => h) (by kernel_rfl) (by kernel_rfl) (by intro w' hSw op_ ho; simp only [List.getElem?_toArray, List.getElem?_cons_succ, List.getElem?_cons_zero, Option.some.injEq] at ho; subst ho; obtain ⟨e0, e1, e2, e3⟩ := HLV.out _ hSw; go_simp; with_reducible rfl) (by assumption) ?_
          try simp only [Act.put, List.setIfInBounds_toArray, List.set_cons_zero, List.set_cons_succ]
          refine rg_one 3 (by kernel_rfl) (by kernel_rfl) (fun op_ ho KK hK => ?_)
          simp only [List.getElem?_toArray, List.getElem?_cons_succ, List.getElem?_cons_zero, Option.some.injEq] at ho
          subst ho
          go_simp
          go_at_call 41
          refine (HFT.out _ hHeld).mono ?_
          rintro e w3 ⟨rfl, b3⟩
          have S3 := Lib.hid (hHeld.trans (b3.mono hHeld.size))
          clear b3
          go_wp2_with fail
          refine hK.out _ _ S3.out (fun hHeld => ?_)
          clear hK
          try simp only [Act.put, List.setIfInBounds_toArray, List.set_cons_zero, List.set_cons_succ]
          refine rg_take 4 (some 35) _ (by kernel_rfl) (by kernel_rfl) (by kernel_rfl) (fun _ _ _ h => h) (by kernel_rfl) (by kernel_rfl) (by intro w' hSw op_ ho; simp only [List.getElem?_toArray, List.getElem?_cons_succ, List.getElem?_cons_zero, Option.some.injEq] at ho; subst ho; go_simp; with_reducible rfl) (by assumption) ?_
          try simp only [Act.put, List.setIfInBounds_toArray, List.set_cons_zero, List.set_cons_succ]
          refine rg_take 5 (some 36) _ (by kernel_rfl) (by kernel_rfl) (by kernel_rfl) (fun _ _ _ h => h) (by kernel_rfl) (by kernel_rfl) (by intro w' hSw op_ ho; simp only [List.getElem?_toArray, List.getElem?_cons_succ, List.getElem?_cons_zero, Option.some.injEq] at ho; subst ho; go_simp; with_reducible rfl) (by assumption) ?_
          try simp only [Act.put, List.setIfInBounds_toArray, List.set_cons_zero, List.set_cons_succ]
          refine rg_take 6 (some 37) _ (by kernel_rfl) (by kernel_rfl) (by kernel_rfl) (fun _ _ _ h => h) (by kernel_rfl) (by kernel_rfl) (by intro w' hSw op_ ho; simp only [List.getElem?_toArray, List.getElem?_cons_succ, List.getElem?_cons_zero, Option.some.injEq] at ho; subst ho; go_simp; with_reducible rfl) (by assumption) ?_
          try simp only [Act.put, List.setIfInBounds_toArray, List.set_cons_zero, List.set_cons_succ]
          refine rg_take 7 (some 38) _ (by kernel_rfl) (by kernel_rfl) (by kernel_rfl) (fun _ _ _ h => h) (by kernel_rfl) (by kernel_rfl) (by intro w' hSw op_ ho; simp only [List.getElem?_toArray, List.getElem?_cons_succ, List.getElem?_cons_zero, Option.some.injEq] at ho; subst ho; have ek := HLK.out _ hSw; go_simp; with_reducible rfl) (by assumption) ?_
          try simp only [Act.put, List.setIfInBounds_toArray, List.set_cons_zero, List.set_cons_succ]
          refine rg_take 8 (some 39) _ (by kernel_rfl) (by kernel_rfl) (by kernel_rfl) (fun _ _ _ h => h) (by kernel_rfl) (by kernel_rfl) (by intro w' hSw op_ ho; simp only [List.getElem?_toArray, List.getElem?_cons_succ, List.getElem?_cons_zero, Option.some.injEq] at ho; subst ho; go_simp; with_reducible rfl) (by assumption) ?_
          try simp only [Act.put, List.setIfInBounds_toArray, List.set_cons_zero, List.set_cons_succ]
          refine rg_take 9 (some 40) _ (by kernel_rfl) (by kernel_rfl) (by kernel_rfl) (fun _ _ _ h => h) (by kernel_rfl) (by kernel_rfl) (by intro w' hSw op_ ho; simp only [List.getElem?_toArray, List.getElem?_cons_succ, List.getElem?_cons_zero, Option.some.injEq] at ho; subst ho; go_simp; with_reducible rfl) (by assumption) ?_
          try simp only [Act.put, List.setIfInBounds_toArray, List.set_cons_zero, List.set_cons_succ]
          refine rg_one 10 (by kernel_rfl) (by kernel_rfl) (fun op_ ho KK hK => ?_)
          simp only [List.getElem?_toArray, List.getElem?_cons_succ, List.getElem?_cons_zero, Option.some.injEq] at ho
          subst ho
          go_simp
          go_at_fn 22
          refine (HAL.out _ _ HJJ.out (HB2.out.trans (hHeld.mono HB2.out.size))).mono ?_
          rintro e w10 ⟨rfl, b10⟩
          have S10 := Lib.hid (hHeld.trans (b10.mono hHeld.size))
          clear b10
          go_wp2_with fail
          refine hK.out _ _ S10.out (fun hHeld => ?_)
          clear hK
          try simp only [Act.put, List.setIfInBounds_toArray, List.set_cons_zero, List.set_cons_succ]
          refine rg_take 11 (some 42) _ (by kernel_rfl) (by kernel_rfl) (by kernel_rfl) (fun _ _ _ h => h) (by kernel_rfl) (by kernel_rfl) (by intro w' hSw op_ ho; simp only [List.getElem?_toArray, List.getElem?_cons_succ, List.getElem?_cons_zero, Option.some.injEq] at ho; subst ho; go_simp; with_reducible rfl) (by assumption) ?_
          try simp only [Act.put, List.setIfInBounds_toArray, List.set_cons_zero, List.set_cons_succ]
          refine rg_take 12 (some 43) _ (by kernel_rfl) (by kernel_rfl) (by kernel_rfl) (fun _ _ _ h => h) (by kernel_rfl) (by kernel_rfl) (by intro w' hSw op_ ho; simp only [List.getElem?_toArray, List.getElem?_cons_succ, List.getElem?_cons_zero, Option.some.injEq] at ho; subst ho; go_simp; with_reducible rfl) (by assumption) ?_
          try simp only [Act.put, List.setIfInBounds_toArray, List.set_cons_zero, List.set_cons_succ]
          refine wpAnyH_done (by kernel_rfl) ?_ _
          have HB3 := Lib.hid hHeld
          clear hHeld
          have hC3 := HC2.out.on HB3.out
          have hx3 := (HB3.out.block gg (lt_of_row HXG.out)).trans HXG.out
          have hsz3 := hC3.low.size
          obtain ⟨gn, hgn⟩ : ∃ gn, w10.heap.size = gn := ⟨_, rfl⟩
          obtain ⟨W4, hW4⟩ : ∃ W4, w10.alloc (.cells #[.int .i64 job, .int .i64 ix, .int .i64 bd, .bool env, .int .i64 a, .int .i64 b, .int .i64 d, .int .i64 e] 35) = W4 := ⟨_, rfl⟩
          have hb4 : Below w10.heap.size w10 W4 := by rw [← hW4]; exact (Below.refl _ _).alloc (Nat.le_refl _) _
          have hC4 := hC3.on hb4
          obtain ⟨hrn, hrow⟩ := (HLN2.out.on HB3.out).on hb4
          have A1 : Hid (OwnE encGst 35 W4 w.heap.size (.slice cl.1 cl.2.1 cl.2.2) K) := Lib.hid hrow
          have A2 : Hid (LiesE encGst W4 (.slice (some ⟨gn, 0, none⟩) 1 1) [⟨⟨job, ix⟩, bd, env, ⟨a, b, d, e⟩⟩]) := Lib.hid (by
            have h := heap_alloc_new w10 (.cells #[.int .i64 job, .int .i64 ix, .int .i64 bd, .bool env, .int .i64 a, .int .i64 b, .int .i64 d, .int .i64 e] 35)
            rw [hW4, hgn] at h
            exact lies_lit encGst [⟨⟨job, ix⟩, bd, env, ⟨a, b, d, e⟩⟩] h)
          have A3 : Hid (K.length + [(⟨⟨job, ix⟩, bd, env, ⟨a, b, d, e⟩⟩ : Gst)].length ≤ maxLen) := by have := HKL.out; simp only [Hid, List.length_cons, List.length_nil, maxLen]; omega
          have A4 : Hid ((K.length + [(⟨⟨job, ix⟩, bd, env, ⟨a, b, d, e⟩⟩ : Gst)].length) * 64 ≤ 140737488355328) := by have := HKL.out; simp only [Hid, List.length_cons, List.length_nil]; omega
          have A5 : Hid (w.heap.size ≤ W4.heap.size) := Lib.hid hC4.low.size
          have HC4 := Lib.hid hC4
          have HW4 := Lib.hid hW4
          have HGN4 := Lib.hid hgn
          have c5 := (hC3.cl5).1
          have u0 := cell_of_heap hx3 0
          have u1 := cell_of_heap hx3 1
          have u2 := cell_of_heap hx3 2
          have u3 := cell_of_heap hx3 3
          have u4 := cell_of_heap hx3 4
          have u5 := cell_of_heap hx3 5
          have u6 := cell_of_heap hx3 6
          have u7 := cell_of_heap hx3 7
          simp at u0 u1 u2 u3 u4 u5 u6 u7
          have hle3 : gg < w10.heap.size ∧ g9 < w10.heap.size := ⟨lt_of_row hx3, lt_of_row hC3.clr⟩
          obtain ⟨hle3, hle9⟩ := hle3
          obtain ⟨cA, cn, cc⟩ := cl
          simp only at A1 c5 hrn
          subst hrn
          clear hC3 hx3 hb4 hC4 hrow hW4 hgn hsz3
          go_upto_region 9 with fail
          go_wp2_with (first | (at_builtin; rw [HW4.out, HGN4.out]; refine wpList_append_E rfl _ _ 29 rfl iG _ 64 Tryd.underlying29 HIG.out hG0 hG1 hG2 rfl (by decide) rfl A1.out rfl A2.out A3.out A4.out A5.out ?_; intro v' w5 hv' hgr hown; obtain ⟨B', c', e'⟩ := hv'.form; subst e'; have hC5 := HC4.out.grownK A1.out hgr; obtain ⟨f5, f5l, f5f⟩ := hC5.cl5; have hf5 := f5f 5; have HC5 := Lib.hid hC5; have HV5 := Lib.hid hv'; clear hv' hgr hown hC5 f5f) | fail)
          go_roundg (on.length - (k + 1))
          case measure => omega
          case rel =>
            refine ⟨k + 1, lf, (B', K.length + 1, c'), O, K ++ [⟨⟨job, ix⟩, bd, env, ⟨a, b, d, e⟩⟩], Bo, cb, by go_num, rfl, by omega, Nat.le_refl _, HC5.out.set5 _ _ _, ?_, ?_, by have := HOL.out; omega, by have := HKL.out; rw [List.length_append]; simp only [List.length_cons, List.length_nil]; omega⟩
            · have h := LineAt.set5 HC5.out HV5.out; rw [List.length_append] at h; exact h
            · rw [HX.out, ← HST.out, stepK, if_pos (Or.inr (by simp only; rw [HV.out]; exact HGE.out))]
        · have HGE := Lib.hid hge
          refine wp_region_held_drew (S := fun W => Below W2.heap.size W2 W) (by kernel_rfl) ?_ (fun hHeld => ?_)
          · exact (Below.refl _ _).drew
          refine rg_take 0 (some 31) _ (by kernel_rfl) (by kernel_rfl) (by kernel_rfl) (fun _ _ _ h => h) (by kernel_rfl) (by kernel_rfl) (by intro w' hSw op_ ho; simp only [List.getElem?_toArray, List.getElem?_cons_zero, Option.some.injEq] at ho; subst ho; obtain ⟨n0, n1, n2, n3⟩ := HNV.out _ hSw; go_simp; with_reducible rfl) (by assumption) ?_
          try simp only [Act.put, List.setIfInBounds_toArray, List.set_cons_zero, List.set_cons_succ]
          refine rg_take 1 (some 32) _ (by kernel_rfl) (by kernel_rfl) (by kernel_rfl) (fun _ _ _ h => h) (by kernel_rfl) (by kernel_rfl) (by intro w' hSw op_ ho; simp only [List.getElem?_toArray, List.getElem?_cons_succ, List.getElem?_cons_zero, Option.some.injEq] at ho; subst ho; go_simp; with_reducible rfl) (by assumption) ?_
          try simp only [Act.put, List.setIfInBounds_toArray, List.set_cons_zero, List.set_cons_succ]
          refine rg_take 2 (some 33) _ (by kernel_rfl) (by kernel_rfl) (by kernel_rfl) (fun _ _ _ h => h) (by kernel_rfl) (by kernel_rfl) (by intro w' hSw op_ ho; simp only [List.getElem?_toArray, List.getElem?_cons_succ, List.getElem?_cons_zero, Option.some.injEq] at ho; subst ho; obtain ⟨e0, e1, e2, e3⟩ := HLV.out _ hSw; go_simp; with_reducible rfl) (by assumption) ?_
          try simp only [Act.put, List.setIfInBounds_toArray, List.set_cons_zero, List.set_cons_succ]
          refine rg_one 3 (by kernel_rfl) (by kernel_rfl) (fun op_ ho KK hK => ?_)
          simp only [List.getElem?_toArray, List.getElem?_cons_succ, List.getElem?_cons_zero, Option.some.injEq] at ho
          subst ho
          go_simp
          go_at_call 41
          refine (HFT.out _ hHeld).mono ?_
          rintro e w3 ⟨rfl, b3⟩
          have S3 := Lib.hid (hHeld.trans (b3.mono hHeld.size))
          clear b3
          go_wp2_with fail
          refine hK.out _ _ S3.out (fun hHeld => ?_)
          clear hK
          try simp only [Act.put, List.setIfInBounds_toArray, List.set_cons_zero, List.set_cons_succ]
          refine rg_take 4 (some 35) _ (by kernel_rfl) (by kernel_rfl) (by kernel_rfl) (fun _ _ _ h => h) (by kernel_rfl) (by kernel_rfl) (by intro w' hSw op_ ho; simp only [List.getElem?_toArray, List.getElem?_cons_succ, List.getElem?_cons_zero, Option.some.injEq] at ho; subst ho; go_simp; with_reducible rfl) (by assumption) ?_
          try simp only [Act.put, List.setIfInBounds_toArray, List.set_cons_zero, List.set_cons_succ]
          refine rg_take 5 (some 36) _ (by kernel_rfl) (by kernel_rfl) (by kernel_rfl) (fun _ _ _ h => h) (by kernel_rfl) (by kernel_rfl) (by intro w' hSw op_ ho; simp only [List.getElem?_toArray, List.getElem?_cons_succ, List.getElem?_cons_zero, Option.some.injEq] at ho; subst ho; go_simp; with_reducible rfl) (by assumption) ?_
          try simp only [Act.put, List.setIfInBounds_toArray, List.set_cons_zero, List.set_cons_succ]
          refine rg_take 6 (some 37) _ (by kernel_rfl) (by kernel_rfl) (by kernel_rfl) (fun _ _ _ h => h) (by kernel_rfl) (by kernel_rfl) (by intro w' hSw op_ ho; simp only [List.getElem?_toArray, List.getElem?_cons_succ, List.getElem?_cons_zero, Option.some.injEq] at ho; subst ho; go_simp; with_reducible rfl) (by assumption) ?_
          try simp only [Act.put, List.setIfInBounds_toArray, List.set_cons_zero, List.set_cons_succ]
          refine rg_take 7 (some 38) _ (by kernel_rfl) (by kernel_rfl) (by kernel_rfl) (fun _ _ _ h => h) (by kernel_rfl) (by kernel_rfl) (by intro w' hSw op_ ho; simp only [List.getElem?_toArray, List.getElem?_cons_succ, List.getElem?_cons_zero, Option.some.injEq] at ho; subst ho; have ek := HLK.out _ hSw; go_simp; with_reducible rfl) (by assumption) ?_
          try simp only [Act.put, List.setIfInBounds_toArray, List.set_cons_zero, List.set_cons_succ]
          refine rg_take 8 (some 39) _ (by kernel_rfl) (by kernel_rfl) (by kernel_rfl) (fun _ _ _ h => h) (by kernel_rfl) (by kernel_rfl) (by intro w' hSw op_ ho; simp only [List.getElem?_toArray, List.getElem?_cons_succ, List.getElem?_cons_zero, Option.some.injEq] at ho; subst ho; go_simp; with_reducible rfl) (by assumption) ?_
          try simp only [Act.put, List.setIfInBounds_toArray, List.set_cons_zero, List.set_cons_succ]
          refine rg_take 9 (some 40) _ (by kernel_rfl) (by kernel_rfl) (by kernel_rfl) (fun _ _ _ h => h) (by kernel_rfl) (by kernel_rfl) (by intro w' hSw op_ ho; simp only [List.getElem?_toArray, List.getElem?_cons_succ, List.getElem?_cons_zero, Option.some.injEq] at ho; subst ho; go_simp; with_reducible rfl) (by assumption) ?_
          try simp only [Act.put, List.setIfInBounds_toArray, List.set_cons_zero, List.set_cons_succ]
          refine rg_one 10 (by kernel_rfl) (by kernel_rfl) (fun op_ ho KK hK => ?_)
          simp only [List.getElem?_toArray, List.getElem?_cons_succ, List.getElem?_cons_zero, Option.some.injEq] at ho
          subst ho
          go_simp
          go_at_fn 22
          refine (HAL.out _ _ HJJ.out (HB2.out.trans (hHeld.mono HB2.out.size))).mono ?_
          rintro e w10 ⟨rfl, b10⟩
          have S10 := Lib.hid (hHeld.trans (b10.mono hHeld.size))
          clear b10
          go_wp2_with fail
          refine hK.out _ _ S10.out (fun hHeld => ?_)
          clear hK
          try simp only [Act.put, List.setIfInBounds_toArray, List.set_cons_zero, List.set_cons_succ]
          refine rg_take 11 (some 42) _ (by kernel_rfl) (by kernel_rfl) (by kernel_rfl) (fun _ _ _ h => h) (by kernel_rfl) (by kernel_rfl) (by intro w' hSw op_ ho; simp only [List.getElem?_toArray, List.getElem?_cons_succ, List.getElem?_cons_zero, Option.some.injEq] at ho; subst ho; go_simp; with_reducible rfl) (by assumption) ?_
          try simp only [Act.put, List.setIfInBounds_toArray, List.set_cons_zero, List.set_cons_succ]
          refine rg_take 12 (some 43) _ (by kernel_rfl) (by kernel_rfl) (by kernel_rfl) (fun _ _ _ h => h) (by kernel_rfl) (by kernel_rfl) (by intro w' hSw op_ ho; simp only [List.getElem?_toArray, List.getElem?_cons_succ, List.getElem?_cons_zero, Option.some.injEq] at ho; subst ho; go_simp; with_reducible rfl) (by assumption) ?_
          try simp only [Act.put, List.setIfInBounds_toArray, List.set_cons_zero, List.set_cons_succ]
          refine wpAnyH_done (by kernel_rfl) ?_ _
          have HB3 := Lib.hid hHeld
          clear hHeld
          have hC3 := HC2.out.on HB3.out
          have HL3 := Lib.hid (HLN2.out.on HB3.out)
          have hx3 := (HB3.out.block gg (lt_of_row HXG.out)).trans HXG.out
          obtain ⟨e1, e2, e3, e4⟩ := hC3.lefts
          have u4 := cell_of_heap hx3 4
          have u5 := cell_of_heap hx3 5
          have u6 := cell_of_heap hx3 6
          have u7 := cell_of_heap hx3 7
          simp at u4 u5 u6 u7
          have hl3 := lt_of_row hx3
          have hl9 := lt_of_row hC3.clr
          have HC3 := Lib.hid hC3
          have HX3 := Lib.hid hx3
          have HMO := Lib.hid (more_c lf ⟨a, b, d, e⟩ w10 hC3.good HGN.out)
          obtain ⟨m, hm⟩ : ∃ m, moreV lf ⟨a, b, d, e⟩ = m := ⟨_, rfl⟩
          have HMG : Hid (goodV m = true) := Lib.hid (by rw [← hm]; exact goodM hC3.good HGN.out)
          rw [hm] at HMO
          have HM := Lib.hid hm
          clear hC3 hx3 hm
          go_upto_region 10 with fail
          go_wp2_with fail
          refine HMO.out.mono ?_
          rintro e11 w11 ⟨rfl, b11⟩
          have hC11 := HC3.out.on b11
          have hL11 := HL3.out.on b11
          have hx11 := (b11.block gg (lt_of_row HX3.out)).trans HX3.out
          obtain ⟨f5, f5l, f5f⟩ := hC11.cl5
          clear e1 e2 e3 e4 u4 u5 u6 u7 hl3 hl9
          obtain ⟨e1, e2, e3, e4⟩ := hC11.lefts
          have HC11 := Lib.hid hC11
          have HL11 := Lib.hid hL11
          have HX11 := Lib.hid hx11
          clear hC11 hL11 hx11 b11 HMO
          go_upto_region 11 with fail
          obtain ⟨W6, hW6⟩ : ∃ W6, W6 = (((w11.setCell ⟨g9, 1, none⟩ (.int .i64 m.a)).setCell ⟨g9, 2, none⟩ (.int .i64 m.b)).setCell ⟨g9, 3, none⟩ (.int .i64 m.c)).setCell ⟨g9, 4, none⟩ (.int .i64 m.d) := ⟨_, rfl⟩
          rw [← hW6]
          have hC6 : ClrAt w x g4 g6 g9 mb id W6 m cl O Bo cb := by rw [hW6]; exact HC11.out.set14 HMG.out
          have hL6 : LineAt w W6 cl K := by rw [hW6]; exact HL11.out.set14 HC11.out _ _ _ _
          have hx6 : W6.heap[gg]? = some (.cells #[.int .i64 job, .int .i64 ix, .int .i64 bd, .bool env, .int .i64 a, .int .i64 b, .int .i64 d, .int .i64 e] 35 (0, 0)) := by
            have hne : gg ≠ g9 := fun e => by have h9 := HC11.out.clr; rw [← e, HX11.out] at h9; simp at h9
            rw [hW6, heap_setCell_other _ _ _ _ (by show gg ≠ g9; exact hne), heap_setCell_other _ _ _ _ (by show gg ≠ g9; exact hne), heap_setCell_other _ _ _ _ (by show gg ≠ g9; exact hne), heap_setCell_other _ _ _ _ (by show gg ≠ g9; exact hne)]
            exact HX11.out
          clear hW6 f5 f5l f5f e1 e2 e3 e4
          obtain ⟨gt, hgt⟩ : ∃ gt, W6.heap.size = gt := ⟨_, rfl⟩
          obtain ⟨W7, hW7⟩ : ∃ W7, W6.alloc (.cells #[.int .i64 job, .int .i64 ix] 33) = W7 := ⟨_, rfl⟩
          have hb7 : Below W6.heap.size W6 W7 := by rw [← hW7]; exact (Below.refl _ _).alloc (Nat.le_refl _) _
          have hC7 := hC6.on hb7
          have hO7 := hC7.outs
          have A1 : Hid (OwnE encTk 33 W7 w.heap.size (.slice Bo O.length cb) (O.map (·.task))) := Lib.hid hO7
          have A2 : Hid (LiesE encTk W7 (.slice (some ⟨gt, 0, none⟩) 1 1) [⟨job, ix⟩]) := Lib.hid (by
            have h := heap_alloc_new W6 (.cells #[.int .i64 job, .int .i64 ix] 33)
            rw [hW7, hgt] at h
            exact lies_lit encTk [⟨job, ix⟩] h)
          have A3 : Hid ((O.map (·.task)).length + [(⟨job, ix⟩ : Tk)].length ≤ maxLen) := by have := HOL.out; simp only [Hid, List.length_map, List.length_cons, List.length_nil, maxLen]; omega
          have A4 : Hid (((O.map (·.task)).length + [(⟨job, ix⟩ : Tk)].length) * 16 ≤ 140737488355328) := by have := HOL.out; simp only [Hid, List.length_map, List.length_cons, List.length_nil]; omega
          have A5 : Hid (w.heap.size ≤ W7.heap.size) := Lib.hid hC7.low.size
          obtain ⟨T, hT, hTl, hTc⟩ := hC7.cnts
          have HT := Lib.hid hT
          have HTL : Hid (T.length < maxLen) := by have := HOL.out; simp only [Hid, maxLen]; omega
          have HTL0 := Lib.hid hTl
          have HTC := Lib.hid hTc
          have HTV : Hid (Value.int .i64 ((look T job).getD 0) = .int .i64 v) := Lib.hid (by rw [hTc job, HV.out])
          have HC7 := Lib.hid hC7
          have HL7 := Lib.hid (hL6.on hb7)
          have HW7 := Lib.hid hW7
          have HGT := Lib.hid hgt
          have u0 := cell_of_heap hx6 0
          have u1 := cell_of_heap hx6 1
          simp at u0 u1
          have hl6 := lt_of_row hx6
          clear hC6 hL6 hx6 hb7 hC7 hO7 hT hTl hTc hW7 hgt
          go_upto_region 12 with (at_builtin; rw [HW7.out, HGT.out]; refine wpList_append_E rfl _ _ 36 rfl iT _ 16 Tryd.underlying36 HIT.out hT0 hT1 hT2 rfl (by decide) rfl A1.out rfl A2.out A3.out A4.out A5.out ?_; intro v' w8 hv' hgr hown; obtain ⟨B', c', e'⟩ := hv'.form; subst e'; have HGR := Lib.hid hgr; have HV8 := Lib.hid hv'; have HT8 := Lib.hid (HC7.out.mapO HT.out hgr); clear hv' hgr hown)
          clear u0 u1 hl6
          go_wp2_with (first
            | (at_lookup; refine wpList_lookG _ kitI rfl _ _ 56 rfl 3 Tryd.underlying56 (Value.int .i64) 0 (hzI _) mb T rfl HT8.out job rfl HJJ.out _ HTV.out ?_)
            | (at_mapUpdate; refine wpList_putG _ kitI rfl _ _ _ 56 rfl 3 Tryd.underlying56 (Value.int .i64) mb T rfl HT8.out HTL.out job rfl HJJ.out (v + 1) rfl ?_; intro w9 hm9 hg9; have HM9 := Lib.hid hm9; have HG9 := Lib.hid hg9; clear hm9 hg9)
            | fail)
          go_roundg (on.length - (k + 1))
          case measure => omega
          case rel =>
            have ho : OwnE encTk 33 w8 w.heap.size (.slice B' (O ++ [(⟨⟨job, ix⟩, bd, env, ⟨a, b, d, e⟩⟩ : Gst)]).length c') ((O ++ [(⟨⟨job, ix⟩, bd, env, ⟨a, b, d, e⟩⟩ : Gst)]).map (·.task)) := by
              have h := HV8.out
              rw [List.length_append, List.length_map] at h
              rw [List.map_append, List.length_append]; exact h
            refine ⟨k + 1, m, cl, O ++ [⟨⟨job, ix⟩, bd, env, ⟨a, b, d, e⟩⟩], K, B', c', by go_num, by rw [List.length_append]; rfl, by omega, Nat.le_refl _, HC7.out.more HGR.out ho ⟨T, by simp only; rw [HV.out]; exact HM9.out, HT8.out.apart, HTL0.out, HTC.out⟩ HG9.out, HL7.out.more HC7.out HGR.out HG9.out, ?_, by have := HOL.out; rw [List.length_append]; simp only [List.length_cons, List.length_nil]; omega, by have := HKL.out; omega⟩
            rw [HX.out, ← HST.out, stepK, if_neg (by simp only; rw [HV.out, HFI.out]; simp; have := HGE.out; omega), HM.out]
    · obtain rfl : k = on.length := by omega
      have hz1 : ¬ (on.length : Int) < (on.length : Int) := by omega
      rw [List.take_length] at HE
      have hz : (lf, O) = z := HE.out.trans HZ.out
      obtain ⟨hz1, hz2⟩ : lf = z.1 ∧ O = z.2 := by rw [← hz]; exact ⟨rfl, rfl⟩
      clear hz HZ HE
      subst hz1
      subst hz2
      go_upto_region 14 with fail
      refine wp_region_held_drew (S := fun W => ClrAt w x g4 g6 g9 mb id W z.1 cl z.2 Bo cb) (by kernel_rfl) ?_ (fun hHeld => ?_)
      · exact HC.out.on ((Below.refl _ _).drew)
      refine rg_take 0 (some 66) _ (by kernel_rfl) (by kernel_rfl) (by kernel_rfl) (fun _ _ _ h => h) (by kernel_rfl) (by kernel_rfl) (by intro w' hSw op_ ho; simp only [List.getElem?_toArray, List.getElem?_cons_zero, Option.some.injEq] at ho; subst ho; have c0 := hSw.cl0; have hc := hSw.lefts; obtain ⟨e1, e2, e3, e4⟩ := hc; have hc := hSw.cl5; obtain ⟨e5, e5l, e5f⟩ := hc; go_simp; with_reducible rfl) (by assumption) ?_
      try simp only [Act.put, List.setIfInBounds_toArray, List.set_cons_zero, List.set_cons_succ]
      refine rg_take 1 (some 67) _ (by kernel_rfl) (by kernel_rfl) (by kernel_rfl) (fun _ _ _ h => h) (by kernel_rfl) (by kernel_rfl) (by intro w' hSw op_ ho; simp only [List.getElem?_toArray, List.getElem?_cons_succ, List.getElem?_cons_zero, Option.some.injEq] at ho; subst ho; go_simp; with_reducible rfl) (by assumption) ?_
      try simp only [Act.put, List.setIfInBounds_toArray, List.set_cons_zero, List.set_cons_succ]
      refine rg_take 2 (some 68) _ (by kernel_rfl) (by kernel_rfl) (by kernel_rfl) (fun _ _ _ h => h) (by kernel_rfl) (by kernel_rfl) (by intro w' hSw op_ ho; simp only [List.getElem?_toArray, List.getElem?_cons_succ, List.getElem?_cons_zero, Option.some.injEq] at ho; subst ho; have hc := hSw.needs; obtain ⟨n0, n1, n2, n3⟩ := hc; go_simp; with_reducible rfl) (by assumption) ?_
      try simp only [Act.put, List.setIfInBounds_toArray, List.set_cons_zero, List.set_cons_succ]
      refine rg_take 3 (some 69) _ (by kernel_rfl) (by kernel_rfl) (by kernel_rfl) (fun _ _ _ h => h) (by kernel_rfl) (by kernel_rfl) (by intro w' hSw op_ ho; simp only [List.getElem?_toArray, List.getElem?_cons_succ, List.getElem?_cons_zero, Option.some.injEq] at ho; subst ho; go_simp; with_reducible rfl) (by assumption) ?_
      try simp only [Act.put, List.setIfInBounds_toArray, List.set_cons_zero, List.set_cons_succ]
      refine rg_take 4 (some 70) _ (by kernel_rfl) (by kernel_rfl) (by kernel_rfl) (fun _ _ _ h => h) (by kernel_rfl) (by kernel_rfl) (by intro w' hSw op_ ho; simp only [List.getElem?_toArray, List.getElem?_cons_succ, List.getElem?_cons_zero, Option.some.injEq] at ho; subst ho; have hc := hSw.lefts; obtain ⟨e1, e2, e3, e4⟩ := hc; go_simp; with_reducible rfl) (by assumption) ?_
      try simp only [Act.put, List.setIfInBounds_toArray, List.set_cons_zero, List.set_cons_succ]
      refine rg_one 5 (by kernel_rfl) (by kernel_rfl) (fun op_ ho KK hK => ?_)
      simp only [List.getElem?_toArray, List.getElem?_cons_succ, List.getElem?_cons_zero, Option.some.injEq] at ho
      subst ho
      go_simp
      go_at_call 41
      refine (fits_c x z.1 _).mono ?_
      rintro e w5 ⟨rfl, b5⟩
      have S5 := Lib.hid (hHeld.on b5)
      clear b5
      go_wp2_with fail
      refine hK.out _ _ S5.out (fun hHeld => ?_)
      clear hK
      try simp only [Act.put, List.setIfInBounds_toArray, List.set_cons_zero, List.set_cons_succ]
      refine rg_one 6 (by kernel_rfl) (by kernel_rfl) (fun op_ ho KK hK => ?_)
      simp only [List.getElem?_toArray, List.getElem?_cons_succ, List.getElem?_cons_zero, Option.some.injEq] at ho
      subst ho
      obtain ⟨y0, y1, y2, y3, y4, y5, h0, h1, h2, h3, h4, h5, hl6, hf6⟩ := hHeld.res6
      obtain ⟨S6, hX6⟩ := hHeld.put6 (.int .i64 id) (.int .i64 z.1.a) (.int .i64 z.1.b) (.int .i64 z.1.c) (.int .i64 z.1.d) (.slice cl.1 cl.2.1 cl.2.2)
      have HS6 := Lib.hid S6
      have HX6 := Lib.hid hX6
      clear S6 hX6
      go_simp
      refine hK.out _ _ HS6.out (fun hHeld => ?_)
      clear h0 h1 h2 h3 h4 h5 hl6 hf6
      clear hK
      try simp only [Act.put, List.setIfInBounds_toArray, List.set_cons_zero, List.set_cons_succ]
      refine rg_take 7 (some 7) _ (by kernel_rfl) (by kernel_rfl) (by kernel_rfl) (fun _ _ _ h => h) (by kernel_rfl) (by kernel_rfl) (by intro w' hSw op_ ho; simp only [List.getElem?_toArray, List.getElem?_cons_succ, List.getElem?_cons_zero, Option.some.injEq] at ho; subst ho; go_simp; with_reducible rfl) (by assumption) ?_
      try simp only [Act.put, List.setIfInBounds_toArray, List.set_cons_zero, List.set_cons_succ]
      refine rg_take 8 (some 8) _ (by kernel_rfl) (by kernel_rfl) (by kernel_rfl) (fun _ _ _ h => h) (by kernel_rfl) (by kernel_rfl) (by intro w' hSw op_ ho; simp only [List.getElem?_toArray, List.getElem?_cons_succ, List.getElem?_cons_zero, Option.some.injEq] at ho; subst ho; go_simp; with_reducible rfl) (by assumption) ?_
      try simp only [Act.put, List.setIfInBounds_toArray, List.set_cons_zero, List.set_cons_succ]
      refine wpAnyH_done (by kernel_rfl) ?_ _
      go_wp2_with fail
      obtain ⟨cA, cn, cc⟩ := cl
      have c0 := cell_of_heap HX6.out 0
      have c1 := cell_of_heap HX6.out 1
      have c2 := cell_of_heap HX6.out 2
      have c3 := cell_of_heap HX6.out 3
      have c4 := cell_of_heap HX6.out 4
      have c5 := cell_of_heap HX6.out 5
      simp only at c0 c1 c2 c3 c4 c5
      exact bodyPost_ret (v := .tuple #[.agg #[.int .i64 id, .int .i64 z.1.a, .int .i64 z.1.b, .int .i64 z.1.c, .int .i64 z.1.d, .slice cA cn cc], .slice Bo z.2.length cb, .bool (fitsV x z.1)]) (by simp [results, Tryd.results34, go_sem, c0, c1, c2, c3, c4, c5]) rfl ⟨cA, cn, cc, Bo, cb, rfl, HS6.out.outs, HS6.out.low⟩
end Go.Proofs.YtlckofoabnnlhaaDoor
