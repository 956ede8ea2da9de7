/- The room where the fewest go for a demand, by contract, with the plan's allowances. Conditions: the plan lies in memory; its rooms' vectors are valid. -/
import Derived.Test.YtlckofoabnnlhaaDoorViFk
import Derived.Test.YtlckofoabnnlhaaDoorViCa
namespace Go.Proofs.YtlckofoabnnlhaaDoor
open Go Go.RowKit Go.Maps

set_option maxRecDepth 100000 in
set_option maxHeartbeats 12800000 in
theorem fewA_c (p B : Nat) (valid : Bool) (A : Option Addr) (c : Nat) (R : List Hst) (mb : Nat) (T : List (Int × Int)) (x : V4) (w : World) (h : PlanAt w p B valid A c R mb T) (hok : ∀ r ∈ R, okH r = true) :
    Calls Tryd.prog 20 #[.pointer (some ⟨p, 0, none⟩), .agg #[.int .i64 x.a, .int .i64 x.b, .int .i64 x.c, .int .i64 x.d], .func (.func 21) #[.pointer (some ⟨p, 0, none⟩)] #[]] w fun e w' => ∃ (rid : Int) (y : V4) (A' : Option Addr) (n' c' : Nat) (Bo : Option Addr) (cb : Nat), e = .returned (.tuple #[.int .i64 (placeF (fewK x (fun j => (look T j).getD 0) R)), .agg #[.int .i64 rid, .int .i64 y.a, .int .i64 y.b, .int .i64 y.c, .int .i64 y.d, .slice A' n' c'], .slice Bo (outF (fewK x (fun j => (look T j).getD 0) R)).length cb]) ∧ RoomF x (fun j => (look T j).getD 0) (fewK x (fun j => (look T j).getD 0) R) rid y ∧ OwnE encTk 33 w' w.heap.size (.slice Bo (outF (fewK x (fun j => (look T j).getD 0) R)).length cb) ((outF (fewK x (fun j => (look T j).getD 0) R)).map (·.task)) ∧ Below w.heap.size w w' := by
  have HCL : Hid (∀ (W : World) (r : Hst), r ∈ R → Below w.heap.size w W → Calls Tryd.prog 34 #[.agg #[.int .i64 r.id, .int .i64 r.left.a, .int .i64 r.left.b, .int .i64 r.left.c, .int .i64 r.left.d, .slice r.A r.on.length r.c], .agg #[.int .i64 x.a, .int .i64 x.b, .int .i64 x.c, .int .i64 x.d], .func (.func 21) #[.pointer (some ⟨p, 0, none⟩)] #[]] W fun e w' => ∃ (A' : Option Addr) (n' c' : Nat) (B : Option Addr) (cb : Nat), e = .returned (.tuple #[.agg #[.int .i64 r.id, .int .i64 (clearK x (fun j => (look T j).getD 0) r.left r.on).1.a, .int .i64 (clearK x (fun j => (look T j).getD 0) r.left r.on).1.b, .int .i64 (clearK x (fun j => (look T j).getD 0) r.left r.on).1.c, .int .i64 (clearK x (fun j => (look T j).getD 0) r.left r.on).1.d, .slice A' n' c'], .slice B (clearK x (fun j => (look T j).getD 0) r.left r.on).2.length cb, .bool (fitsV x (clearK x (fun j => (look T j).getD 0) r.left r.on).1)]) ∧ OwnE encTk 33 w' W.heap.size (.slice B (clearK x (fun j => (look T j).getD 0) r.left r.on).2.length cb) ((clearK x (fun j => (look T j).getD 0) r.left r.on).2.map (·.task)) ∧ Below W.heap.size W w') := Lib.hid fun W r hrm hb => by
    have hr := h.lie.each r hrm
    have hl := h.lie.few r hrm
    have hj := h.lie.jobs r hrm
    obtain ⟨hg, hn⟩ := ok_parts (hok r hrm)
    exact clearA_c p B valid A c R mb T r x W (hr.on hb) hl hg hn hj (h.on hb)
  generalize hal : (fun j => (look T j).getD 0) = al at *
  clear hal hok
  have HH := Lib.hid h
  have hRL := h.lie.all
  obtain ⟨z, hz⟩ : ∃ z, fewK x al R = z := ⟨_, rfl⟩
  rw [hz]
  have HZ := Lib.hid hz
  clear hz
  obtain ⟨g4, hg4⟩ : ∃ g4, w.heap.size = g4 := ⟨_, rfl⟩
  obtain ⟨g7, hg7⟩ : ∃ g7, w.heap.size + 1 = g7 := ⟨_, rfl⟩
  obtain ⟨g10, hg10⟩ : ∃ g10, w.heap.size + 1 + 1 = g10 := ⟨_, rfl⟩
  obtain ⟨W1, hW1⟩ : ∃ W1, ((w.alloc (.cells #[.int .i64 x.a, .int .i64 x.b, .int .i64 x.c, .int .i64 x.d] 24)).alloc (.cells #[.int .i64 0, .int .i64 0, .int .i64 0, .int .i64 0, .int .i64 0, .slice none 0 0] 61)).alloc (.cells #[.int .i64 0, .int .i64 0, .int .i64 0, .int .i64 0, .int .i64 0, .slice none 0 0] 61) = W1 := ⟨_, rfl⟩
  have hb1 : Below w.heap.size w W1 := by rw [← hW1]; exact (((Below.refl _ _).alloc (Nat.le_refl _) _).alloc (by simp) _).alloc (by simp; omega) _
  have hx10 : W1.heap[g10]? = some (.cells #[.int .i64 0, .int .i64 0, .int .i64 0, .int .i64 0, .int .i64 0, .slice none 0 0] 61 (0, 0)) := by
    rw [← hW1, ← hg10]
    exact heap_at_newV (by simp) _
  have hx7 : W1.heap[g7]? = some (.cells #[.int .i64 0, .int .i64 0, .int .i64 0, .int .i64 0, .int .i64 0, .slice none 0 0] 61 (0, 0)) := by
    rw [← hW1, ← hg7, Below.heap_alloc _ _ _ (by simp)]
    exact heap_at_newV (by simp) _
  have hx4 : W1.heap[g4]? = some (.cells #[.int .i64 x.a, .int .i64 x.b, .int .i64 x.c, .int .i64 x.d] 24 (0, 0)) := by
    rw [← hW1, ← hg4, Below.heap_alloc _ _ _ (by simp; try omega), Below.heap_alloc _ _ _ (by simp; try omega)]
    exact heap_at_newV rfl _
  have ST1 : Hid (FewAt w x g4 g7 g10 W1 0 ⟨0, 0, 0, 0⟩ (none, 0, 0) [] none 0) := Lib.hid ⟨hx4, ⟨_, hx7, rfl⟩, hx10, OwnE.nil .., hb1, by omega, by omega⟩
  obtain ⟨p0, p1, p2, pl⟩ := (h.on hb1).cells
  have HW1 := Lib.hid hW1
  have HG := Lib.hid (show w.heap.size = g4 ∧ w.heap.size + 1 = g7 ∧ w.heap.size + 1 + 1 = g10 from ⟨hg4, hg7, hg10⟩)
  clear h hW1 hb1 hx10 hx7 hx4 hg4 hg7 hg10
  go_enter Tryd.func20, Tryd.ntmps20
  go_upto_region 2 with fail
  rw [HG.out.2.2, HG.out.2.1, HG.out.1, HW1.out]
  go_upto_region 3 with fail
  go_loopg [9, 11, 23] R.length (fun gk s9 s11 s23 wr => ∃ (k : Nat) (b : Option (Nat × Hst × List Gst)) (rid : Int) (y : V4) (cl : Option Addr × Nat × Nat) (Bo : Option Addr) (cb : Nat), s23 = .int .i64 k ∧ s9 = .int .i64 (placeF b) ∧ s11 = .slice Bo (outF b).length cb ∧ k ≤ R.length ∧ R.length - k ≤ gk ∧ Aside (FewAt w x g4 g7 g10 wr rid y cl (outF b) Bo cb ∧ b = fewK x al (R.take k) ∧ RoomF x al b rid y))
  case atStart => exact ⟨0, none, 0, ⟨0, 0, 0, 0⟩, (none, 0, 0), none, 0, rfl, rfl, rfl, Nat.zero_le _, Nat.le_refl _, ST1.out, rfl, fun _ _ _ e => by cases e⟩
  case round =>
    obtain ⟨k, b, rid, y, cl, Bo, cb, rfl, rfl, rfl, hk, hgk, IN⟩ := hrel
    have HC := Lib.hid IN.out.1
    have HE := Lib.hid IN.out.2.1
    have HR := Lib.hid IN.out.2.2
    clear IN
    clear p0 p1 p2 pl
    by_cases hlt : k < R.length
    · obtain ⟨r, hr⟩ : ∃ r, R[k]? = some r := ⟨_, List.getElem?_eq_getElem hlt⟩
      obtain ⟨ad, q, rfl, had, hq, hc⟩ := HH.out.lie.row k r hr
      have hrm : r ∈ R := List.mem_of_getElem? hr
      have hltz : (k : Int) < (R.length : Int) := by omega
      have HB := Lib.hid HC.out.low
      have v0 := (HB.out.cell (p := q) hq).trans ((congrArg w.cell? (add_zeroE q).symm).trans (hc 0 _ rfl))
      have v1 := (HB.out.cell (p := ⟨q.block, q.off + 1, none⟩) hq).trans (hc 1 _ rfl)
      have v2 := (HB.out.cell (p := ⟨q.block, q.off + 2, none⟩) hq).trans (hc 2 _ rfl)
      have v3 := (HB.out.cell (p := ⟨q.block, q.off + 3, none⟩) hq).trans (hc 3 _ rfl)
      have v4 := (HB.out.cell (p := ⟨q.block, q.off + 4, none⟩) hq).trans (hc 4 _ rfl)
      have v5 := (HB.out.cell (p := ⟨q.block, q.off + 5, none⟩) hq).trans (hc 5 _ rfl)
      have hpl : q.block < wr.heap.size := Nat.lt_of_lt_of_le hq HB.out.size
      have HX := Lib.hid (fewK_take (x := x) (al := al) hr)
      obtain ⟨gr, hgr⟩ : ∃ gr, wr.heap.size = gr := ⟨_, rfl⟩
      obtain ⟨W2, hW2⟩ : ∃ W2, wr.alloc (.cells #[.int .i64 r.id, .int .i64 r.left.a, .int .i64 r.left.b, .int .i64 r.left.c, .int .i64 r.left.d, .slice r.A r.on.length r.c] 61) = W2 := ⟨_, rfl⟩
      have hb2 : Below wr.heap.size wr W2 := by rw [← hW2]; exact (Below.refl _ _).alloc (Nat.le_refl _) _
      have hxr : W2.heap[gr]? = some (.cells #[.int .i64 r.id, .int .i64 r.left.a, .int .i64 r.left.b, .int .i64 r.left.c, .int .i64 r.left.d, .slice r.A r.on.length r.c] 61 (0, 0)) := by rw [← hW2, ← hgr]; exact heap_alloc_new _ _
      have hC2 := HC.out.on hb2
      obtain ⟨n0, n1, n2, n3, nl⟩ := hC2.needs
      have HC2 := Lib.hid hC2
      have HXR := Lib.hid hxr
      have z0 := cell_of_heap hxr 0
      have z1 := cell_of_heap hxr 1
      have z2 := cell_of_heap hxr 2
      have z3 := cell_of_heap hxr 3
      have z4 := cell_of_heap hxr 4
      have z5 := cell_of_heap hxr 5
      have hrl := lt_of_row hxr
      simp at z0 z1 z2 z3 z4 z5
      have HCR := Lib.hid (HCL.out W2 r hrm (HB.out.trans (hb2.mono HB.out.size)))
      obtain ⟨q', hq'⟩ : ∃ q', clearK x al r.left r.on = q' := ⟨_, rfl⟩
      rw [hq'] at HCR
      have HQ := Lib.hid hq'
      have HW2 := Lib.hid hW2
      have HGR := Lib.hid hgr
      obtain ⟨id, ⟨l0, l1, l2, l3⟩, on, A', c'⟩ := r
      simp only at HCR HQ
      clear hr hq hc hrm hW2 hb2 hC2 hxr hgr hq'
      go_upto_region 5 with fail
      rw [HW2.out, HGR.out]
      go_wp2_with fail
      refine HCR.out.mono ?_
      rintro e w3 ⟨A3, n3', c3, B3, cb3, rfl, ho3, b3⟩
      clear v0 v1 v2 v3 v4 v5 had hpl n0 n1 n2 n3 nl z0 z1 z2 z3 z4 z5 hrl HCR
      obtain ⟨fit, hfit⟩ : ∃ fit, fitsV x q'.1 = fit := ⟨_, rfl⟩
      rw [hfit]
      have HFI := Lib.hid hfit
      obtain ⟨gx, hgx⟩ : ∃ gx, w3.heap.size = gx := ⟨_, rfl⟩
      obtain ⟨W4, hW4⟩ : ∃ W4, w3.alloc (.cells #[.int .i64 id, .int .i64 q'.1.a, .int .i64 q'.1.b, .int .i64 q'.1.c, .int .i64 q'.1.d, .slice A3 n3' c3] 61) = W4 := ⟨_, rfl⟩
      have hb4 : Below w3.heap.size w3 W4 := by rw [← hW4]; exact (Below.refl _ _).alloc (Nat.le_refl _) _
      have hx4 : W4.heap[gx]? = some (.cells #[.int .i64 id, .int .i64 q'.1.a, .int .i64 q'.1.b, .int .i64 q'.1.c, .int .i64 q'.1.d, .slice A3 n3' c3] 61 (0, 0)) := by rw [← hW4, ← hgx]; exact heap_alloc_new _ _
      have hxr4 := ((b3.trans (hb4.mono b3.size)).block gr (lt_of_row HXR.out)).trans HXR.out
      have hC4 := (HC2.out.on b3).on hb4
      have ho4 := (ho3.base HC2.out.low.size).on hb4
      have z0 := cell_of_heap hxr4 0
      simp at z0
      have hrl := lt_of_row hxr4
      obtain ⟨y0, -, -, -, -, -, hl10, -⟩ := hC4.cls
      have HNE : Hid (gx ≠ g10) := Lib.hid fun e => by have h1 := (HC2.out.on b3).cls.2.2.2.2.2.2.1; omega
      have HC4 := Lib.hid hC4
      have HO4 := Lib.hid ho4
      have HX4 := Lib.hid hx4
      have HW4 := Lib.hid hW4
      have HGX := Lib.hid hgx
      clear hfit b3 ho3 hb4 hx4 hxr4 hC4 ho4 hW4 hgx
      go_upto_region 6 with fail
      rw [HW4.out, HGX.out]
      obtain ⟨nq, hnq⟩ : ∃ nq, q'.2.length = nq := ⟨_, rfl⟩
      obtain ⟨nb, hnb⟩ : ∃ nb, (outF b).length = nb := ⟨_, rfl⟩
      rw [hnq, hnb]
      have HNQ := Lib.hid hnq
      have HNB := Lib.hid hnb
      clear hnq hnb
      cases fit with
      | false =>
        go_wp2_with fail
        go_roundg (R.length - (k + 1))
        case measure => omega
        case rel => exact ⟨k + 1, b, rid, y, cl, Bo, cb, by go_num, rfl, by rw [← HNB.out], by omega, Nat.le_refl _, HC4.out, Eq.symm (by rw [HX.out, ← HE.out]; unfold stepF; rw [if_neg (by simp only; rw [HQ.out, HFI.out]; simp)]), HR.out⟩
      | true =>
        cases b with
        | none =>
          have hpf : placeF (none : Option (Nat × Hst × List Gst)) = -1 := rfl
          rw [hpf]
          go_upto_region 7 with fail
          refine wp_region_held_drew (S := fun W => (∃ (rid : Int) (y : V4) (cl : Option Addr × Nat × Nat), FewAt w x g4 g7 g10 W rid y cl (outF (none : Option (Nat × Hst × List Gst))) Bo cb) ∧ W.heap[gx]? = some (.cells #[.int .i64 id, .int .i64 q'.1.a, .int .i64 q'.1.b, .int .i64 q'.1.c, .int .i64 q'.1.d, .slice A3 n3' c3] 61 (0, 0)) ∧ OwnE encTk 33 W w.heap.size (.slice B3 q'.2.length cb3) (q'.2.map (·.task))) (by kernel_rfl) ?_ (fun hHeld => ?_)
          · exact ⟨⟨rid, y, cl, HC4.out.on ((Below.refl _ _).drew)⟩, HX4.out, HO4.out.on ((Below.refl _ _).drew)⟩
          refine rg_take 0 (some 62) _ (by kernel_rfl) (by kernel_rfl) (by kernel_rfl) (fun _ _ _ h => h) (by kernel_rfl) (by kernel_rfl) (by intro w' hSw op_ ho; simp only [List.getElem?_toArray, List.getElem?_cons_zero, Option.some.injEq] at ho; subst ho; go_simp; with_reducible rfl) (by assumption) ?_
          try simp only [Act.put, List.setIfInBounds_toArray, List.set_cons_zero, List.set_cons_succ]
          refine rg_take 1 (some 63) _ (by kernel_rfl) (by kernel_rfl) (by kernel_rfl) (fun _ _ _ h => h) (by kernel_rfl) (by kernel_rfl) (by intro w' hSw op_ ho; simp only [List.getElem?_toArray, List.getElem?_cons_succ, List.getElem?_cons_zero, Option.some.injEq] at ho; subst ho; have e0 := cell_of_heap hSw.2.1 0; have e1 := cell_of_heap hSw.2.1 1; have e2 := cell_of_heap hSw.2.1 2; have e3 := cell_of_heap hSw.2.1 3; have e4 := cell_of_heap hSw.2.1 4; have e5 := cell_of_heap hSw.2.1 5; go_simp; with_reducible rfl) (by assumption) ?_
          try simp only [Act.put, List.setIfInBounds_toArray, List.set_cons_zero, List.set_cons_succ]
          refine rg_take 2 (some 64) _ (by kernel_rfl) (by kernel_rfl) (by kernel_rfl) (fun _ _ _ h => h) (by kernel_rfl) (by kernel_rfl) (by intro w' hSw op_ ho; simp only [List.getElem?_toArray, List.getElem?_cons_succ, List.getElem?_cons_zero, Option.some.injEq] at ho; subst ho; go_simp; with_reducible rfl) (by assumption) ?_
          try simp only [Act.put, List.setIfInBounds_toArray, List.set_cons_zero, List.set_cons_succ]
          refine rg_take 3 (some 9) _ (by kernel_rfl) (by kernel_rfl) (by kernel_rfl) (fun _ _ _ h => h) (by kernel_rfl) (by kernel_rfl) (by intro w' hSw op_ ho; simp only [List.getElem?_toArray, List.getElem?_cons_succ, List.getElem?_cons_zero, Option.some.injEq] at ho; subst ho; go_simp; with_reducible rfl) (by assumption) ?_
          try simp only [Act.put, List.setIfInBounds_toArray, List.set_cons_zero, List.set_cons_succ]
          refine rg_one 4 (by kernel_rfl) (by kernel_rfl) (fun op_ ho KK hK => ?_)
          simp only [List.getElem?_toArray, List.getElem?_cons_succ, List.getElem?_cons_zero, Option.some.injEq] at ho
          subst ho
          obtain ⟨d0, d1, d2, d3, d4, d5, hl6, hf6⟩ := HC4.out.cls
          have HS6 := Lib.hid ((HC4.out.put10 id q'.1 A3 n3' c3).on ((Below.refl _ _).drew))
          have HGX6 := Lib.hid ((put_six HC4.out.clr rfl (.int .i64 id) (.int .i64 q'.1.a) (.int .i64 q'.1.b) (.int .i64 q'.1.c) (.int .i64 q'.1.d) (.slice A3 n3' c3)).2)
          have hne : gx ≠ g10 := HNE.out
          have HX6 := Lib.hid ((HGX6.out gx hne).trans HX4.out)
          have HO6 := Lib.hid (OwnE.on (HO4.out.same fun k hk => HGX6.out k fun e => own_ne HO4.out HC4.out.clr (by decide) (e ▸ hk)) ((Below.refl _ _).drew))
          go_simp
          refine hK.out _ _ ⟨⟨_, _, _, HS6.out⟩, HX6.out, HO6.out⟩ (fun hHeld => ?_)
          clear d0 d1 d2 d3 d4 d5 hl6 hf6
          clear hK
          try simp only [Act.put, List.setIfInBounds_toArray, List.set_cons_zero, List.set_cons_succ]
          refine rg_take 5 (some 11) _ (by kernel_rfl) (by kernel_rfl) (by kernel_rfl) (fun _ _ _ h => h) (by kernel_rfl) (by kernel_rfl) (by intro w' hSw op_ ho; simp only [List.getElem?_toArray, List.getElem?_cons_succ, List.getElem?_cons_zero, Option.some.injEq] at ho; subst ho; go_simp; with_reducible rfl) (by assumption) ?_
          try simp only [Act.put, List.setIfInBounds_toArray, List.set_cons_zero, List.set_cons_succ]
          refine wpAnyH_done (by kernel_rfl) ?_ _
          go_wp2_with fail
          go_roundg (R.length - (k + 1))
          case measure => omega
          case rel =>
            refine ⟨k + 1, some (k, ⟨id, ⟨l0, l1, l2, l3⟩, on, A', c'⟩, q'.2), id, q'.1, (A3, n3', c3), B3, cb3, by go_num, rfl, by rw [← HNQ.out]; rfl, by omega, Nat.le_refl _, HS6.out.outs' HO6.out, ?_, ?_⟩
            · exact Eq.symm (by rw [HX.out, ← HE.out]; unfold stepF; rw [if_pos (by simp only; rw [HQ.out, HFI.out])]; simp only; rw [HQ.out])
            · rintro a t o ⟨rfl, rfl, rfl⟩; exact ⟨rfl, by rw [← HQ.out]⟩
        | some bb =>
          obtain ⟨a, t, o⟩ := bb
          have hrt : rid = t.id := (HR.out a t o rfl).1
          have HRT := Lib.hid hrt
          have hpf : placeF (some (a, t, o)) = (a : Int) := rfl
          rw [hpf]
          have hna : ¬ ((a : Int) < 0) := by omega
          by_cases h1 : nq < nb
          · go_upto_region 7 with fail
            refine wp_region_held_drew (S := fun W => (∃ (rid : Int) (y : V4) (cl : Option Addr × Nat × Nat), FewAt w x g4 g7 g10 W rid y cl (outF (some (a, t, o))) Bo cb) ∧ W.heap[gx]? = some (.cells #[.int .i64 id, .int .i64 q'.1.a, .int .i64 q'.1.b, .int .i64 q'.1.c, .int .i64 q'.1.d, .slice A3 n3' c3] 61 (0, 0)) ∧ OwnE encTk 33 W w.heap.size (.slice B3 q'.2.length cb3) (q'.2.map (·.task))) (by kernel_rfl) ?_ (fun hHeld => ?_)
            · exact ⟨⟨rid, y, cl, HC4.out.on ((Below.refl _ _).drew)⟩, HX4.out, HO4.out.on ((Below.refl _ _).drew)⟩
            refine rg_take 0 (some 62) _ (by kernel_rfl) (by kernel_rfl) (by kernel_rfl) (fun _ _ _ h => h) (by kernel_rfl) (by kernel_rfl) (by intro w' hSw op_ ho; simp only [List.getElem?_toArray, List.getElem?_cons_zero, Option.some.injEq] at ho; subst ho; go_simp; with_reducible rfl) (by assumption) ?_
            try simp only [Act.put, List.setIfInBounds_toArray, List.set_cons_zero, List.set_cons_succ]
            refine rg_take 1 (some 63) _ (by kernel_rfl) (by kernel_rfl) (by kernel_rfl) (fun _ _ _ h => h) (by kernel_rfl) (by kernel_rfl) (by intro w' hSw op_ ho; simp only [List.getElem?_toArray, List.getElem?_cons_succ, List.getElem?_cons_zero, Option.some.injEq] at ho; subst ho; have e0 := cell_of_heap hSw.2.1 0; have e1 := cell_of_heap hSw.2.1 1; have e2 := cell_of_heap hSw.2.1 2; have e3 := cell_of_heap hSw.2.1 3; have e4 := cell_of_heap hSw.2.1 4; have e5 := cell_of_heap hSw.2.1 5; go_simp; with_reducible rfl) (by assumption) ?_
            try simp only [Act.put, List.setIfInBounds_toArray, List.set_cons_zero, List.set_cons_succ]
            refine rg_take 2 (some 64) _ (by kernel_rfl) (by kernel_rfl) (by kernel_rfl) (fun _ _ _ h => h) (by kernel_rfl) (by kernel_rfl) (by intro w' hSw op_ ho; simp only [List.getElem?_toArray, List.getElem?_cons_succ, List.getElem?_cons_zero, Option.some.injEq] at ho; subst ho; go_simp; with_reducible rfl) (by assumption) ?_
            try simp only [Act.put, List.setIfInBounds_toArray, List.set_cons_zero, List.set_cons_succ]
            refine rg_take 3 (some 9) _ (by kernel_rfl) (by kernel_rfl) (by kernel_rfl) (fun _ _ _ h => h) (by kernel_rfl) (by kernel_rfl) (by intro w' hSw op_ ho; simp only [List.getElem?_toArray, List.getElem?_cons_succ, List.getElem?_cons_zero, Option.some.injEq] at ho; subst ho; go_simp; with_reducible rfl) (by assumption) ?_
            try simp only [Act.put, List.setIfInBounds_toArray, List.set_cons_zero, List.set_cons_succ]
            refine rg_one 4 (by kernel_rfl) (by kernel_rfl) (fun op_ ho KK hK => ?_)
            simp only [List.getElem?_toArray, List.getElem?_cons_succ, List.getElem?_cons_zero, Option.some.injEq] at ho
            subst ho
            obtain ⟨d0, d1, d2, d3, d4, d5, hl6, hf6⟩ := HC4.out.cls
            have HS6 := Lib.hid ((HC4.out.put10 id q'.1 A3 n3' c3).on ((Below.refl _ _).drew))
            have HGX6 := Lib.hid ((put_six HC4.out.clr rfl (.int .i64 id) (.int .i64 q'.1.a) (.int .i64 q'.1.b) (.int .i64 q'.1.c) (.int .i64 q'.1.d) (.slice A3 n3' c3)).2)
            have hne : gx ≠ g10 := HNE.out
            have HX6 := Lib.hid ((HGX6.out gx hne).trans HX4.out)
            have HO6 := Lib.hid (OwnE.on (HO4.out.same fun k hk => HGX6.out k fun e => own_ne HO4.out HC4.out.clr (by decide) (e ▸ hk)) ((Below.refl _ _).drew))
            go_simp
            refine hK.out _ _ ⟨⟨_, _, _, HS6.out⟩, HX6.out, HO6.out⟩ (fun hHeld => ?_)
            clear d0 d1 d2 d3 d4 d5 hl6 hf6
            clear hK
            try simp only [Act.put, List.setIfInBounds_toArray, List.set_cons_zero, List.set_cons_succ]
            refine rg_take 5 (some 11) _ (by kernel_rfl) (by kernel_rfl) (by kernel_rfl) (fun _ _ _ h => h) (by kernel_rfl) (by kernel_rfl) (by intro w' hSw op_ ho; simp only [List.getElem?_toArray, List.getElem?_cons_succ, List.getElem?_cons_zero, Option.some.injEq] at ho; subst ho; go_simp; with_reducible rfl) (by assumption) ?_
            try simp only [Act.put, List.setIfInBounds_toArray, List.set_cons_zero, List.set_cons_succ]
            refine wpAnyH_done (by kernel_rfl) ?_ _
            go_wp2_with fail
            go_roundg (R.length - (k + 1))
            case measure => omega
            case rel =>
              refine ⟨k + 1, some (k, ⟨id, ⟨l0, l1, l2, l3⟩, on, A', c'⟩, q'.2), id, q'.1, (A3, n3', c3), B3, cb3, by go_num, rfl, by rw [← HNQ.out]; rfl, by omega, Nat.le_refl _, HS6.out.outs' HO6.out, ?_, ?_⟩
              · exact Eq.symm (by rw [HX.out, ← HE.out]; unfold stepF; rw [if_pos (by simp only; rw [HQ.out, HFI.out])]; simp only; rw [HQ.out, if_pos (Or.inl (by have e1 := HNQ.out; have e2 := HNB.out; have e3 : (outF (some (a, t, o))).length = o.length := rfl; omega))])
              · rintro a t o ⟨rfl, rfl, rfl⟩; exact ⟨rfl, by rw [← HQ.out]⟩
          · by_cases h2 : nq = nb
            · subst h2
              have h2e : ((nq : Int) == nq) = true := by simp
              by_cases h3 : id < rid
              · go_upto_region 7 with fail
                refine wp_region_held_drew (S := fun W => (∃ (rid : Int) (y : V4) (cl : Option Addr × Nat × Nat), FewAt w x g4 g7 g10 W rid y cl (outF (some (a, t, o))) Bo cb) ∧ W.heap[gx]? = some (.cells #[.int .i64 id, .int .i64 q'.1.a, .int .i64 q'.1.b, .int .i64 q'.1.c, .int .i64 q'.1.d, .slice A3 n3' c3] 61 (0, 0)) ∧ OwnE encTk 33 W w.heap.size (.slice B3 q'.2.length cb3) (q'.2.map (·.task))) (by kernel_rfl) ?_ (fun hHeld => ?_)
                · exact ⟨⟨rid, y, cl, HC4.out.on ((Below.refl _ _).drew)⟩, HX4.out, HO4.out.on ((Below.refl _ _).drew)⟩
                refine rg_take 0 (some 62) _ (by kernel_rfl) (by kernel_rfl) (by kernel_rfl) (fun _ _ _ h => h) (by kernel_rfl) (by kernel_rfl) (by intro w' hSw op_ ho; simp only [List.getElem?_toArray, List.getElem?_cons_zero, Option.some.injEq] at ho; subst ho; go_simp; with_reducible rfl) (by assumption) ?_
                try simp only [Act.put, List.setIfInBounds_toArray, List.set_cons_zero, List.set_cons_succ]
                refine rg_take 1 (some 63) _ (by kernel_rfl) (by kernel_rfl) (by kernel_rfl) (fun _ _ _ h => h) (by kernel_rfl) (by kernel_rfl) (by intro w' hSw op_ ho; simp only [List.getElem?_toArray, List.getElem?_cons_succ, List.getElem?_cons_zero, Option.some.injEq] at ho; subst ho; have e0 := cell_of_heap hSw.2.1 0; have e1 := cell_of_heap hSw.2.1 1; have e2 := cell_of_heap hSw.2.1 2; have e3 := cell_of_heap hSw.2.1 3; have e4 := cell_of_heap hSw.2.1 4; have e5 := cell_of_heap hSw.2.1 5; go_simp; with_reducible rfl) (by assumption) ?_
                try simp only [Act.put, List.setIfInBounds_toArray, List.set_cons_zero, List.set_cons_succ]
                refine rg_take 2 (some 64) _ (by kernel_rfl) (by kernel_rfl) (by kernel_rfl) (fun _ _ _ h => h) (by kernel_rfl) (by kernel_rfl) (by intro w' hSw op_ ho; simp only [List.getElem?_toArray, List.getElem?_cons_succ, List.getElem?_cons_zero, Option.some.injEq] at ho; subst ho; go_simp; with_reducible rfl) (by assumption) ?_
                try simp only [Act.put, List.setIfInBounds_toArray, List.set_cons_zero, List.set_cons_succ]
                refine rg_take 3 (some 9) _ (by kernel_rfl) (by kernel_rfl) (by kernel_rfl) (fun _ _ _ h => h) (by kernel_rfl) (by kernel_rfl) (by intro w' hSw op_ ho; simp only [List.getElem?_toArray, List.getElem?_cons_succ, List.getElem?_cons_zero, Option.some.injEq] at ho; subst ho; go_simp; with_reducible rfl) (by assumption) ?_
                try simp only [Act.put, List.setIfInBounds_toArray, List.set_cons_zero, List.set_cons_succ]
                refine rg_one 4 (by kernel_rfl) (by kernel_rfl) (fun op_ ho KK hK => ?_)
                simp only [List.getElem?_toArray, List.getElem?_cons_succ, List.getElem?_cons_zero, Option.some.injEq] at ho
                subst ho
                obtain ⟨d0, d1, d2, d3, d4, d5, hl6, hf6⟩ := HC4.out.cls
                have HS6 := Lib.hid ((HC4.out.put10 id q'.1 A3 n3' c3).on ((Below.refl _ _).drew))
                have HGX6 := Lib.hid ((put_six HC4.out.clr rfl (.int .i64 id) (.int .i64 q'.1.a) (.int .i64 q'.1.b) (.int .i64 q'.1.c) (.int .i64 q'.1.d) (.slice A3 n3' c3)).2)
                have hne : gx ≠ g10 := HNE.out
                have HX6 := Lib.hid ((HGX6.out gx hne).trans HX4.out)
                have HO6 := Lib.hid (OwnE.on (HO4.out.same fun k hk => HGX6.out k fun e => own_ne HO4.out HC4.out.clr (by decide) (e ▸ hk)) ((Below.refl _ _).drew))
                go_simp
                refine hK.out _ _ ⟨⟨_, _, _, HS6.out⟩, HX6.out, HO6.out⟩ (fun hHeld => ?_)
                clear d0 d1 d2 d3 d4 d5 hl6 hf6
                clear hK
                try simp only [Act.put, List.setIfInBounds_toArray, List.set_cons_zero, List.set_cons_succ]
                refine rg_take 5 (some 11) _ (by kernel_rfl) (by kernel_rfl) (by kernel_rfl) (fun _ _ _ h => h) (by kernel_rfl) (by kernel_rfl) (by intro w' hSw op_ ho; simp only [List.getElem?_toArray, List.getElem?_cons_succ, List.getElem?_cons_zero, Option.some.injEq] at ho; subst ho; go_simp; with_reducible rfl) (by assumption) ?_
                try simp only [Act.put, List.setIfInBounds_toArray, List.set_cons_zero, List.set_cons_succ]
                refine wpAnyH_done (by kernel_rfl) ?_ _
                go_wp2_with fail
                go_roundg (R.length - (k + 1))
                case measure => omega
                case rel =>
                  refine ⟨k + 1, some (k, ⟨id, ⟨l0, l1, l2, l3⟩, on, A', c'⟩, q'.2), id, q'.1, (A3, n3', c3), B3, cb3, by go_num, rfl, by rw [← HNQ.out]; rfl, by omega, Nat.le_refl _, HS6.out.outs' HO6.out, ?_, ?_⟩
                  · exact Eq.symm (by rw [HX.out, ← HE.out]; unfold stepF; rw [if_pos (by simp only; rw [HQ.out, HFI.out])]; simp only; rw [HQ.out, if_pos (Or.inr ⟨by have e1 := HNQ.out; have e2 := HNB.out; have e3 : (outF (some (a, t, o))).length = o.length := rfl; omega, by rw [← HRT.out]; exact h3⟩)])
                  · rintro a t o ⟨rfl, rfl, rfl⟩; exact ⟨rfl, by rw [← HQ.out]⟩
              · go_wp2_with fail
                go_roundg (R.length - (k + 1))
                case measure => omega
                case rel => exact ⟨k + 1, (some (a, t, o)), rid, y, cl, Bo, cb, by go_num, rfl, by rw [← HNB.out], by omega, Nat.le_refl _, HC4.out, Eq.symm (by rw [HX.out, ← HE.out]; unfold stepF; rw [if_pos (by simp only; rw [HQ.out, HFI.out])]; simp only; rw [HQ.out, if_neg (by rw [← HRT.out]; have e1 := HNQ.out; have e2 := HNB.out; have e3 : (outF (some (a, t, o))).length = o.length := rfl; omega)]), HR.out⟩
            · have h2e : ((nq : Int) == nb) = false := beq_eq_false_iff_ne.2 (by omega)
              go_wp2_with fail
              go_roundg (R.length - (k + 1))
              case measure => omega
              case rel => exact ⟨k + 1, (some (a, t, o)), rid, y, cl, Bo, cb, by go_num, rfl, by rw [← HNB.out], by omega, Nat.le_refl _, HC4.out, Eq.symm (by rw [HX.out, ← HE.out]; unfold stepF; rw [if_pos (by simp only; rw [HQ.out, HFI.out])]; simp only; rw [HQ.out, if_neg (by have e1 := HNQ.out; have e2 := HNB.out; have e3 : (outF (some (a, t, o))).length = o.length := rfl; omega)]), HR.out⟩
    · obtain rfl : k = R.length := by omega
      have hz1 : ¬ (R.length : Int) < (R.length : Int) := by omega
      rw [List.take_length] at HE
      have hz : b = z := HE.out.trans HZ.out
      clear HE HZ
      subst hz
      go_upto_region 9 with fail
      obtain ⟨cA, cn, cc⟩ := cl
      refine wp_region_held_drew (S := fun W => FewAt w x g4 g7 g10 W rid y (cA, cn, cc) (outF b) Bo cb) (by kernel_rfl) ?_ (fun hHeld => ?_)
      · exact HC.out.on ((Below.refl _ _).drew)
      refine rg_take 0 (some 66) _ (by kernel_rfl) (by kernel_rfl) (by kernel_rfl) (fun _ _ _ h => h) (by kernel_rfl) (by kernel_rfl) (by intro w' hSw op_ ho; simp only [List.getElem?_toArray, List.getElem?_cons_zero, Option.some.injEq] at ho; subst ho; go_simp; with_reducible rfl) (by assumption) ?_
      try simp only [Act.put, List.setIfInBounds_toArray, List.set_cons_zero, List.set_cons_succ]
      refine rg_take 1 (some 67) _ (by kernel_rfl) (by kernel_rfl) (by kernel_rfl) (fun _ _ _ h => h) (by kernel_rfl) (by kernel_rfl) (by intro w' hSw op_ ho; simp only [List.getElem?_toArray, List.getElem?_cons_succ, List.getElem?_cons_zero, Option.some.injEq] at ho; subst ho; obtain ⟨e0, e1, e2, e3, e4, e5, -, -⟩ := hSw.cls; go_simp; with_reducible rfl) (by assumption) ?_
      try simp only [Act.put, List.setIfInBounds_toArray, List.set_cons_zero, List.set_cons_succ]
      refine rg_take 2 (some 68) _ (by kernel_rfl) (by kernel_rfl) (by kernel_rfl) (fun _ _ _ h => h) (by kernel_rfl) (by kernel_rfl) (by intro w' hSw op_ ho; simp only [List.getElem?_toArray, List.getElem?_cons_succ, List.getElem?_cons_zero, Option.some.injEq] at ho; subst ho; go_simp; with_reducible rfl) (by assumption) ?_
      try simp only [Act.put, List.setIfInBounds_toArray, List.set_cons_zero, List.set_cons_succ]
      refine rg_take 3 (some 6) _ (by kernel_rfl) (by kernel_rfl) (by kernel_rfl) (fun _ _ _ h => h) (by kernel_rfl) (by kernel_rfl) (by intro w' hSw op_ ho; simp only [List.getElem?_toArray, List.getElem?_cons_succ, List.getElem?_cons_zero, Option.some.injEq] at ho; subst ho; go_simp; with_reducible rfl) (by assumption) ?_
      try simp only [Act.put, List.setIfInBounds_toArray, List.set_cons_zero, List.set_cons_succ]
      refine rg_one 4 (by kernel_rfl) (by kernel_rfl) (fun op_ ho KK hK => ?_)
      simp only [List.getElem?_toArray, List.getElem?_cons_succ, List.getElem?_cons_zero, Option.some.injEq] at ho
      subst ho
      obtain ⟨d0, d1, d2, d3, d4, d5, h0, h1, h2, h3, h4, h5, hl6, hf6⟩ := HC.out.res6
      obtain ⟨S6, hX6⟩ := HC.out.put7 (.int .i64 rid) (.int .i64 y.a) (.int .i64 y.b) (.int .i64 y.c) (.int .i64 y.d) (.slice cA cn cc)
      have HS6 := Lib.hid (S6.on ((Below.refl _ _).drew))
      have HX6 := Lib.hid hX6
      clear S6 hX6
      go_simp
      refine hK.out _ _ HS6.out (fun hHeld => ?_)
      clear h0 h1 h2 h3 h4 h5 hl6 hf6
      clear hK
      try simp only [Act.put, List.setIfInBounds_toArray, List.set_cons_zero, List.set_cons_succ]
      refine rg_take 5 (some 8) _ (by kernel_rfl) (by kernel_rfl) (by kernel_rfl) (fun _ _ _ h => h) (by kernel_rfl) (by kernel_rfl) (by intro w' hSw op_ ho; simp only [List.getElem?_toArray, List.getElem?_cons_succ, List.getElem?_cons_zero, Option.some.injEq] at ho; subst ho; go_simp; with_reducible rfl) (by assumption) ?_
      try simp only [Act.put, List.setIfInBounds_toArray, List.set_cons_zero, List.set_cons_succ]
      refine wpAnyH_done (by kernel_rfl) ?_ _
      go_wp2_with fail
      have c0 := cell_of_heap HX6.out 0
      have c1 := cell_of_heap HX6.out 1
      have c2 := cell_of_heap HX6.out 2
      have c3 := cell_of_heap HX6.out 3
      have c4 := cell_of_heap HX6.out 4
      have c5 := cell_of_heap HX6.out 5
      exact bodyPost_ret (v := .tuple #[.int .i64 (placeF b), .agg #[.int .i64 rid, .int .i64 y.a, .int .i64 y.b, .int .i64 y.c, .int .i64 y.d, .slice cA cn cc], .slice Bo (outF b).length cb]) (by simp [results, Tryd.results20, go_sem, c0, c1, c2, c3, c4, c5]) rfl ⟨rid, y, cA, cn, cc, Bo, cb, rfl, HR.out, HS6.out.outs, HS6.out.low⟩
end Go.Proofs.YtlckofoabnnlhaaDoor
