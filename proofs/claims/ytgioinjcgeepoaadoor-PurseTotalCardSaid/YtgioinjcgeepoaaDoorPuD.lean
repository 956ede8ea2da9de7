/- The contracts of purse's methods that change a book, and of its total and its owners. Conditions: the book lies in memory as its map has it; the sentinels lie where the program's text lays them. -/
import Derived.Test.YtgioinjcgeepoaaDoorPuC
import Derived.IntWalk
namespace Go.Proofs.YtgioinjcgeepoaaDoor
open Go Go.RowKit Go.Maps Go.Sort

theorem fieldP0 (a0 a1 : Value) (W : World) : (Instr.field 29 (.agg #[a0, a1]) 0).run Tryd.prog W = .ok a0 W := by kernel_rfl
theorem fieldP1 (a0 a1 : Value) (W : World) : (Instr.field 29 (.agg #[a0, a1]) 1).run Tryd.prog W = .ok a1 W := by kernel_rfl
/-- Two purses are the same if both of their numbers are. -/
theorem eqP (x0 x1 y0 y1 : Int) (w : World) : (Op.equalIn 10000 29 (.agg #[.int .i64 x0, .int .i64 x1]) (.agg #[.int .i64 y0, .int .i64 y1])).run Tryd.prog w = .ok (x0 == y0 && x1 == y1) w := by
  have hs : Tryd.prog.stoodInHeld 29 = false := by kernel_rfl
  have ht : Tryd.prog.underlying 29 = some (.struct (Tryd.prog.fieldsOf 29)) := by kernel_rfl
  have hf : ∃ fs, Tryd.prog.fieldsOf 29 = fs ∧ Tryd.prog.underlying 29 = some (.struct fs) := ⟨_, rfl, ht⟩
  obtain ⟨fs, h1, h2⟩ := hf
  rw [Tryd.underlying29] at h2
  simp only [Option.some.injEq, TypeDesc.struct.injEq] at h2
  subst h2
  rw [run_equalIn_agg w 9999 29 _ _ ht hs, h1]
  have q0 : ∀ (W : World) (a0 a1 : Value), (part 3 #[a0, a1] 0).run Tryd.prog W = .ok a0 W := fun _ _ _ => by kernel_rfl
  have q1 : ∀ (W : World) (a0 a1 : Value), (part 3 #[a0, a1] 1).run Tryd.prog W = .ok a1 W := fun _ _ _ => by kernel_rfl
  cases e0 : x0 == y0 <;> cases e1 : x1 == y1 <;>
    simp [Op.eqFields, q0, q1, run_equalIn_int _ _ _ _ _ _ _ Tryd.underlying3, e0, e1]

theorem errV_one (s : Nat → Addr) : errV s 1 = .iface 98 (.pointer (some (s 0))) := rfl
theorem errV_none (s : Nat → Addr) : errV s 0 = .nilIface := rfl
theorem BookAt.grow {w w' : World} {q b : Nat} {P : Pur} (h : BookAt w q b P) (hb : Below w.heap.size w w') : BookAt w' q b P := h.on hb (Nat.le_refl _)
theorem maxLen_is : maxLen = 9223372036854775807 := by unfold maxLen; decide

set_option maxRecDepth 100000 in
/-- What a tenant has changes. -/
theorem change_c (b : Nat) (P : Pur) (x f g : Int) (w : World) (h : PursAt w b P) (h0 : -9223372036854775808 ≤ x) (h1 : x ≤ 9223372036854775807) (hn : P.length < 1000000)
    (hf : 0 ≤ (purse P x).1 + f ∧ (purse P x).1 + f ≤ 4503599627370496) (hg : 0 ≤ (purse P x).2 + g ∧ (purse P x).2 + g ≤ 4503599627370496) :
    Calls Tryd.prog 22 #[.map (some b), .int .i64 x, .int .i64 f, .int .i64 g] w fun e w' => e = .returned (.tuple #[]) ∧ PursAt w' b (change P x f g) ∧ Chg b b w w' := by
  have hk := wfI h0 h1
  have hE := eqP
  have hml : P.length < maxLen := by rw [maxLen_is]; omega
  have H := Lib.hid h
  obtain ⟨⟨a, c⟩, hu⟩ : ∃ u, purse P x = u := ⟨_, rfl⟩
  have hv : encP ((look P x).getD (0, 0)) = .agg #[.int .i64 a, .int .i64 c] := by rw [show (look P x).getD (0, 0) = purse P x from rfl, hu]; rfl
  have hC : change P x f g = if a + f = 0 ∧ c + g = 0 then strike P x else enter P x (a + f, c + g) := by unfold change; rw [hu]
  rw [hu] at hf hg
  simp only at hf hg
  rw [hC]
  clear h h0 h1 hu hC hn
  by_cases hz : a + f = 0 ∧ c + g = 0
  · rw [if_pos hz]
    obtain ⟨z1, z2⟩ := hz
    clear hf hg
    have w1 : wrap64 (a + f) = 0 := by unfold wrap64; omega
    have w2 : wrap64 (c + g) = 0 := by unfold wrap64; omega
    clear z1 z2
    go_enter Tryd.func22, Tryd.ntmps22
    go_wp2_with (first
      | (at_lookup; refine wpList_lookI _ rfl _ _ 44 rfl 3 29 Tryd.underlying3 Tryd.underlying44 encP (0, 0) (Tryd.zeroP _) b P rfl H.out x rfl hk _ hv ?_)
      | (at_delete; refine wpList_delI _ rfl _ _ 44 3 rfl 29 Tryd.underlying3 Tryd.underlying44 encP b P rfl (H.out.on (B := w.heap.size) (by go_grown) (Nat.le_refl _)) x rfl hk ?_; intro w3 hown3 hg3))
    (try simp only [Exit.inBlock, Exit.then])
    refine bodyPost_ret (results_none rfl _ _ _) rfl ?_
    exact ⟨rfl, hown3, ((Chg.refl b b w).alloc _).grown hg3 (fun k e => .inl (by cases e; rfl))⟩
  · rw [if_neg hz]
    obtain ⟨A, hA⟩ : ∃ A, a + f = A := ⟨_, rfl⟩
    obtain ⟨C, hC⟩ : ∃ C, c + g = C := ⟨_, rfl⟩
    have w1 : wrap64 (a + f) = A := by unfold wrap64; omega
    have w2 : wrap64 (c + g) = C := by unfold wrap64; omega
    rw [hA, hC] at hz ⊢
    have z : (A == 0 && C == 0) = false := by
      rw [Bool.and_eq_false_iff, beq_eq_false_iff_ne, beq_eq_false_iff_ne]
      by_cases k : A = 0
      · exact .inr fun k2 => hz ⟨k, k2⟩
      · exact .inl k
    clear hf hg hz hA hC
    go_enter Tryd.func22, Tryd.ntmps22
    go_wp2_with (first
      | (at_lookup; refine wpList_lookI _ rfl _ _ 44 rfl 3 29 Tryd.underlying3 Tryd.underlying44 encP (0, 0) (Tryd.zeroP _) b P rfl H.out x rfl hk _ hv ?_)
      | (at_mapUpdate; refine wpList_putI _ rfl _ _ _ 44 rfl 3 29 Tryd.underlying3 Tryd.underlying44 encP b P rfl (H.out.on (B := w.heap.size) (by go_grown) (Nat.le_refl _)) hml x rfl hk (A, C) rfl ?_; intro w3 hown3 hg3))
    go_end0
    exact ⟨rfl, hown3, ((Chg.refl b b w).alloc _).grown hg3 (fun k e => .inl (by cases e; rfl))⟩

/-- What is wrong with an amount. -/
theorem check_c (s : Nat → Addr) (q b : Nat) (P : Pur) (n : Int) (w : World) (hs : Sent s w) (_h : BookAt w q b P) :
    Calls Tryd.prog 21 #[.pointer (some ⟨q, 0, none⟩), .int .i64 n] w fun e w' => e = .returned (errV s (if amount n then 0 else 1)) ∧ w' = w := by
  have e0 := hs.cell 0 (by omega)
  simp only [gnum, List.getD_cons_zero] at e0
  clear _h hs
  by_cases h : amount n
  · rw [if_pos h]
    have g1 : decide (n < 0) = false := decide_eq_false (by have := h.1; omega)
    have g2 : decide (1125899906842624 < n) = false := decide_eq_false (by have := h.2; omega)
    clear h
    go_enter Tryd.func21, Tryd.ntmps21
    go_wp2
    go_ret
    exact ⟨rfl, rfl⟩
  · rw [if_neg h]
    by_cases h0 : n < 0
    · have g1 : decide (n < 0) = true := decide_eq_true h0
      clear h h0
      go_enter Tryd.func21, Tryd.ntmps21
      go_wp2
      go_ret
      exact ⟨rfl, rfl⟩
    · have g1 : decide (n < 0) = false := decide_eq_false h0
      have g2 : decide (1125899906842624 < n) = true := decide_eq_true (by unfold amount at h; omega)
      clear h h0
      go_enter Tryd.func21, Tryd.ntmps21
      go_wp2
      go_ret
      exact ⟨rfl, rfl⟩

set_option maxRecDepth 100000 in
/-- Book.Give. -/
theorem give_c (s : Nat → Addr) (q b : Nat) (P : Pur) (x n : Int) (w : World) (hs : Sent s w) (h : BookAt w q b P) (h0 : -9223372036854775808 ≤ x) (h1 : x ≤ 9223372036854775807) (hn : P.length < 1000000) :
    Calls Tryd.prog 11 #[.pointer (some ⟨q, 0, none⟩), .int .i64 x, .int .i64 n] w fun e w' => e = .returned (errV s (giveErr P n)) ∧ BookAt w' q b (given P x n) ∧ Chg b b w w' := by
  have ck := check_c s q b P n w hs h
  have c0 := cell_of_heap h.box 0
  have H := Lib.hid h
  have HS := Lib.hid hs
  by_cases ha : amount n
  · rw [if_pos ha, errV_none] at ck
    have ct := ptotal_c b P w h.map h.solid
    have hm := h.solid.most
    have hw := h.solid.nonneg
    by_cases ho : 1125899906842624 < wealth P + n
    · have hG : giveErr P n = 4 := by unfold giveErr; rw [if_neg (by simpa using ha), if_pos ho]
      have hP : given P x n = P := by unfold given; rw [hG]; rfl
      rw [hG, hP]
      obtain ⟨W, hW⟩ : ∃ W, wealth P = W := ⟨_, rfl⟩
      rw [hW] at ct ho hm hw
      have w1 : wrap64 (W + n) = W + n := by unfold wrap64; have := ha.1; have := ha.2; omega
      have g1 : decide (1125899906842624 < W + n) = true := decide_eq_true ho
      clear h hs ha ho hm hw hW hG hP
      go_enter Tryd.func11, Tryd.ntmps11
      go_wp2_with (first
        | (go_at_call 21; refine ck.mono ?_; rintro e w ⟨rfl, rfl⟩)
        | (go_at_call 18; refine ct.mono ?_; rintro e w1 ⟨rfl, b1⟩; have e3 := (HS.out.below b1 (Nat.le_refl _)).cell 3 (by omega); simp only [gnum, List.getD_cons_zero, List.getD_cons_succ] at e3))
      go_ret
      exact ⟨rfl, H.out.grow b1, Chg.of_below b1⟩
    · have hG : giveErr P n = 0 := by unfold giveErr; rw [if_neg (by simpa using ha), if_neg ho]
      have hP : given P x n = change P x n 0 := by unfold given; rw [hG]; rfl
      have hS : Solid (change P x n 0) := by rw [← hP]; exact h.solid.given x n
      rw [hG, hP, errV_none]
      have hc := h.solid.free x; have hd := h.solid.held x; have hone := h.solid.one x
      have cc := fun (W : World) (hW : PursAt W b P) => change_c b P x n 0 W hW h0 h1 hn (by have := ha.1; have := ha.2; omega) (by omega)
      have CC := Lib.hid cc
      have HSO := Lib.hid hS
      obtain ⟨T, hW⟩ : ∃ T, wealth P = T := ⟨_, rfl⟩
      rw [hW] at ct ho hm hw
      have w1 : wrap64 (T + n) = T + n := by unfold wrap64; have := ha.1; have := ha.2; omega
      have g1 : decide (1125899906842624 < T + n) = false := decide_eq_false ho
      clear h hs ha ho hm hw hW hG hP hc hd hone cc hS
      go_enter Tryd.func11, Tryd.ntmps11
      go_wp2_with (first
        | (go_at_call 21; refine ck.mono ?_; rintro e w ⟨rfl, rfl⟩)
        | (go_at_call 18; refine ct.mono ?_; rintro e w1 ⟨rfl, b1⟩; have c1 := cell_of_heap (H.out.grow b1).box 0)
        | (go_at_call 22; refine (CC.out w1 (H.out.grow b1).map).mono ?_; rintro e w2 ⟨rfl, m2, k2⟩))
      go_ret
      exact ⟨rfl, (H.out.grow b1).step k2 m2 HSO.out, (Chg.of_below b1).trans k2 (.inl rfl)⟩
  · rw [if_neg ha, errV_one] at ck
    have hG : giveErr P n = 1 := by unfold giveErr; rw [if_pos ha]
    have hP : given P x n = P := by unfold given; rw [hG]; rfl
    rw [hG, hP]
    clear h hs ha hG hP
    go_enter Tryd.func11, Tryd.ntmps11
    go_wp2_with (go_at_call 21; refine ck.mono ?_; rintro e w ⟨rfl, rfl⟩)
    go_ret
    exact ⟨rfl, H.out, Chg.refl _ _ _⟩

set_option maxRecDepth 100000 in
/-- Book.Take. -/
theorem take_c (s : Nat → Addr) (q b : Nat) (P : Pur) (x n : Int) (w : World) (hs : Sent s w) (h : BookAt w q b P) (h0 : -9223372036854775808 ≤ x) (h1 : x ≤ 9223372036854775807) (hn : P.length < 1000000) :
    Calls Tryd.prog 16 #[.pointer (some ⟨q, 0, none⟩), .int .i64 x, .int .i64 n] w fun e w' => e = .returned (errV s (takeErr P x n)) ∧ BookAt w' q b (taken P x n) ∧ Chg b b w w' := by
  have ck := check_c s q b P n w hs h
  have c0 := cell_of_heap h.box 0
  have H := Lib.hid h
  have hk := wfI h0 h1
  have e11 := hs.cell 11 (by omega)
  simp only [gnum, List.getD_cons_zero, List.getD_cons_succ] at e11
  have hu : ∃ u, purse P x = u := ⟨_, rfl⟩
  have hF0 := fieldP0; have hF1 := fieldP1
  by_cases ha : amount n
  · rw [if_pos ha, errV_none] at ck
    have hc := h.solid.free x; have hd := h.solid.held x; have hone := h.solid.one x; have hm := h.solid.most
    have w1 : wrap64 (-n) = -n := by unfold wrap64; have := ha.1; have := ha.2; omega
    by_cases ho : (purse P x).1 < n
    · have hG : takeErr P x n = 12 := by unfold takeErr; rw [if_neg (by simpa using ha), if_pos ho]
      have hP : taken P x n = P := by unfold taken; rw [hG]; rfl
      rw [hG, hP]
      obtain ⟨⟨f, g⟩, hu⟩ := hu
      have hv : encP ((look P x).getD (0, 0)) = .agg #[.int .i64 f, .int .i64 g] := by rw [show (look P x).getD (0, 0) = purse P x from rfl, hu]; rfl
      rw [hu] at ho
      have g1 : decide (f < n) = true := decide_eq_true ho
      clear h hs ha ho hm hG hP hc hd hone hu h0 h1
      go_enter Tryd.func16, Tryd.ntmps16
      go_wp2_with (first
        | (go_at_call 21; refine ck.mono ?_; rintro e w ⟨rfl, rfl⟩)
        | (at_lookup; refine wpList_lookI _ rfl _ _ 44 rfl 3 29 Tryd.underlying3 Tryd.underlying44 encP (0, 0) (Tryd.zeroP _) b P rfl H.out.map x rfl hk _ hv ?_))
      go_ret
      exact ⟨rfl, H.out, Chg.refl _ _ _⟩
    · have hG : takeErr P x n = 0 := by unfold takeErr; rw [if_neg (by simpa using ha), if_neg ho]
      have hP : taken P x n = change P x (-n) (0) := by unfold taken; rw [hG]; rfl
      have hS : Solid (change P x (-n) (0)) := by rw [← hP]; exact h.solid.taken x n
      rw [hG, hP, errV_none]
      have CC := Lib.hid (fun (W : World) (hW : PursAt W b P) => change_c b P x (-n) (0) W hW h0 h1 hn (by have := ha.1; have := ha.2; omega) (by have := ha.1; have := ha.2; omega))
      have HSO := Lib.hid hS
      obtain ⟨⟨f, g⟩, hu⟩ := hu
      have hv : encP ((look P x).getD (0, 0)) = .agg #[.int .i64 f, .int .i64 g] := by rw [show (look P x).getD (0, 0) = purse P x from rfl, hu]; rfl
      rw [hu] at ho
      have g1 : decide (f < n) = false := decide_eq_false ho
      clear h hs ha ho hm hG hP hc hd hone hu h0 h1 hS
      go_enter Tryd.func16, Tryd.ntmps16
      go_wp2_with (first
        | (go_at_call 21; refine ck.mono ?_; rintro e w ⟨rfl, rfl⟩)
        | (at_lookup; refine wpList_lookI _ rfl _ _ 44 rfl 3 29 Tryd.underlying3 Tryd.underlying44 encP (0, 0) (Tryd.zeroP _) b P rfl H.out.map x rfl hk _ hv ?_)
        | (go_at_call 22; refine (CC.out _ H.out.map).mono ?_; rintro e w2 ⟨rfl, m2, k2⟩))
      go_ret
      exact ⟨rfl, H.out.step k2 m2 HSO.out, k2⟩
  · rw [if_neg ha, errV_one] at ck
    have hG : takeErr P x n = 1 := by unfold takeErr; rw [if_pos ha]
    have hP : taken P x n = P := by unfold taken; rw [hG]; rfl
    rw [hG, hP]
    clear h hs ha hG hP
    go_enter Tryd.func16, Tryd.ntmps16
    go_wp2_with (go_at_call 21; refine ck.mono ?_; rintro e w ⟨rfl, rfl⟩)
    go_ret
    exact ⟨rfl, H.out, Chg.refl _ _ _⟩

set_option maxRecDepth 100000 in
/-- Book.Hold. -/
theorem hold_c (s : Nat → Addr) (q b : Nat) (P : Pur) (x n : Int) (w : World) (hs : Sent s w) (h : BookAt w q b P) (h0 : -9223372036854775808 ≤ x) (h1 : x ≤ 9223372036854775807) (hn : P.length < 1000000) :
    Calls Tryd.prog 12 #[.pointer (some ⟨q, 0, none⟩), .int .i64 x, .int .i64 n] w fun e w' => e = .returned (errV s (takeErr P x n)) ∧ BookAt w' q b (holds P x n) ∧ Chg b b w w' := by
  have ck := check_c s q b P n w hs h
  have c0 := cell_of_heap h.box 0
  have H := Lib.hid h
  have hk := wfI h0 h1
  have e11 := hs.cell 11 (by omega)
  simp only [gnum, List.getD_cons_zero, List.getD_cons_succ] at e11
  have hu : ∃ u, purse P x = u := ⟨_, rfl⟩
  have hF0 := fieldP0; have hF1 := fieldP1
  by_cases ha : amount n
  · rw [if_pos ha, errV_none] at ck
    have hc := h.solid.free x; have hd := h.solid.held x; have hone := h.solid.one x; have hm := h.solid.most
    have w1 : wrap64 (-n) = -n := by unfold wrap64; have := ha.1; have := ha.2; omega
    by_cases ho : (purse P x).1 < n
    · have hG : takeErr P x n = 12 := by unfold takeErr; rw [if_neg (by simpa using ha), if_pos ho]
      have hP : holds P x n = P := by unfold holds; rw [hG]; rfl
      rw [hG, hP]
      obtain ⟨⟨f, g⟩, hu⟩ := hu
      have hv : encP ((look P x).getD (0, 0)) = .agg #[.int .i64 f, .int .i64 g] := by rw [show (look P x).getD (0, 0) = purse P x from rfl, hu]; rfl
      rw [hu] at ho
      have g1 : decide (f < n) = true := decide_eq_true ho
      clear h hs ha ho hm hG hP hc hd hone hu h0 h1
      go_enter Tryd.func12, Tryd.ntmps12
      go_wp2_with (first
        | (go_at_call 21; refine ck.mono ?_; rintro e w ⟨rfl, rfl⟩)
        | (at_lookup; refine wpList_lookI _ rfl _ _ 44 rfl 3 29 Tryd.underlying3 Tryd.underlying44 encP (0, 0) (Tryd.zeroP _) b P rfl H.out.map x rfl hk _ hv ?_))
      go_ret
      exact ⟨rfl, H.out, Chg.refl _ _ _⟩
    · have hG : takeErr P x n = 0 := by unfold takeErr; rw [if_neg (by simpa using ha), if_neg ho]
      have hP : holds P x n = change P x (-n) (n) := by unfold holds; rw [hG]; rfl
      have hS : Solid (change P x (-n) (n)) := by rw [← hP]; exact h.solid.holds x n
      rw [hG, hP, errV_none]
      have CC := Lib.hid (fun (W : World) (hW : PursAt W b P) => change_c b P x (-n) (n) W hW h0 h1 hn (by have := ha.1; have := ha.2; omega) (by have := ha.1; have := ha.2; omega))
      have HSO := Lib.hid hS
      obtain ⟨⟨f, g⟩, hu⟩ := hu
      have hv : encP ((look P x).getD (0, 0)) = .agg #[.int .i64 f, .int .i64 g] := by rw [show (look P x).getD (0, 0) = purse P x from rfl, hu]; rfl
      rw [hu] at ho
      have g1 : decide (f < n) = false := decide_eq_false ho
      clear h hs ha ho hm hG hP hc hd hone hu h0 h1 hS
      go_enter Tryd.func12, Tryd.ntmps12
      go_wp2_with (first
        | (go_at_call 21; refine ck.mono ?_; rintro e w ⟨rfl, rfl⟩)
        | (at_lookup; refine wpList_lookI _ rfl _ _ 44 rfl 3 29 Tryd.underlying3 Tryd.underlying44 encP (0, 0) (Tryd.zeroP _) b P rfl H.out.map x rfl hk _ hv ?_)
        | (go_at_call 22; refine (CC.out _ H.out.map).mono ?_; rintro e w2 ⟨rfl, m2, k2⟩))
      go_ret
      exact ⟨rfl, H.out.step k2 m2 HSO.out, k2⟩
  · rw [if_neg ha, errV_one] at ck
    have hG : takeErr P x n = 1 := by unfold takeErr; rw [if_pos ha]
    have hP : holds P x n = P := by unfold holds; rw [hG]; rfl
    rw [hG, hP]
    clear h hs ha hG hP
    go_enter Tryd.func12, Tryd.ntmps12
    go_wp2_with (go_at_call 21; refine ck.mono ?_; rintro e w ⟨rfl, rfl⟩)
    go_ret
    exact ⟨rfl, H.out, Chg.refl _ _ _⟩

set_option maxRecDepth 100000 in
/-- Book.Pay. -/
theorem pay_c (s : Nat → Addr) (q b : Nat) (P : Pur) (x y n : Int) (w : World) (hs : Sent s w) (h : BookAt w q b P) (h0 : -9223372036854775808 ≤ x) (h1 : x ≤ 9223372036854775807) (y0 : -9223372036854775808 ≤ y) (y1 : y ≤ 9223372036854775807) (hn : P.length + 1 < 1000000) :
    Calls Tryd.prog 13 #[.pointer (some ⟨q, 0, none⟩), .int .i64 x, .int .i64 y, .int .i64 n] w fun e w' => e = .returned (errV s (payErr P x n)) ∧ BookAt w' q b (paid P x y n) ∧ Chg b b w w' := by
  have ck := check_c s q b P n w hs h
  have c0 := cell_of_heap h.box 0
  have H := Lib.hid h
  have hk := wfI h0 h1
  have e12 := hs.cell 12 (by omega)
  simp only [gnum, List.getD_cons_zero, List.getD_cons_succ] at e12
  have hu : ∃ u, purse P x = u := ⟨_, rfl⟩
  have hF0 := fieldP0; have hF1 := fieldP1
  by_cases ha : amount n
  · rw [if_pos ha, errV_none] at ck
    have hc := h.solid.free x; have hd := h.solid.held x; have hone := h.solid.one x; have hm := h.solid.most
    have w1 : wrap64 (-n) = -n := by unfold wrap64; have := ha.1; have := ha.2; omega
    by_cases ho : (purse P x).2 < n
    · have hG : payErr P x n = 13 := by unfold payErr; rw [if_neg (by simpa using ha), if_pos ho]
      have hP : paid P x y n = P := by unfold paid; rw [hG]; rfl
      rw [hG, hP]
      obtain ⟨⟨f, g⟩, hu⟩ := hu
      have hv : encP ((look P x).getD (0, 0)) = .agg #[.int .i64 f, .int .i64 g] := by rw [show (look P x).getD (0, 0) = purse P x from rfl, hu]; rfl
      rw [hu] at ho
      have g1 : decide (g < n) = true := decide_eq_true ho
      clear h hs ha ho hm hG hP hc hd hone hu h0 h1 y0 y1
      go_enter Tryd.func13, Tryd.ntmps13
      go_wp2_with (first
        | (go_at_call 21; refine ck.mono ?_; rintro e w ⟨rfl, rfl⟩)
        | (at_lookup; refine wpList_lookI _ rfl _ _ 44 rfl 3 29 Tryd.underlying3 Tryd.underlying44 encP (0, 0) (Tryd.zeroP _) b P rfl H.out.map x rfl hk _ hv ?_))
      go_ret
      exact ⟨rfl, H.out, Chg.refl _ _ _⟩
    · have hG : payErr P x n = 0 := by unfold payErr; rw [if_neg (by simpa using ha), if_neg ho]
      have hP : paid P x y n = change (change P x 0 (-n)) y n 0 := by unfold paid; rw [hG]; rfl
      have hS1 : Solid (change P x 0 (-n)) := h.solid.pay1 hG
      have hS : Solid (change (change P x 0 (-n)) y n 0) := by rw [← hP]; exact h.solid.paid x y n
      rw [hG, hP, errV_none]
      have CC := Lib.hid (fun (W : World) (hW : PursAt W b P) => change_c b P x 0 (-n) W hW h0 h1 (by omega) (by have := ha.1; have := ha.2; omega) (by have := ha.1; have := ha.2; omega))
      have hl := change_len P x 0 (-n)
      have hc2 := hS1.free y; have hd2 := hS1.held y; have hone2 := hS1.one y; have hm2 := hS1.most
      have CD := Lib.hid (fun (W : World) (hW : PursAt W b (change P x 0 (-n))) => change_c b (change P x 0 (-n)) y n 0 W hW y0 y1 (by omega) (by have := ha.1; have := ha.2; omega) (by have := ha.1; have := ha.2; omega))
      have HSO := Lib.hid hS; have HS1 := Lib.hid hS1
      obtain ⟨⟨f, g⟩, hu⟩ := hu
      have hv : encP ((look P x).getD (0, 0)) = .agg #[.int .i64 f, .int .i64 g] := by rw [show (look P x).getD (0, 0) = purse P x from rfl, hu]; rfl
      rw [hu] at ho
      have g1 : decide (g < n) = false := decide_eq_false ho
      have tok : True := trivial
      clear h hs ha ho hm hG hP hc hd hone hu h0 h1 hS hS1 hc2 hd2 hone2 hm2 hl y0 y1
      go_enter Tryd.func13, Tryd.ntmps13
      go_wp2_with (first
        | (go_at_call 21; refine ck.mono ?_; rintro e w ⟨rfl, rfl⟩)
        | (at_lookup; refine wpList_lookI _ rfl _ _ 44 rfl 3 29 Tryd.underlying3 Tryd.underlying44 encP (0, 0) (Tryd.zeroP _) b P rfl H.out.map x rfl hk _ hv ?_)
        | (go_at_call 22; have _t := tok; refine (CC.out _ H.out.map).mono ?_; rintro e w2 ⟨rfl, m2, k2⟩; have c2 := cell_of_heap (H.out.step k2 m2 HS1.out).box 0; clear tok)
        | (go_at_call 22; refine (CD.out _ m2).mono ?_; rintro e w3 ⟨rfl, m3, k3⟩))
      go_ret
      exact ⟨rfl, (H.out.step k2 m2 HS1.out).step k3 m3 HSO.out, k2.trans k3 (.inl rfl)⟩
  · rw [if_neg ha, errV_one] at ck
    have hG : payErr P x n = 1 := by unfold payErr; rw [if_pos ha]
    have hP : paid P x y n = P := by unfold paid; rw [hG]; rfl
    rw [hG, hP]
    clear h hs ha hG hP
    go_enter Tryd.func13, Tryd.ntmps13
    go_wp2_with (go_at_call 21; refine ck.mono ?_; rintro e w ⟨rfl, rfl⟩)
    go_ret
    exact ⟨rfl, H.out, Chg.refl _ _ _⟩
/-- Book.Unhold. -/
theorem unhold_c (s : Nat → Addr) (q b : Nat) (P : Pur) (x n : Int) (w : World) (hs : Sent s w) (h : BookAt w q b P) (h0 : -9223372036854775808 ≤ x) (h1 : x ≤ 9223372036854775807) (hn : P.length + 1 < 1000000) :
    Calls Tryd.prog 14 #[.pointer (some ⟨q, 0, none⟩), .int .i64 x, .int .i64 n] w fun e w' => e = .returned (errV s (payErr P x n)) ∧ BookAt w' q b (paid P x x n) ∧ Chg b b w w' := by
  have cp := pay_c s q b P x x n w hs h h0 h1 h0 h1 hn
  obtain ⟨k, hk⟩ : ∃ k, payErr P x n = k := ⟨_, rfl⟩
  obtain ⟨P', hP⟩ : ∃ P', paid P x x n = P' := ⟨_, rfl⟩
  rw [hk, hP] at cp
  rw [hk, hP]
  clear hs h h0 h1 hn hk hP
  go_enter Tryd.func14, Tryd.ntmps14
  go_wp2_with (go_at_call 13; refine cp.mono ?_; rintro e w1 ⟨rfl, m1, k1⟩)
  go_ret
  exact ⟨rfl, m1, k1⟩
/-- Book.Total. -/
theorem total_c (q b : Nat) (P : Pur) (w : World) (h : BookAt w q b P) :
    Calls Tryd.prog 9 #[.pointer (some ⟨q, 0, none⟩)] w fun e w' => e = .returned (.int .i64 (wealth P)) ∧ Below w.heap.size w w' := by
  have ck := pknown_c q b w h.box
  have ct := ptotal_c b P w h.map h.solid
  obtain ⟨T, hT⟩ : ∃ T, wealth P = T := ⟨_, rfl⟩
  rw [hT] at ct
  rw [hT]
  clear h hT
  go_enter Tryd.func9, Tryd.ntmps9
  go_wp2_with (first
    | (go_at_call 17; refine ck.mono ?_; rintro e w ⟨rfl, rfl⟩)
    | (go_at_call 18; refine ct.mono ?_; rintro e w1 ⟨rfl, b1⟩))
  go_ret
  exact ⟨rfl, b1⟩
set_option maxRecDepth 100000 in
/-- Book.Owners. -/
theorem owners_c (q b : Nat) (P : Pur) (w : World) (h : BookAt w q b P) (hn : P.length ≤ 1000000) :
    Calls Tryd.prog 10 #[.pointer (some ⟨q, 0, none⟩)] w fun e w' => ∃ v, e = .returned v ∧ IOwn w' w.heap.size v (keysUp P) ∧ Below w.heap.size w w' := by
  have ck := pknown_c q b w h.box
  have ckk := keysP_c (some b) w
  have cs := sortedP_c b P w h.map hn
  clear h
  go_enter Tryd.func10, Tryd.ntmps10
  go_wp2_with (first
    | (go_at_call 17; refine ck.mono ?_; rintro e w ⟨rfl, rfl⟩)
    | (go_at_call 20; refine ckk.mono ?_; rintro e w' ⟨rfl, rfl⟩)
    | (go_at_call 19; refine cs.mono ?_; rintro e w' ⟨v, rfl, ho, hb⟩))
  go_ret
  exact ⟨v, rfl, ho, hb⟩
end Go.Proofs.YtgioinjcgeepoaaDoor
