/- The reference's park of stage 15: Add. Conditions: the park is one that the calls have made. -/
import Derived.Test.YtaenpajmgenjhaaDoorPkT
import Derived.Test.YtaenpajmgenjhaaDoorRefAdd
namespace Go.Proofs.YtaenpajmgenjhaaDoor
open Go Go.RowKit

/-- A machine among those that there are, by its number. -/
def insP (P : List Mc) (m : Mc) : List Mc := (P.filter fun x => decide (x.id < m.id)) ++ m :: P.filter fun x => decide (m.id < x.id)
/-- A machine comes. -/
def addP (P : List Mc) (id cell : Int) (has : V4) : List Mc × Nat :=
  if id < 1 ∨ 999 < id ∨ cell < 1 ∨ 4 < cell ∨ goodV has = false then (P, 1)
  else if (atP P id).isSome then (P, 6)
  else if 24 ≤ P.length then (P, 7)
  else if (addR (liveP P cell true) has).2 ≠ 0 then (P, 4)
  else (insP P ⟨id, cell, has, 0⟩, 0)
theorem insP_perm {P : List Mc} {m : Mc} (hn : ∀ x ∈ P, x.id ≠ m.id) : (insP P m).Perm (m :: P) := by
  unfold insP
  refine List.perm_middle.trans (List.Perm.cons m ?_)
  have h := List.filter_append_perm (fun x : Mc => decide (x.id < m.id)) P
  have e : (P.filter fun x => !decide (x.id < m.id)) = P.filter fun x => decide (m.id < x.id) := List.filter_congr fun x hx => by
    have := hn x hx
    by_cases h1 : x.id < m.id
    · rw [decide_eq_true h1, decide_eq_false (by omega)]; rfl
    · rw [decide_eq_false h1, decide_eq_true (by omega)]; rfl
  rw [e] at h
  exact h
theorem insP_ord {P : List Mc} (h : P.Pairwise fun x y => x.id < y.id) {m : Mc} : (insP P m).Pairwise fun x y => x.id < y.id := by
  unfold insP
  refine List.pairwise_append.2 ⟨h.sublist List.filter_sublist, List.pairwise_cons.2 ⟨fun y hy => ?_, h.sublist List.filter_sublist⟩, fun x hx y hy => ?_⟩
  · simpa using (List.mem_filter.1 hy).2
  · have h1 : x.id < m.id := by simpa using (List.mem_filter.1 hx).2
    rcases List.mem_cons.1 hy with rfl | hy
    · exact h1
    · have h2 : m.id < y.id := by simpa using (List.mem_filter.1 hy).2
      omega
theorem GP.ins {P : List Mc} (h : GP P) {m : Mc} (hn : ∀ x ∈ P, x.id ≠ m.id) (h1 : 1 ≤ m.id ∧ m.id ≤ 999) (h2 : 1 ≤ m.cell ∧ m.cell ≤ 4) (h3 : goodV m.has = true) (h4 : 0 ≤ m.st ∧ m.st ≤ 2) (hl : P.length < 24) : GP (insP P m) := by
  have hp := insP_perm hn
  have hm : ∀ x ∈ insP P m, x = m ∨ x ∈ P := fun x hx => List.mem_cons.1 (hp.mem_iff.1 hx)
  refine ⟨insP_ord h.ord, ?_, ?_, ?_, ?_, by rw [hp.length_eq, List.length_cons]; omega⟩
  all_goals
    intro x hx
    rcases hm x hx with rfl | hx
    · assumption
    · first | exact h.ids x hx | exact h.cells x hx | exact h.good x hx | exact h.st x hx
theorem at_ins {P : List Mc} (h : P.Pairwise fun x y => x.id < y.id) {m : Mc} (hn : ∀ x ∈ P, x.id ≠ m.id) (i : Int) : atP (insP P m) i = if i = m.id then some m else atP P i := by
  have hp := insP_perm hn
  by_cases hi : i = m.id
  · rw [if_pos hi]
    exact (at_some (insP_ord h)).2 ⟨hp.mem_iff.2 (List.mem_cons_self ..), hi.symm⟩
  · rw [if_neg hi]
    cases ha : atP P i with
    | none =>
      refine at_none.2 fun x hx => ?_
      rcases List.mem_cons.1 (hp.mem_iff.1 hx) with rfl | hx
      · exact fun e => hi e.symm
      · exact at_none.1 ha x hx
    | some x =>
      obtain ⟨h1, h2⟩ := (at_some h).1 ha
      exact (at_some (insP_ord h)).2 ⟨hp.mem_iff.2 (List.mem_cons_of_mem _ h1), h2⟩
theorem GP.add {P : List Mc} (h : GP P) (id cell : Int) (has : V4) : GP (addP P id cell has).1 := by
  unfold addP
  split
  · exact h
  · split
    · exact h
    · split
      · exact h
      · split
        · exact h
        · rename_i h1 h2 h3 _
          refine h.ins (fun x hx e => ?_) (by simp only; omega) (by simp only; omega) (by cases hg : goodV has; exact absurd (.inr (.inr (.inr (.inr hg)))) h1; rfl) ⟨Int.le_refl _, (by decide : (0 : Int) ≤ 2)⟩ (by omega)
          have : atP P id = none := by cases ha : atP P id; rfl; rw [ha] at h2; exact absurd rfl h2
          exact at_none.1 this x hx e

set_option maxRecDepth 100000 in
set_option maxHeartbeats 3200000 in
theorem rpadd_no (u : Nat) (P : List Mc) (id cell : Int) (has : V4) (w : World) (h : PkR w u P) (hb : id < 1 ∨ 999 < id ∨ cell < 1 ∨ 4 < cell ∨ goodV has = false) :
    Calls Tryd.prog 14 #[.pointer (some ⟨u, 0, none⟩), .int .i64 id, .int .i64 cell, .agg #[.int .i64 has.a, .int .i64 has.b, .int .i64 has.c, .int .i64 has.d]] w fun e w' => e = .returned (.int .i64 1) ∧ PkR w' u P ∧ Below w.heap.size w w' := by
  have H := Lib.hid h
  clear h
  obtain ⟨W1, hW1⟩ : ∃ W1, w.alloc (.cells #[.int .i64 has.a, .int .i64 has.b, .int .i64 has.c, .int .i64 has.d] 28) = W1 := ⟨_, rfl⟩
  obtain ⟨g, hg⟩ : ∃ g, w.heap.size = g := ⟨_, rfl⟩
  have hb1 : Below w.heap.size w W1 := by rw [← hW1]; exact (Below.refl _ _).alloc (Nat.le_refl _) _
  have HB1 := Lib.hid hb1
  have HV1 : Hid (Vk W1 g has) := Lib.hid (by rw [← hW1, ← hg]; exact heap_alloc_new w _)
  have E1 := Lib.hid hW1
  have E2 := Lib.hid hg
  have HGC := Lib.hid (rgood_c has W1)
  clear hW1 hg hb1
  go_enter Tryd.func14, Tryd.ntmps14
  go_upto_region 1 with fail
  rw [E1.out, E2.out]
  obtain ⟨v0, v1, v2, v3, vl, vf⟩ := HV1.out.cells
  by_cases h1 : id < 1
  · have d1 : decide (id < 1) = true := decide_eq_true h1
    clear hb h1
    go_wp2_with fail
    go_ret
    exact ⟨rfl, H.out.on HB1.out, HB1.out⟩
  · have d1 : decide (id < 1) = false := decide_eq_false h1
    by_cases h2 : 999 < id
    · have d2 : decide ((999 : Int) < id) = true := decide_eq_true h2
      clear hb h1 h2
      go_wp2_with fail
      go_ret
      exact ⟨rfl, H.out.on HB1.out, HB1.out⟩
    · have d2 : decide ((999 : Int) < id) = false := decide_eq_false h2
      by_cases h3 : cell < 1
      · have d3 : decide (cell < 1) = true := decide_eq_true h3
        clear hb h1 h2 h3
        go_wp2_with fail
        go_ret
        exact ⟨rfl, H.out.on HB1.out, HB1.out⟩
      · have d3 : decide (cell < 1) = false := decide_eq_false h3
        by_cases h4 : 4 < cell
        · have d4 : decide ((4 : Int) < cell) = true := decide_eq_true h4
          clear hb h1 h2 h3 h4
          go_wp2_with fail
          go_ret
          exact ⟨rfl, H.out.on HB1.out, HB1.out⟩
        · have d4 : decide ((4 : Int) < cell) = false := decide_eq_false h4
          have h5 : goodV has = false := by
            rcases hb with k | k | k | k | k
            · omega
            · omega
            · omega
            · omega
            · exact k
          rw [h5] at HGC
          clear hb h1 h2 h3 h4 h5
          go_wp2_with fail
          refine HGC.out.mono ?_
          rintro e w2 ⟨rfl, b2⟩
          have HB2 : Hid (Below w.heap.size w w2) := Lib.hid (HB1.out.trans (b2.mono HB1.out.size))
          clear b2
          go_wp2_with fail
          go_ret
          exact ⟨rfl, H.out.on HB2.out, HB2.out⟩

theorem PkR.drew {w : World} {u : Nat} {P : List Mc} (h : PkR w u P) : PkR w.drew u P := h
/-- The store of a machine that comes. -/
theorem PkR.put {w : World} {u : Nat} {P : List Mc} (h : PkR w u P) (hG : GP P) {i : Nat} (hi : i < 1000) (cell : Int) (has : V4) (hn : ∀ x ∈ P, x.id ≠ (i : Int)) :
    PkR ((((((w.setCell ⟨u, i * 6, none⟩ (.int .i64 cell)).setCell ⟨u, i * 6 + 1, none⟩ (.int .i64 has.a)).setCell ⟨u, i * 6 + 2, none⟩ (.int .i64 has.b)).setCell ⟨u, i * 6 + 3, none⟩ (.int .i64 has.c)).setCell ⟨u, i * 6 + 4, none⟩ (.int .i64 has.d)).setCell ⟨u, i * 6 + 5, none⟩ (.int .i64 0)) u (insP P ⟨i, cell, has, 0⟩) := by
  have s0 := h.c.set hi (r := 0) (by omega) (.int .i64 cell)
  have s1 := s0.set hi (r := 1) (by omega) (.int .i64 has.a)
  have s2 := s1.set hi (r := 2) (by omega) (.int .i64 has.b)
  have s3 := s2.set hi (r := 3) (by omega) (.int .i64 has.c)
  have s4 := s3.set hi (r := 4) (by omega) (.int .i64 has.d)
  have s5 := s4.set hi (r := 5) (by omega) (.int .i64 0)
  simp only [Nat.add_zero] at s5
  refine s5.r fun j hj q hq => ?_
  have hsl : slotP (insP P ⟨i, cell, has, 0⟩) (j : Int) = if j = i then ⟨i, cell, has, 0⟩ else slotP P (j : Int) := by
    unfold slotP
    rw [at_ins hG.ord (m := ⟨i, cell, has, 0⟩) hn]
    by_cases hji : j = i
    · subst hji
      simp
    · rw [if_neg hji, if_neg (by simp only; omega)]
  rw [hsl]
  by_cases hji : j = i
  · subst hji
    rw [if_pos rfl]
    match q, hq with
    | 0, _ | 1, _ | 2, _ | 3, _ | 4, _ | 5, _ => simp [fM]
  · rw [if_neg hji]
    simp [hji]

theorem Chg.put6 {u : Nat} {w w' : World} (h : Chg u u w w') (k : Nat) (a b c d e f : Value) :
    Chg u u w ((((((w'.setCell ⟨u, k, none⟩ a).setCell ⟨u, k + 1, none⟩ b).setCell ⟨u, k + 2, none⟩ c).setCell ⟨u, k + 3, none⟩ d).setCell ⟨u, k + 4, none⟩ e).setCell ⟨u, k + 5, none⟩ f).drew := by
  have h1 := h.setCell (ad := ⟨u, k, none⟩) (.inl rfl) a
  have h2 := h1.setCell (ad := ⟨u, k + 1, none⟩) (.inl rfl) b
  have h3 := h2.setCell (ad := ⟨u, k + 2, none⟩) (.inl rfl) c
  have h4 := h3.setCell (ad := ⟨u, k + 3, none⟩) (.inl rfl) d
  have h5 := h4.setCell (ad := ⟨u, k + 4, none⟩) (.inl rfl) e
  have h6 := h5.setCell (ad := ⟨u, k + 5, none⟩) (.inl rfl) f
  exact h6.drew

set_option maxRecDepth 100000 in
set_option maxHeartbeats 1600000 in
/-- Add, whatever comes. -/
theorem rpadd_c (u : Nat) (P : List Mc) (id cell : Int) (has : V4) (w : World) (h : PkR w u P) (hG : GP P) :
    Calls Tryd.prog 14 #[.pointer (some ⟨u, 0, none⟩), .int .i64 id, .int .i64 cell, .agg #[.int .i64 has.a, .int .i64 has.b, .int .i64 has.c, .int .i64 has.d]] w fun e w' => e = .returned (.int .i64 ((addP P id cell has).2 : Nat)) ∧ PkR w' u (addP P id cell has).1 ∧ Chg u u w w' := by
  by_cases hb : id < 1 ∨ 999 < id ∨ cell < 1 ∨ 4 < cell ∨ goodV has = false
  · have ha : addP P id cell has = (P, 1) := by unfold addP; rw [if_pos hb]
    rw [ha]
    exact (rpadd_no u P id cell has w h hb).mono fun _ _ ⟨e, k, b⟩ => ⟨e, k, Chg.of_below b⟩
  · have ha : addP P id cell has = if (atP P id).isSome then (P, 6) else if 24 ≤ P.length then (P, 7) else if (addR (liveP P cell true) has).2 ≠ 0 then (P, 4) else (insP P ⟨id, cell, has, 0⟩, 0) := by unfold addP; rw [if_neg hb]
    have hgd : goodV has = true := by cases hg : goodV has; exact absurd (.inr (.inr (.inr (.inr hg)))) hb; rfl
    have d1 : decide (id < 1) = false := decide_eq_false (by omega)
    have d2 : decide ((999 : Int) < id) = false := decide_eq_false (by omega)
    have d3 : decide (cell < 1) = false := decide_eq_false (by omega)
    have d4 : decide ((4 : Int) < cell) = false := decide_eq_false (by omega)
    obtain ⟨i, hi⟩ : ∃ i : Nat, id = (i : Int) := ⟨id.toNat, by omega⟩
    have HI2 : Hid (1 ≤ i ∧ i < 1000 ∧ id = (i : Int)) := Lib.hid (by omega)
    have H := Lib.hid h
    have HG := Lib.hid hG
    have hul := h.lt
    clear h hb hi
    obtain ⟨W1, hW1⟩ : ∃ W1, w.alloc (.cells #[.int .i64 has.a, .int .i64 has.b, .int .i64 has.c, .int .i64 has.d] 28) = W1 := ⟨_, rfl⟩
    obtain ⟨g, hg⟩ : ∃ g, w.heap.size = g := ⟨_, rfl⟩
    have hb1 : Below w.heap.size w W1 := by rw [← hW1]; exact (Below.refl _ _).alloc (Nat.le_refl _) _
    have HB1 := Lib.hid hb1
    have HV1 : Hid (Vk W1 g has) := Lib.hid (by rw [← hW1, ← hg]; exact heap_alloc_new w _)
    have E1 := Lib.hid hW1
    have E2 := Lib.hid hg
    have HUG : Hid (u < g) := Lib.hid (by omega)
    have HGC := Lib.hid (rgood_c has W1)
    rw [hgd] at HGC
    clear hW1 hg hb1 hgd hul
    go_enter Tryd.func14, Tryd.ntmps14
    go_upto_region 1 with fail
    rw [E1.out, E2.out]
    obtain ⟨v0, v1, v2, v3, vl, vf⟩ := HV1.out.cells
    go_wp2_with fail
    refine HGC.out.mono ?_
    rintro e w2 ⟨rfl, b2⟩
    have HB2 : Hid (Below w.heap.size w w2) := Lib.hid (HB1.out.trans (b2.mono HB1.out.size))
    have HV2 : Hid (Vk w2 g has) := Lib.hid ((b2.block g vl).trans HV1.out)
    clear b2 v0 v1 v2 v3 vl vf HGC HV1 HB1 d1 d2 d3 d4
    go_wp2_with fail
    refine (ris_c u P id w2 (H.out.on HB2.out) HG.out).mono ?_
    rintro e w3 ⟨rfl, rfl⟩
    cases hat : (atP P id).isSome with
    | true =>
      rw [hat, if_pos rfl] at ha
      have HA := Lib.hid ha
      clear ha hat hG
      go_wp2_with fail
      go_ret
      rw [HA.out]
      exact ⟨rfl, H.out.on HB2.out, Chg.of_below HB2.out⟩
    | false =>
      rw [hat, if_neg (by decide)] at ha
      have HAT := Lib.hid hat
      clear hat
      go_wp2_with fail
      refine (rcount_c u P w3 (H.out.on HB2.out) HG.out).mono ?_
      rintro e w4 ⟨rfl, rfl⟩
      by_cases hl : 24 ≤ P.length
      · rw [if_pos hl] at ha
        have HA := Lib.hid ha
        have d5 : (24 : Int) ≤ (P.length : Int) := by omega
        clear ha hl hG
        go_wp2_with fail
        go_ret
        rw [HA.out]
        exact ⟨rfl, H.out.on HB2.out, Chg.of_below HB2.out⟩
      · rw [if_neg hl] at ha
        have d5 : ¬ (24 : Int) ≤ (P.length : Int) := by omega
        have HLN : Hid (P.length < 24) := Lib.hid (by omega)
        have HA := Lib.hid ha
        clear hl hG ha
        go_upto_region 7 with fail
        clear d5
        have HR4 := Lib.hid (Below.refl w4.heap.size w4)
        have HVS : Hid (∀ W, Below w4.heap.size w4 W → W.cell? ⟨g, 0, none⟩ = some (.int .i64 has.a) ∧ W.cell? ⟨g, 1, none⟩ = some (.int .i64 has.b) ∧ W.cell? ⟨g, 2, none⟩ = some (.int .i64 has.c) ∧ W.cell? ⟨g, 3, none⟩ = some (.int .i64 has.d) ∧ Below w4.heap.size w4 W) := Lib.hid fun W b => by
          obtain ⟨_, _, _, _, vl, _⟩ := HV2.out.cells
          have hk : Vk W g has := (b.block g vl).trans HV2.out
          obtain ⟨v0, v1, v2, v3, _, _⟩ := hk.cells
          exact ⟨v0, v1, v2, v3, b⟩
        obtain ⟨v0, v1, v2, v3, hb4⟩ := HVS.out w4 HR4.out
        go_cut [10] (fun v wx => v = .int .i64 ((addR (liveP P cell true) has).2 : Nat) ∧ Below w4.heap.size w4 wx)
        case first =>
         go_region_held3 (fun W => W.cell? ⟨g, 0, none⟩ = some (.int .i64 has.a) ∧ W.cell? ⟨g, 1, none⟩ = some (.int .i64 has.b) ∧ W.cell? ⟨g, 2, none⟩ = some (.int .i64 has.c) ∧ W.cell? ⟨g, 3, none⟩ = some (.int .i64 has.d) ∧ Below w4.heap.size w4 W)
          (exact HVS.out _ (by (repeat' (first | (with_reducible exact Below.refl _ _) | (with_reducible refine below_drewN ?_ _) | (with_reducible refine Below.drew ?_) | (with_reducible refine Below.alloc ?_ ?_ _) | (with_reducible refine Below.setCell ?_ ?_ _) | (with_reducible refine Below.trans ?_ (Below.mono (by with_reducible assumption) ?_)) | omega | (simp only [World.size_drew] at *; omega) | (with_reducible refine Below.size (B := 0) ?_)))))
          (first
            | (go_at_call 18; refine (rlive_c u P cell true _ ((H.out.on HB2.out).on (by (repeat' (first | (with_reducible exact Below.refl _ _) | (with_reducible refine below_drewN ?_ _) | (with_reducible refine Below.drew ?_) | (with_reducible refine Below.alloc ?_ ?_ _) | (with_reducible refine Below.setCell ?_ ?_ _) | (with_reducible refine Below.trans ?_ (Below.mono (by with_reducible assumption) ?_)) | omega | (simp only [World.size_drew] at *; omega) | (with_reducible refine Below.size (B := 0) ?_))))) HG.out).mono ?_; rintro e wa ⟨rfl, ba⟩; (first | (have hz : Vk wa w4.heap.size ⟨0, 0, 0, 0⟩ := (ba.block w4.heap.size (by simp)).trans (heap_alloc_new w4 _); have HZ := Lib.hid hz; have HLZ : Hid (w4.heap.size < wa.heap.size) := Lib.hid (by have := ba.size; simp at this; omega); clear hz) | skip))
            | (go_at_call 29; refine (radd_c (liveP P cell true) has _).mono ?_; rintro e wb ⟨rfl, bb⟩; (first | (have hz : Vk wb w4.heap.size ⟨0, 0, 0, 0⟩ := (bb.block w4.heap.size HLZ.out).trans HZ.out; obtain ⟨z0, z1, z2, z3, zl, zf⟩ := hz.cells; clear hz) | (have hz : Vk wb wa.heap.size ⟨0, 0, 0, 0⟩ := (bb.block wa.heap.size (by simp)).trans (heap_alloc_new wa _); obtain ⟨z0, z1, z2, z3, zl, zf⟩ := hz.cells; clear hz) | skip)))
         all_goals go_wp2_with fail
         all_goals go_meet
         all_goals exact ⟨rfl, by (repeat' (first | (with_reducible exact Below.refl _ _) | (with_reducible refine below_drewN ?_ _) | (with_reducible refine Below.drew ?_) | (with_reducible refine Below.alloc ?_ ?_ _) | (with_reducible refine Below.setCell ?_ ?_ _) | (with_reducible refine Below.trans ?_ (Below.mono (by with_reducible assumption) ?_)) | omega | (simp only [World.size_drew] at *; omega) | (with_reducible refine Below.size (B := 0) ?_)))⟩
        case rest =>
          clear v0 v1 v2 v3 hb4
          obtain ⟨rfl, hb5⟩ := hcut
          have HR5 : Hid (PkR wc u P) := Lib.hid ((H.out.on HB2.out).on hb5)
          have HB5 : Hid (Below w.heap.size w wc) := Lib.hid (HB2.out.trans (hb5.mono HB2.out.size))
          have HV5 : Hid (Vk wc g has) := Lib.hid (by obtain ⟨_, _, _, _, vl, _⟩ := HV2.out.cells; exact (hb5.block g vl).trans HV2.out)
          clear hb5
          obtain ⟨m, hm⟩ : ∃ m, (addR (liveP P cell true) has).2 = m := ⟨_, rfl⟩
          rw [hm] at HA ⊢
          clear hm
          by_cases h0 : m = 0
          · subst h0
            rw [if_neg (by simp)] at HA
            go_upto_region 10 with fail
            obtain ⟨hi1, hi2, rfl⟩ := HI2.out
            have hi0 : (0 : Int) ≤ (i : Int) := by omega
            have hi3 : (i : Int) < 1000 := by omega
            obtain ⟨c0, c1, c2, c3, c4, c5, cl, cf⟩ := HR5.out.cells hi2
            obtain ⟨v0, v1, v2, v3, vl, vf⟩ := HV5.out.cells
            have HNO : Hid (∀ x ∈ P, x.id ≠ (i : Int)) := Lib.hid (by have h := HAT.out; exact at_none.1 (by cases ha : atP P (i : Int) with | none => rfl | some y => rw [ha] at h; cases h))
            go_still_tail 7, (by kernel_rfl)
            change wpList _ _ _ _ _ wc.drew
            go_wp2_with fail
            go_ret
            rw [HA.out]
            exact ⟨rfl, (HR5.out.put HG.out hi2 cell has HNO.out).drew, (Chg.of_below HB5.out).put6 (i * 6) _ _ _ _ _ _⟩
          · rw [if_pos h0] at HA
            have d6 : ((m : Int) != 0) = true := by simpa using h0
            clear h0
            go_wp2_with fail
            go_ret
            rw [HA.out]
            exact ⟨rfl, HR5.out, Chg.of_below HB5.out⟩
end Go.Proofs.YtaenpajmgenjhaaDoor
