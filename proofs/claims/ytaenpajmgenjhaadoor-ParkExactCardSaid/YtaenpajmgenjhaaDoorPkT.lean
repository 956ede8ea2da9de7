/- The reference's park of stage 15: Drop, Set. Conditions: the park is one that the calls have made. -/
import Derived.Test.YtaenpajmgenjhaaDoorPkS
namespace Go.Proofs.YtaenpajmgenjhaaDoor
open Go Go.RowKit

/-- A machine goes. -/
def dropP (P : List Mc) (id : Int) : List Mc × Nat := if (atP P id).isSome then (P.filter fun m => !(m.id == id), 0) else (P, 5)
/-- A machine's state is set. -/
def setP (P : List Mc) (id st : Int) : List Mc × Nat :=
  match atP P id with
  | none => (P, 5)
  | some m => if st < 0 ∨ 2 < st then (P, 1) else if m.st = st then (P, 13) else (P.map fun x => if x.id = id then { x with st := st } else x, 0)
theorem at_drop (P : List Mc) (id i : Int) : atP (P.filter fun m => !(m.id == id)) i = if i = id then none else atP P i := by
  unfold atP
  rw [List.find?_filter]
  by_cases h : i = id
  · subst h
    rw [if_pos rfl, List.find?_eq_none]
    intro m _
    simp
  · rw [if_neg h]
    congr 1
    funext m
    by_cases hm : m.id = i
    · simp [hm, h]
    · have : (m.id == i) = false := by simpa using hm
      simp [this]
theorem at_set (P : List Mc) (id st i : Int) : atP (P.map fun x => if x.id = id then { x with st := st } else x) i = (atP P i).map fun x => if x.id = id then { x with st := st } else x := by
  unfold atP
  rw [List.find?_map]
  congr 1
  congr 1
  funext m
  simp only [Function.comp_apply]
  split <;> rfl
theorem GP.drop {P : List Mc} (h : GP P) (id : Int) : GP (dropP P id).1 := by
  unfold dropP
  split
  · have hs : (P.filter fun m => !(m.id == id)).Sublist P := List.filter_sublist
    exact ⟨h.ord.sublist hs, fun m hm => h.ids m (hs.subset hm), fun m hm => h.cells m (hs.subset hm), fun m hm => h.good m (hs.subset hm), fun m hm => h.st m (hs.subset hm), Nat.le_trans hs.length_le h.len⟩
  · exact h
theorem GP.set {P : List Mc} (h : GP P) (id st : Int) : GP (setP P id st).1 := by
  unfold setP
  split
  · exact h
  · split
    · exact h
    · split
      · exact h
      · rename_i hst _
        refine ⟨?_, ?_, ?_, ?_, ?_, by rw [List.length_map]; exact h.len⟩
        · rw [List.pairwise_map]
          exact h.ord.imp fun {x y} e => by split <;> split <;> exact e
        all_goals
          intro m hm
          obtain ⟨x, hx, rfl⟩ := List.mem_map.1 hm
          have h1 := h.ids x hx; have h2 := h.cells x hx; have h3 := h.good x hx; have h4 := h.st x hx
          split
          · first | exact h1 | exact h2 | exact h3 | (simp only; omega)
          · first | exact h1 | exact h2 | exact h3 | exact h4

def fM (m : Mc) : Nat → Value
  | 0 => .int .i64 m.cell
  | 1 => .int .i64 m.has.a
  | 2 => .int .i64 m.has.b
  | 3 => .int .i64 m.has.c
  | 4 => .int .i64 m.has.d
  | _ => .int .i64 m.st
/-- Cell by cell. -/
def PkC (w : World) (u : Nat) (f : Nat → Nat → Value) : Prop :=
  ∃ cs, w.heap[u]? = some (.cells cs 32 (0, 0)) ∧ cs.size = 6000 ∧ ∀ i, i < 1000 → ∀ r, r < 6 → cs[i * 6 + r]? = some (f i r)
theorem encM_get (m : Mc) (r : Nat) (hr : r < 6) : (encM m)[r]? = some (fM m r) := by
  match r, hr with
  | 0, _ | 1, _ | 2, _ | 3, _ | 4, _ | 5, _ => rfl
theorem PkR.c {w : World} {u : Nat} {P : List Mc} (h : PkR w u P) : PkC w u fun i => fM (slotP P (i : Int)) := by
  obtain ⟨cs, h1, h2, h3⟩ := h
  exact ⟨cs, h1, h2, fun i hi r hr => h3 i hi r _ (encM_get _ r hr)⟩
theorem PkC.r {w : World} {u : Nat} {P : List Mc} {f : Nat → Nat → Value} (h : PkC w u f) (hf : ∀ i, i < 1000 → ∀ r, r < 6 → f i r = fM (slotP P (i : Int)) r) : PkR w u P := by
  obtain ⟨cs, h1, h2, h3⟩ := h
  refine ⟨cs, h1, h2, fun i hi r v hv => ?_⟩
  have hr : r < 6 := by have := (List.getElem?_eq_some_iff.1 hv).1; exact this
  rw [encM_get _ r hr] at hv
  rw [h3 i hi r hr, hf i hi r hr]
  exact hv
theorem PkC.set {w : World} {u : Nat} {f : Nat → Nat → Value} (h : PkC w u f) {i r : Nat} (hi : i < 1000) (hr : r < 6) (v : Value) : PkC (w.setCell ⟨u, i * 6 + r, none⟩ v) u fun j q => if j = i ∧ q = r then v else f j q := by
  obtain ⟨cs, h1, h2, h3⟩ := h
  refine ⟨_, heap_setCell_same w u (i * 6 + r) _ _ v h1, by simpa using h2, fun j hj q hq => ?_⟩
  simp only [Array.getElem?_setIfInBounds]
  by_cases he : i * 6 + r = j * 6 + q
  · have : j = i ∧ q = r := by omega
    rw [if_pos he, if_pos this, if_pos (by omega)]
  · have : ¬ (j = i ∧ q = r) := by omega
    rw [if_neg he, if_neg this]
    exact h3 j hj q hq

theorem slot_drop (P : List Mc) (id i : Int) : slotP (P.filter fun m => !(m.id == id)) i = if i = id then ⟨i, 0, ⟨0, 0, 0, 0⟩, 0⟩ else slotP P i := by
  unfold slotP
  rw [at_drop]
  split <;> rfl
set_option maxRecDepth 100000 in
set_option maxHeartbeats 1600000 in
theorem rdrop_c (u : Nat) (P : List Mc) (id : Int) (w : World) (h : PkR w u P) (hG : GP P) :
    Calls Tryd.prog 10 #[.pointer (some ⟨u, 0, none⟩), .int .i64 id] w fun e w' => e = .returned (.int .i64 ((dropP P id).2 : Nat)) ∧ PkR w' u (dropP P id).1 ∧ Chg u u w w' := by
  have HI := Lib.hid (ris_c u P id w h hG)
  have H := Lib.hid h
  cases ha : atP P id with
  | none =>
    have hd : dropP P id = (P, 5) := by unfold dropP; rw [ha]; rfl
    rw [hd]
    rw [ha] at HI
    clear ha hd h hG
    go_enter Tryd.func10, Tryd.ntmps10
    go_wp2_with fail
    refine HI.out.mono ?_
    rintro e w1 ⟨rfl, rfl⟩
    go_wp2_with fail
    go_ret
    exact ⟨rfl, H.out, Chg.refl _ _ _⟩
  | some m =>
    obtain ⟨hm, he⟩ := (at_some hG.ord).1 ha
    have hr := hG.ids m hm
    have hd : dropP P id = (P.filter fun m => !(m.id == id), 0) := by unfold dropP; rw [ha]; rfl
    rw [hd]
    rw [ha] at HI
    obtain ⟨i, hi⟩ : ∃ i : Nat, id = (i : Int) := ⟨id.toNat, by omega⟩
    have hi0 : (0 : Int) ≤ (i : Int) := by omega
    have hi1 : (i : Int) < 1000 := by omega
    have hi2 : i < 1000 := by omega
    subst hi
    have HC := Lib.hid h.c
    obtain ⟨c0, c1, c2, c3, c4, c5, cl, cf⟩ := h.cells hi2
    clear ha hd h hG hm he hr
    go_enter Tryd.func10, Tryd.ntmps10
    go_wp2_with fail
    refine HI.out.mono ?_
    rintro e w1 ⟨rfl, rfl⟩
    go_wp2_with fail
    go_ret
    have s0 := HC.out.set hi2 (r := 0) (by omega) (.int .i64 0)
    have s1 := s0.set hi2 (r := 1) (by omega) (.int .i64 0)
    have s2 := s1.set hi2 (r := 2) (by omega) (.int .i64 0)
    have s3 := s2.set hi2 (r := 3) (by omega) (.int .i64 0)
    have s4 := s3.set hi2 (r := 4) (by omega) (.int .i64 0)
    have s5 := s4.set hi2 (r := 5) (by omega) (.int .i64 0)
    simp only [Nat.add_zero] at s5
    refine ⟨rfl, s5.r fun j hj q hq => ?_, ?_⟩
    · rw [slot_drop]
      by_cases hji : j = i
      · subst hji
        rw [if_pos rfl]
        match q, hq with
        | 0, _ | 1, _ | 2, _ | 3, _ | 4, _ | 5, _ => simp [fM]
      · rw [if_neg (by omega : ¬ (j : Int) = (i : Int))]
        simp [hji]
    · exact (((((Chg.refl u u _).setCell (.inl rfl) _).setCell (.inl rfl) _).setCell (.inl rfl) _).setCell (.inl rfl) _).setCell (.inl rfl) _ |>.setCell (.inl rfl) _

set_option maxRecDepth 100000 in
set_option maxHeartbeats 1600000 in
theorem rset_c (u : Nat) (P : List Mc) (id st : Int) (w : World) (h : PkR w u P) (hG : GP P) :
    Calls Tryd.prog 12 #[.pointer (some ⟨u, 0, none⟩), .int .i64 id, .int .i64 st] w fun e w' => e = .returned (.int .i64 ((setP P id st).2 : Nat)) ∧ PkR w' u (setP P id st).1 ∧ Chg u u w w' := by
  have HI := Lib.hid (ris_c u P id w h hG)
  have H := Lib.hid h
  cases ha : atP P id with
  | none =>
    have hd : setP P id st = (P, 5) := by unfold setP; rw [ha]
    rw [hd]
    rw [ha] at HI
    clear ha hd h hG
    go_enter Tryd.func12, Tryd.ntmps12
    go_wp2_with fail
    refine HI.out.mono ?_
    rintro e w1 ⟨rfl, rfl⟩
    go_wp2_with fail
    go_ret
    exact ⟨rfl, H.out, Chg.refl _ _ _⟩
  | some m =>
    obtain ⟨hm, he⟩ := (at_some hG.ord).1 ha
    have hr := hG.ids m hm
    have hs : setP P id st = if st < 0 ∨ 2 < st then (P, 1) else if m.st = st then (P, 13) else (P.map fun x => if x.id = id then { x with st := st } else x, 0) := by unfold setP; rw [ha]
    have HIO := Lib.hid HI.out
    rw [ha] at HIO
    obtain ⟨i, hi⟩ : ∃ i : Nat, id = (i : Int) := ⟨id.toNat, by omega⟩
    have hi0 : (0 : Int) ≤ (i : Int) := by omega
    have hi1 : (i : Int) < 1000 := by omega
    have hi2 : i < 1000 := by omega
    subst hi
    have HC := Lib.hid h.c
    have HSL := Lib.hid (slot_some ha)
    have HA := Lib.hid ha
    obtain ⟨c0, c1, c2, c3, c4, c5, cl, cf⟩ := h.cells hi2
    rw [HSL.out] at c5
    by_cases h0 : st < 0
    · rw [if_pos (.inl h0)] at hs
      rw [hs]
      have d0 : decide (st < 0) = true := decide_eq_true h0
      clear ha h hG hm he hr hs h0 HI
      go_enter Tryd.func12, Tryd.ntmps12
      go_wp2_with fail
      refine HIO.out.mono ?_
      rintro e w1 ⟨rfl, rfl⟩
      go_wp2_with fail
      go_ret
      exact ⟨rfl, H.out, Chg.refl _ _ _⟩
    · have d0 : decide (st < 0) = false := decide_eq_false h0
      by_cases h2 : 2 < st
      · rw [if_pos (.inr h2)] at hs
        rw [hs]
        have d2 : decide ((2 : Int) < st) = true := decide_eq_true h2
        clear ha h hG hm he hr hs h0 h2 HI
        go_enter Tryd.func12, Tryd.ntmps12
        go_wp2_with fail
        refine HIO.out.mono ?_
        rintro e w1 ⟨rfl, rfl⟩
        go_wp2_with fail
        go_ret
        exact ⟨rfl, H.out, Chg.refl _ _ _⟩
      · have d2 : decide ((2 : Int) < st) = false := decide_eq_false h2
        rw [if_neg (by omega)] at hs
        by_cases h3 : m.st = st
        · rw [if_pos h3] at hs
          rw [hs]
          have d3 : (m.st == st) = true := by simpa using h3
          clear ha h hG hm he hr hs h0 h2 h3 HI
          go_enter Tryd.func12, Tryd.ntmps12
          go_wp2_with fail
          refine HIO.out.mono ?_
          rintro e w1 ⟨rfl, rfl⟩
          go_wp2_with fail
          go_ret
          exact ⟨rfl, H.out, Chg.refl _ _ _⟩
        · rw [if_neg h3] at hs
          rw [hs]
          have d3 : (m.st == st) = false := by simpa using h3
          have HE := Lib.hid he
          clear ha h hG hm he hr hs h0 h2 h3 HI
          go_enter Tryd.func12, Tryd.ntmps12
          go_wp2_with fail
          refine HIO.out.mono ?_
          rintro e w1 ⟨rfl, rfl⟩
          go_wp2_with fail
          go_ret
          refine ⟨rfl, (HC.out.set hi2 (r := 5) (by omega) (.int .i64 st)).r fun j hj q hq => ?_, (Chg.refl u u _).setCell (.inl rfl) _⟩
          have hsl : slotP (P.map fun x => if x.id = (i : Int) then { x with st := st } else x) (j : Int) = if j = i then { m with st := st } else slotP P (j : Int) := by
            unfold slotP
            rw [at_set]
            by_cases hji : j = i
            · subst hji
              rw [HA.out, if_pos rfl]
              simp [HE.out]
            · rw [if_neg hji]
              cases haj : atP P (j : Int) with
              | none => rfl
              | some y =>
                have hy : y.id = (j : Int) := by unfold atP at haj; simpa using List.find?_some haj
                simp only [Option.map_some, Option.getD_some]
                rw [if_neg (by omega)]
          rw [hsl]
          by_cases hji : j = i
          · subst hji
            rw [if_pos rfl, HSL.out]
            match q, hq with
            | 0, _ | 1, _ | 2, _ | 3, _ | 4, _ | 5, _ => simp [fM]
          · rw [if_neg hji]
            simp [hji]
end Go.Proofs.YtaenpajmgenjhaaDoor
