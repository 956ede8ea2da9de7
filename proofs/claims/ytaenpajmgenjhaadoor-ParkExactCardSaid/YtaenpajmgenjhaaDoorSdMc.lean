/- slices.Delete of one at rows of a struct, by contract. Condition: the row is one that calls have made. -/
import Derived.Test.YtaenpajmgenjhaaDoorSlMc
namespace Go.Proofs.YtaenpajmgenjhaaDoor
open Go Go.RowKit Go.Shelf Go.Sort

set_option maxRecDepth 100000 in
set_option maxHeartbeats 4000000 in
/-- slices.Delete of one, told by cells. -/
theorem delete_rawMc (g off cap len i J : Nat) (news : List Value) (w : World) (hJ : J = i + 1) (hi : i < len) (hcap : len ≤ cap) (_hm : cap ≤ 9223372036854775807) (hn : news.length = (len - J) * 7)
    (hsrc : ∀ t u, news[t]? = some u → w.cell? ⟨g, off + J * 7 + t, none⟩ = some u) (h1 : ∀ u ∈ news, u.oneCell' = true)
    (hall : ∀ t, t < len * 7 → (w.cell? ⟨g, off + t, none⟩).isSome = true ∧ w.frozen? ⟨g, off + t, none⟩ = false) :
    Calls Tryd.prog 23 #[.slice (some ⟨g, off, none⟩) len cap, .int .i64 (i : Int), .int .i64 (J : Int)] w fun e w' => e = .returned (.slice (some ⟨g, off, none⟩) (i + (len - J)) cap) ∧ ∃ n, w' = ((w.drewN n).setCells g (off + i * 7) news).setCells g (off + (i + (len - J)) * 7) (zerosK #[.int .i64 0, .int .i64 0, .int .i64 0, .int .i64 0, .int .i64 0, .int .i64 0, .int .i64 0] 1) := by
  have hlt : i < J := by omega
  have hij : i ≤ J := by omega
  have hj : J ≤ len := by omega
  have heq : ¬ i = J := by omega
  obtain ⟨A, hA, hsrc'⟩ : ∃ A : Addr, (if cap = J then some (⟨g, off, none⟩ : Addr) else some ⟨g, off + J * 7, none⟩) = some A ∧ Hid (∀ t u, news[t]? = some u → w.drew.cell? (A.add t) = some u) := by
    by_cases h : cap = J
    · refine ⟨⟨g, off, none⟩, by simp [h], fun t u hu => ?_⟩
      have h0 : news.length = 0 := by rw [hn]; have : len - J = 0 := by omega
                                      rw [this]
      rw [List.length_eq_zero_iff.1 h0] at hu
      simp at hu
    · refine ⟨⟨g, off + J * 7, none⟩, by simp [h], fun t u hu => ?_⟩
      rw [show (⟨g, off + J * 7, none⟩ : Addr).add t = ⟨g, off + J * 7 + t, none⟩ by unfold Addr.add; split <;> simp_all]
      exact hsrc t u hu
  have s1 : Hid (news.length = (len - J) * 7) := hn
  have s2 : Hid (∀ u ∈ news, u.oneCell' = true) := h1
  have s3 : Hid (∀ t, t < news.length → (w.drew.cell? ⟨g, off + i * 7 + t, none⟩).isSome = true ∧ w.drew.frozen? ⟨g, off + i * 7 + t, none⟩ = false) := by
    intro t ht
    rw [hn] at ht
    rw [Nat.add_assoc]
    exact hall (i * 7 + t) (by omega)
  obtain ⟨W1, hW1⟩ : ∃ W1, W1 = w.drew.setCells g (off + i * 7) news := ⟨_, rfl⟩
  have hsome : ∀ t, t < len * 7 → (W1.cell? ⟨g, off + t, none⟩).isSome = true ∧ W1.frozen? ⟨g, off + t, none⟩ = false := by
    intro t ht
    subst hW1
    obtain ⟨k1, k2⟩ := hall t ht
    refine ⟨?_, by rw [World.frozen?_setCells]; exact k2⟩
    by_cases hin : i * 7 ≤ t ∧ t < i * 7 + news.length
    · have := World.cell?_setCells_in g news (off + i * 7) w.drew (fun j hj => (s3 j hj).1) (t - i * 7) (by omega)
      rw [show off + i * 7 + (t - i * 7) = off + t by omega] at this
      rw [this]; rfl
    · rw [World.cell?_setCells_out g news (off + i * 7) w.drew ⟨g, off + t, none⟩ (fun _ _ => by show off + t < _ ∨ _ ≤ off + t; omega)]; exact k1
  have hcl : ∀ ty, (Builtin.clear_ #[51] ty #[.slice (some ⟨g, off + (i + (len - J)) * 7, none⟩) (len - (i + (len - J))) (cap - (i + (len - J)))]).run Tryd.prog W1 = .ok (.tuple #[]) (W1.setCells g (off + (i + (len - J)) * 7) (zerosK #[.int .i64 0, .int .i64 0, .int .i64 0, .int .i64 0, .int .i64 0, .int .i64 0, .int .i64 0] 1)) := fun ty => by
    rw [show len - (i + (len - J)) = 1 by omega]
    exact run_clear_K W1 _ 45 ty (.agg #[.int .i64 0, .int .i64 0, .int .i64 0, .int .i64 0, .int .i64 0, .int .i64 0, .int .i64 0]) Tryd.underlying51 Tryd.zeroSlMc (by decide) g _ 1 _ (fun t ht => by have ht' : t < 1 * 7 := ht; rw [Nat.add_assoc]; exact (hsome _ (by omega)).1) (fun t ht => by have ht' : t < 1 * 7 := ht; rw [Nat.add_assoc]; exact (hsome _ (by omega)).2)
  have hW : Hid (W1 = w.drew.setCells g (off + i * 7) news) := hW1
  have hic : i ≤ cap := by omega
  have hjc : J ≤ cap := by omega
  have hil : i ≤ len := by omega
  have hkc : ¬ cap = i + (len - J) := by omega
  obtain ⟨i0, hi0, hz0, hz1, hz2⟩ := info_parts Tryd.infoSlMc
  clear hW1 hsome hsrc hall h1 hn hJ
  go_enter Tryd.func23, Tryd.ntmps23
  go_wp2_with fail
  go_region_law (refine step_append_room rfl (.tmp 22) (.tmp 25) 51 rfl 45 i0 7 Tryd.underlying51 hi0 hz1 g off i cap (by simp [Act.eval, Act.put]) A (len - J) (cap - J) news (by simp [Act.eval, Act.put]) s1.out hsrc'.out s2.out (by omega) s3.out ?_; rw [← hW.out])
  go_wp2_with fail
  go_ret
  exact ⟨rfl, 1, by rw [hW.out]; rfl⟩
/-- slices.Delete of one. -/
theorem delete_Mc (base g c i J : Nat) (L : List Mc) (w : World) (h : OwnE encMc 45 w base (.slice (some ⟨g, 0, none⟩) L.length c) L) (hJ : J = i + 1) (hi : i < L.length) :
    Calls Tryd.prog 23 #[.slice (some ⟨g, 0, none⟩) L.length c, .int .i64 (i : Int), .int .i64 (J : Int)] w fun e w' => e = .returned (.slice (some ⟨g, 0, none⟩) (L.take i ++ L.drop J).length c) ∧ OwnE encMc 45 w' base (.slice (some ⟨g, 0, none⟩) (L.take i ++ L.drop J).length c) (L.take i ++ L.drop J) ∧ w.grownBy w' (some g) := by
  obtain ⟨cur, hh, hb, _, hc, hm, hsz, ht⟩ := ownE_raw h
  have hlen : (L.take i ++ L.drop J).length = i + (L.length - J) := by rw [List.length_append, List.length_take, List.length_drop]; omega
  have hnl : (cellsE encMc (L.drop J)).length = (L.length - J) * 7 := by rw [cellsE_len, List.length_drop]
  have hcell := own_cellE' h
  have hcl := cellsE_len encMc L
  have hfr : ∀ t, w.frozen? ⟨g, t, none⟩ = false := fun t => frozen_of_heap hh t
  have hsome : ∀ t, t < L.length * 7 → (w.cell? ⟨g, t, none⟩).isSome = true := fun t ht => by
    rw [hcell t ht, List.getElem?_eq_getElem (by omega)]; rfl
  refine (delete_rawMc g 0 c L.length i J (cellsE encMc (L.drop J)) w hJ hi hc (by unfold maxLen at hm; exact hm) hnl (fun t u hu => ?_) (cellsE_oneCell encMc _) (fun t ht => by rw [Nat.zero_add]; exact ⟨hsome t ht, hfr t⟩)).mono ?_
  · have htl : t < (L.length - J) * 7 := by rw [← hnl]; exact (List.getElem?_eq_some_iff.1 hu).1
    rw [← cellsE_drop, List.getElem?_drop] at hu
    rw [Nat.zero_add, hcell _ (by omega)]
    exact hu
  · rintro e w' ⟨rfl, q, rfl⟩
    rw [Nat.zero_add, Nat.zero_add, hlen]
    refine ⟨rfl, ?_, grownBy_setCells g _ _ _ _ (grownBy_setCells g _ _ _ _ ⟨rfl, rfl, rfl, Nat.le_refl _, fun _ _ _ => rfl⟩)⟩
    have hh' : (w.drewN q).heap[g]? = some (.cells cur 45 (0, 0)) := hh
    obtain ⟨c1, h1, s1⟩ := heap_setCells_row g 45 (cellsE encMc (L.drop J)) (i * 7) _ _ hh'
    obtain ⟨c2, h2, s2⟩ := heap_setCells_row g 45 (zerosK #[.int .i64 0, .int .i64 0, .int .i64 0, .int .i64 0, .int .i64 0, .int .i64 0, .int .i64 0] 1) ((i + (L.length - J)) * 7) _ _ h1
    have key := ownE_of (E := encMc) (M := L.take i ++ L.drop J) (base := base) (cap := c) h2 hb (by rw [hlen]; omega) hm (by rw [s2, s1, hsz]) (fun j u hu => ?_)
    · rw [hlen] at key; exact key
    · have hjl : j < (i + (L.length - J)) * 7 := by
        have := (List.getElem?_eq_some_iff.1 hu).1
        rwa [cellsE_len, hlen] at this
      rw [World.cell?_setCells_out g (zerosK #[.int .i64 0, .int .i64 0, .int .i64 0, .int .i64 0, .int .i64 0, .int .i64 0, .int .i64 0] 1) _ _ ⟨g, j, none⟩ (fun _ _ => .inl hjl)]
      rw [← cellsE_app, ← cellsE_take, List.getElem?_append, List.length_take, hcl] at hu
      by_cases hin : j < i * 7
      · rw [if_pos (by omega), List.getElem?_take_of_lt hin] at hu
        rw [World.cell?_setCells_out g _ _ _ ⟨g, j, none⟩ (fun _ _ => .inl hin)]
        exact (hcell j (by omega)).trans hu
      · rw [if_neg (by omega)] at hu
        have e1 : min (i * 7) (L.length * 7) = i * 7 := by omega
        rw [e1] at hu
        have hjN : j - i * 7 < (cellsE encMc (L.drop J)).length := by rw [hnl]; omega
        have := World.cell?_setCells_in g (cellsE encMc (L.drop J)) (i * 7) (w.drewN q) (fun k hk => by rw [hnl] at hk; exact hsome _ (by omega)) (j - i * 7) hjN
        rw [show i * 7 + (j - i * 7) = j by omega] at this
        rw [this, ← hu, List.getElem?_eq_getElem hjN]
end Go.Proofs.YtaenpajmgenjhaaDoor
