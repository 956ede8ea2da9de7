/- The program's book by contracts: slices.Delete of one order, and the book's own remove. Conditions: the row is one that the calls have made. -/
import Derived.Test.YtogmlbjbjgkdcaaDoorBkC
import Derived.Lib.SliceRun
namespace Go.Proofs.YtogmlbjbjgkdcaaDoor
open Go Go.RowKit Go.Shelf Go.Sort

/-- The cells of the zero order. -/
def zero6 : List Value := [.int .i64 0, .int .i64 0, .bool false, .int .i64 0, .int .i64 0, .int .i64 0]
theorem run_clear6 (W : World) (ty : TypeId) (g o c : Nat) (hc : ∀ j, j < 6 → (W.cell? ⟨g, o + j, none⟩).isSome = true) (hf : ∀ j, j < 6 → W.frozen? ⟨g, o + j, none⟩ = false) :
    (Builtin.clear_ #[22] ty #[.slice (some ⟨g, o, none⟩) 1 c]).run Tryd.prog W = .ok (.tuple #[]) (W.setCells g o zero6) := by
  have hz : (Builtin.zeroCells (Value.agg #[.int .i64 0, .int .i64 0, .bool false, .int .i64 0, .int .i64 0, .int .i64 0]).cells 1).toList = zero6 := by kernel_rfl
  have hst := run_storeCells_cells (P := Tryd.prog) g o zero6 0 W (by simpa [zero6] using hc) (by simpa [zero6] using hf) (by intro v hv; simp [zero6] at hv; rcases hv with rfl | rfl | rfl <;> rfl)
  simp only [Nat.add_zero] at hst
  simp [Builtin.clear_, run_underlying Tryd.underlying22, Tryd.zeroValue36, hz, hst]

theorem Tryd.infoBO : (Tryd.prog.info? 36).map (fun i => (i.zero, i.size, i.bytes)) = some (some (.agg #[.int .i64 0, .int .i64 0, .bool false, .int .i64 0, .int .i64 0, .int .i64 0]), 6, 48) := by kernel_rfl
theorem Tryd.sizeBO (W : World) : (sizeOf 36).run Tryd.prog W = .ok 6 W := by kernel_rfl

set_option maxRecDepth 100000 in
set_option maxHeartbeats 4000000 in
/-- slices.Delete of one, told by cells. -/
theorem delete_raw (g off cap len i J : Nat) (news : List Value) (w : World) (hJ : J = i + 1) (hi : i < len) (hcap : len ≤ cap) (_hm : cap ≤ 9223372036854775807) (hn : news.length = (len - J) * 6)
    (hsrc : ∀ t u, news[t]? = some u → w.cell? ⟨g, off + J * 6 + t, none⟩ = some u) (h1 : ∀ u ∈ news, u.oneCell' = true)
    (hall : ∀ t, t < len * 6 → (w.cell? ⟨g, off + t, none⟩).isSome = true ∧ w.frozen? ⟨g, off + t, none⟩ = false) :
    Calls Tryd.prog 48 #[.slice (some ⟨g, off, none⟩) len cap, .int .i64 (i : Int), .int .i64 (J : Int)] w fun e w' => e = .returned (.slice (some ⟨g, off, none⟩) (i + (len - J)) cap) ∧ ∃ n, w' = ((w.drewN n).setCells g (off + i * 6) news).setCells g (off + (i + (len - J)) * 6) zero6 := by
  have hlt : i < J := by omega
  have hij : i ≤ J := by omega
  have hj : J ≤ len := by omega
  have heq : ¬ i = J := by omega
  obtain ⟨A, hA, hsrc'⟩ : ∃ A : Addr, (if cap = J then some (⟨g, off, none⟩ : Addr) else some ⟨g, off + J * 6, none⟩) = some A ∧ Hid (∀ t u, news[t]? = some u → w.drew.cell? (A.add t) = some u) := by
    by_cases h : cap = J
    · refine ⟨⟨g, off, none⟩, by simp [h], fun t u hu => ?_⟩
      have h0 : news.length = 0 := by rw [hn]; have : len - J = 0 := by omega
                                      rw [this]
      rw [List.length_eq_zero_iff.1 h0] at hu
      simp at hu
    · refine ⟨⟨g, off + J * 6, none⟩, by simp [h], fun t u hu => ?_⟩
      rw [show (⟨g, off + J * 6, none⟩ : Addr).add t = ⟨g, off + J * 6 + t, none⟩ by unfold Addr.add; split <;> simp_all]
      exact hsrc t u hu
  have s1 : Hid (news.length = (len - J) * 6) := hn
  have s2 : Hid (∀ u ∈ news, u.oneCell' = true) := h1
  have s3 : Hid (∀ t, t < news.length → (w.drew.cell? ⟨g, off + i * 6 + t, none⟩).isSome = true ∧ w.drew.frozen? ⟨g, off + i * 6 + t, none⟩ = false) := by
    intro t ht
    rw [hn] at ht
    rw [Nat.add_assoc]
    exact hall (i * 6 + t) (by omega)
  obtain ⟨W1, hW1⟩ : ∃ W1, W1 = w.drew.setCells g (off + i * 6) news := ⟨_, rfl⟩
  have hsome : ∀ t, t < len * 6 → (W1.cell? ⟨g, off + t, none⟩).isSome = true ∧ W1.frozen? ⟨g, off + t, none⟩ = false := by
    intro t ht
    subst hW1
    obtain ⟨k1, k2⟩ := hall t ht
    refine ⟨?_, by rw [World.frozen?_setCells]; exact k2⟩
    by_cases hin : i * 6 ≤ t ∧ t < i * 6 + news.length
    · have := World.cell?_setCells_in g news (off + i * 6) w.drew (fun j hj => (s3 j hj).1) (t - i * 6) (by omega)
      rw [show off + i * 6 + (t - i * 6) = off + t by omega] at this
      rw [this]; rfl
    · rw [World.cell?_setCells_out g news (off + i * 6) w.drew ⟨g, off + t, none⟩ (fun _ _ => by show off + t < _ ∨ _ ≤ off + t; omega)]; exact k1
  have hcl : ∀ ty, (Builtin.clear_ #[22] ty #[.slice (some ⟨g, off + (i + (len - J)) * 6, none⟩) (len - (i + (len - J))) (cap - (i + (len - J)))]).run Tryd.prog W1 = .ok (.tuple #[]) (W1.setCells g (off + (i + (len - J)) * 6) zero6) := fun ty => by
    rw [show len - (i + (len - J)) = 1 by omega]
    exact run_clear6 W1 ty g _ _ (fun t ht => by rw [Nat.add_assoc]; exact (hsome _ (by omega)).1) (fun t ht => by rw [Nat.add_assoc]; exact (hsome _ (by omega)).2)
  have hW : Hid (W1 = w.drew.setCells g (off + i * 6) news) := hW1
  have hic : i ≤ cap := by omega
  have hjc : J ≤ cap := by omega
  have hil : i ≤ len := by omega
  have hkc : ¬ cap = i + (len - J) := by omega
  obtain ⟨i0, hi0, hz0, hz1, hz2⟩ := info_parts Tryd.infoBO
  clear hW1 hsome hsrc hall h1 hn hJ
  go_enter Tryd.func48, Tryd.ntmps48
  go_wp2_with fail
  go_region_law (refine step_append_room rfl (.tmp 22) (.tmp 25) 22 rfl 36 i0 6 Tryd.underlying22 hi0 hz1 g off i cap (by simp [Act.eval, Act.put]) A (len - J) (cap - J) news (by simp [Act.eval, Act.put]) s1.out hsrc'.out s2.out (by omega) s3.out ?_; rw [← hW.out])
  go_wp2_with fail
  go_ret
  exact ⟨rfl, 1, by rw [hW.out]; rfl⟩
theorem own_cellE {α : Type} {n : Nat} {E : EncK α n} {e : TypeId} {w : World} {base g m c : Nat} {L : List α} (h : OwnE E e w base (.slice (some ⟨g, 0, none⟩) m c) L) (j : Nat) (hj : j < L.length * n) : w.cell? ⟨g, j, none⟩ = (cellsE E L)[j]? := by
  obtain ⟨cur, hh, _, _, _, _, _, ht⟩ := ownE_raw h
  rw [← ht, List.getElem?_take_of_lt hj, Array.getElem?_toList]
  simp [World.cell?, hh]
/-- slices.Delete of one. -/
theorem delete_own (base g c i J : Nat) (L : List Od) (w : World) (h : OwnE encOd 36 w base (.slice (some ⟨g, 0, none⟩) L.length c) L) (hJ : J = i + 1) (hi : i < L.length) :
    Calls Tryd.prog 48 #[.slice (some ⟨g, 0, none⟩) L.length c, .int .i64 (i : Int), .int .i64 (J : Int)] w fun e w' => e = .returned (.slice (some ⟨g, 0, none⟩) (L.take i ++ L.drop J).length c) ∧ OwnE encOd 36 w' base (.slice (some ⟨g, 0, none⟩) (L.take i ++ L.drop J).length c) (L.take i ++ L.drop J) ∧ w.grownBy w' (some g) := by
  obtain ⟨cur, hh, hb, _, hc, hm, hsz, ht⟩ := ownE_raw h
  have hlen : (L.take i ++ L.drop J).length = i + (L.length - J) := by rw [List.length_append, List.length_take, List.length_drop]; omega
  have hnl : (cellsE encOd (L.drop J)).length = (L.length - J) * 6 := by rw [cellsE_len, List.length_drop]
  have hcell := own_cellE h
  have hcl := cellsE_len encOd L
  have hfr : ∀ t, w.frozen? ⟨g, t, none⟩ = false := fun t => frozen_of_heap hh t
  have hsome : ∀ t, t < L.length * 6 → (w.cell? ⟨g, t, none⟩).isSome = true := fun t ht => by
    rw [hcell t ht, List.getElem?_eq_getElem (by omega)]; rfl
  refine (delete_raw g 0 c L.length i J (cellsE encOd (L.drop J)) w hJ hi hc (by unfold maxLen at hm; exact hm) hnl (fun t u hu => ?_) (cellsE_oneCell encOd _) (fun t ht => by rw [Nat.zero_add]; exact ⟨hsome t ht, hfr t⟩)).mono ?_
  · have htl : t < (L.length - J) * 6 := by rw [← hnl]; exact (List.getElem?_eq_some_iff.1 hu).1
    rw [← cellsE_drop, List.getElem?_drop] at hu
    rw [Nat.zero_add, hcell _ (by omega)]
    exact hu
  · rintro e w' ⟨rfl, q, rfl⟩
    rw [Nat.zero_add, Nat.zero_add, hlen]
    refine ⟨rfl, ?_, grownBy_setCells g _ _ _ _ (grownBy_setCells g _ _ _ _ ⟨rfl, rfl, rfl, Nat.le_refl _, fun _ _ _ => rfl⟩)⟩
    have hh' : (w.drewN q).heap[g]? = some (.cells cur 36 (0, 0)) := hh
    obtain ⟨c1, h1, s1⟩ := heap_setCells_row g 36 (cellsE encOd (L.drop J)) (i * 6) _ _ hh'
    obtain ⟨c2, h2, s2⟩ := heap_setCells_row g 36 zero6 ((i + (L.length - J)) * 6) _ _ h1
    have key := ownE_of (E := encOd) (M := L.take i ++ L.drop J) (base := base) (cap := c) h2 hb (by rw [hlen]; omega) hm (by rw [s2, s1, hsz]) (fun j u hu => ?_)
    · rw [hlen] at key; exact key
    · have hjl : j < (i + (L.length - J)) * 6 := by
        have := (List.getElem?_eq_some_iff.1 hu).1
        rwa [cellsE_len, hlen] at this
      rw [World.cell?_setCells_out g zero6 _ _ ⟨g, j, none⟩ (fun _ _ => .inl hjl)]
      rw [← cellsE_app, ← cellsE_take, List.getElem?_append, List.length_take, hcl] at hu
      by_cases hin : j < i * 6
      · rw [if_pos (by omega), List.getElem?_take_of_lt hin] at hu
        rw [World.cell?_setCells_out g _ _ _ ⟨g, j, none⟩ (fun _ _ => .inl hin)]
        exact (hcell j (by omega)).trans hu
      · rw [if_neg (by omega)] at hu
        have e1 : min (i * 6) (L.length * 6) = i * 6 := by omega
        rw [e1] at hu
        have hj6 : j - i * 6 < (cellsE encOd (L.drop J)).length := by rw [hnl]; omega
        have := World.cell?_setCells_in g (cellsE encOd (L.drop J)) (i * 6) (w.drewN q) (fun k hk => by rw [hnl] at hk; exact hsome _ (by omega)) (j - i * 6) hj6
        rw [show i * 6 + (j - i * 6) = j by omega] at this
        rw [this, ← hu, List.getElem?_eq_getElem hj6]

set_option maxRecDepth 100000 in
set_option maxHeartbeats 1600000 in
/-- One is taken out. -/
theorem remove_c (q R : Nat) (b : RB) (i : Nat) (w : World) (h : BBk w q R b) (hi : i < b.L.length) (hn : b.L.length ≤ 1000) :
    Calls Tryd.prog 36 #[.pointer (some ⟨q, 0, none⟩), .int .i64 (i : Int)] w fun e w' => e = .returned (.tuple #[]) ∧ BBk w' q R ⟨b.L.take i ++ b.L.drop (i + 1), b.came⟩ ∧ Chg q R w w' := by
  have hlt := h.lt
  obtain ⟨v, h1, h2, h3⟩ := h
  obtain ⟨g, cap, rfl, _, hg, _⟩ := h2.some (by omega)
  obtain rfl : g = R := by simpa [Value.ownBlock] using h3
  have hd := Lib.hid (delete_own (q + 1) g cap i (i + 1) b.L w h2 rfl hi)
  have c0 := cell_of_heap h1 0
  have cf : ∀ j, w.frozen? ⟨q, j, none⟩ = false := fun j => frozen_of_heap h1 j
  have H1 := Lib.hid h1
  have hw1 : IntKind.i64.wrap ((i : Int) + 1) = ((i + 1 : Nat) : Int) := by rw [IntWalk.i64_in _ (by omega)]; omega
  generalize i + 1 = J at hd hw1 ⊢
  have HQ : Hid (q + 1 ≤ g) := Lib.hid hg
  clear h1 h2 h3 hi hn hg
  go_enter Tryd.func36, Tryd.ntmps36
  go_wp2_with fail
  refine hd.out.mono ?_
  rintro e w1 ⟨rfl, hO, hG⟩
  have qa : w1.heap[q]? = some (.cells #[.slice (some ⟨g, 0, none⟩) b.L.length cap, .int .i64 (b.came : Int)] 61 (0, 0)) := (hG.block q hlt.1 (fun e => by have := HQ.out; cases e; omega)).trans H1.out
  have HO := Lib.hid hO
  have HG := Lib.hid hG
  have QA := Lib.hid qa
  have c1 := cell_of_heap qa 0
  have cf1 : ∀ j, w1.frozen? ⟨q, j, none⟩ = false := fun j => frozen_of_heap qa j
  clear hO hG qa c0 cf
  go_wp2_with fail
  go_end0
  refine ⟨rfl, ⟨_, ?_, HO.out.same ?_, ?_⟩, ?_⟩
  · have h := heap_setCell_same w1 q 0 _ _ (.slice (some ⟨g, 0, none⟩) (b.L.take i ++ b.L.drop J).length cap) QA.out
    first | exact h | (simpa using h)
  · intro k hk
    have := (HO.out.lt k hk).1
    exact heap_setCell_other w1 ⟨q, 0, none⟩ k _ (show k ≠ q by omega)
  · rfl
  · exact Chg.setCell (ad := ⟨q, 0, none⟩) (Chg.grown (Chg.refl _ _ _) HG.out (fun k hk => .inr (.inl (by cases hk; rfl)))) (.inl rfl) _
end Go.Proofs.YtogmlbjbjgkdcaaDoor
