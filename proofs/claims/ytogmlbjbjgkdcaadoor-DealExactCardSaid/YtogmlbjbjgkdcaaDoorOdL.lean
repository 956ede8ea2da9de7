/- The reference's book of stage 13, however its row lies to its object: At, and Add's answer (for a copy of a book). Conditions: the book is one that the calls have made. -/
import Derived.Test.YtogmlbjbjgkdcaaDoorOdU
namespace Go.Proofs.YtogmlbjbjgkdcaaDoor
open Go Go.RowKit

/-- The reference's book in memory, its row ahead of its object or behind it. -/
def RBl (w : World) (q R : Nat) (b : RB) : Prop :=
  ∃ v, w.heap[q]? = some (.cells #[v, .int .i64 (b.came : Int)] 29 (0, 0)) ∧ OwnE encOd 40 w 0 v b.L ∧ v.ownBlock.getD q = R ∧ ∀ k, v.ownBlock = some k → k ≠ q
theorem RBl.on {w w' : World} {q R : Nat} {b : RB} (h : RBl w q R b) (hb : Below w.heap.size w w') : RBl w' q R b := by
  obtain ⟨v, h1, h2, h3⟩ := h
  exact ⟨v, (hb.block q (lt_of_row h1)).trans h1, h2.on hb, h3⟩
theorem RBl.lt {w : World} {q R : Nat} {b : RB} (h : RBl w q R b) : q < w.heap.size ∧ R < w.heap.size := by
  obtain ⟨v, h1, h2, h3, _⟩ := h
  have hq := lt_of_row h1
  cases hv : v.ownBlock with
  | none => rw [hv] at h3; simp at h3; omega
  | some k => rw [hv] at h3; simp at h3; have := h2.lt k hv; omega
/-- Its cells. -/
theorem RBl.cells {w : World} {q R : Nat} {b : RB} (h : RBl w q R b) : ∃ A c, w.cell? ⟨q, 0, none⟩ = some (.slice A b.L.length c) ∧ w.cell? ⟨q, 1, none⟩ = some (.int .i64 (b.came : Int)) ∧ (∀ j, w.frozen? ⟨q, j, none⟩ = false) ∧
    ∀ (i : Nat) (x : Od), b.L[i]? = some x → ∃ ad, A = some ad ∧ ad.add (i * 6) = ⟨R, i * 6, none⟩ ∧ (∀ j, w.frozen? ⟨R, j, none⟩ = false) ∧ w.cell? ⟨R, i * 6, none⟩ = some (.int .i64 x.id) ∧ w.cell? ⟨R, i * 6 + 1, none⟩ = some (.int .i64 x.tn) ∧ w.cell? ⟨R, i * 6 + 2, none⟩ = some (.bool x.sell) ∧ w.cell? ⟨R, i * 6 + 3, none⟩ = some (.int .i64 x.price) ∧ w.cell? ⟨R, i * 6 + 4, none⟩ = some (.int .i64 x.lots) ∧ w.cell? ⟨R, i * 6 + 5, none⟩ = some (.int .i64 x.seq) := by
  obtain ⟨v, h1, h2, h3, _⟩ := h
  obtain ⟨A, c, rfl⟩ := h2.form
  refine ⟨A, c, cell_of_heap h1 0, cell_of_heap h1 1, fun j => frozen_of_heap h1 j, fun i x hi => ?_⟩
  obtain ⟨g, cap, e, _, _, _, hf, hc⟩ := h2.some (Nat.lt_of_le_of_lt (Nat.zero_le _) (List.getElem?_eq_some_iff.1 hi).1)
  simp only [Value.slice.injEq] at e
  obtain ⟨rfl, _, rfl⟩ := e
  obtain rfl : g = R := by simpa [Value.ownBlock] using h3
  have ea : (⟨g, 0, none⟩ : Addr).add (i * 6) = ⟨g, i * 6, none⟩ := by unfold Addr.add; split <;> simp_all
  exact ⟨_, rfl, ea, hf, hc i x hi 0 _ rfl, hc i x hi 1 _ rfl, hc i x hi 2 _ rfl, hc i x hi 3 _ rfl, hc i x hi 4 _ rfl, hc i x hi 5 _ rfl⟩

set_option maxRecDepth 100000 in
set_option maxHeartbeats 1600000 in
/-- Where one is. -/
theorem rat_l (q R : Nat) (b : RB) (id : Int) (w : World) (h : RBl w q R b) (hn : b.L.length ≤ 1000) :
    Calls Tryd.prog 38 #[.pointer (some ⟨q, 0, none⟩), .int .i64 id] w fun e w' => e = .returned (.int .i64 (posI b.L id)) ∧ w = w' := by
  obtain ⟨A, c, hc0, hc1, hf, hcx⟩ := h.cells
  have HC := Lib.hid hcx
  clear hcx
  go_enter Tryd.func38, Tryd.ntmps38
  go_wp2_with fail
  go_loopw [5] (fun u wr => ∃ j : Nat, j ≤ b.L.length ∧ u = .int .i64 (j : Int) ∧ (∀ k y, k < j → b.L[k]? = some y → y.id ≠ id) ∧ w = wr) (fun u _ => b.L.length - (intOf u).toNat)
  case atStart => exact ⟨0, Nat.zero_le _, rfl, fun k y hk => by omega, rfl⟩
  case round =>
    obtain ⟨j, hj, rfl, hno, rfl⟩ := hrel
    have HN := Lib.hid hno
    clear hno
    by_cases hlt : j < b.L.length
    · obtain ⟨x, hx⟩ : ∃ x, b.L[j]? = some x := ⟨_, List.getElem?_eq_getElem hlt⟩
      have HX := Lib.hid hx
      obtain ⟨ad, rfl, ea, _, x0, _⟩ := HC.out j x hx
      clear hx
      have hi0 : (0 : Int) ≤ (j : Int) := by omega
      have hi1 : (j : Int) < (b.L.length : Int) := by omega
      by_cases he : x.id = id
      · have he' : (x.id == id) = true := by simpa using he
        have HE := Lib.hid he
        clear he
        go_wp2_with fail
        go_ret
        refine ⟨?_, rfl⟩
        rw [posI_is HX.out HE.out HN.out]
        rfl
      · have he' : (x.id == id) = false := by simpa using he
        have HE := Lib.hid he
        clear he
        go_wp2_with fail
        go_roundw
        case rel =>
          refine ⟨j + 1, by omega, by go_num, fun k y hk hy => ?_, by first | rfl | trivial⟩
          rcases Nat.lt_succ_iff_lt_or_eq.1 hk with hk | rfl
          · exact HN.out k y hk hy
          · rw [HX.out] at hy; obtain rfl := Option.some.inj hy; exact HE.out
        case measure => simp [intOf]; omega
    · obtain rfl : j = b.L.length := by omega
      go_wp2_with fail
      go_ret
      refine ⟨?_, rfl⟩
      rw [posI_none fun k y hy => HN.out k y (List.getElem?_eq_some_iff.1 hy).1 hy]
      rfl
set_option maxRecDepth 100000 in
set_option maxHeartbeats 1600000 in
theorem radd_l_no (q R : Nat) (b : RB) (o : Od) (w : World) (h : RBl w q R b) (hn : b.L.length ≤ 1000) (k : Nat) (hk : (goodO o = false ∧ k = 1) ∨ (goodO o = true ∧ pos b.L o.id < b.L.length ∧ k = 6) ∨ (goodO o = true ∧ ¬ pos b.L o.id < b.L.length ∧ 32 ≤ b.L.length ∧ k = 7)) :
    Calls Tryd.prog 26 #[.pointer (some ⟨q, 0, none⟩), .agg #[.int .i64 o.id, .int .i64 o.tn, .bool o.sell, .int .i64 o.price, .int .i64 o.lots, .int .i64 o.seq]] w fun e w' => e = .returned (.int .i64 (k : Nat)) ∧ Below w.heap.size w w' := by
  have HG := Lib.hid (fun W => rgoodO_c o W)
  have HA := Lib.hid (fun W (hW : RBl W q R b) => rat_l q R b o.id W hW hn)
  have H0 := Lib.hid (h.on ((Below.refl w.heap.size w).alloc (Nat.le_refl _) (.cells #[.int .i64 o.id, .int .i64 o.tn, .bool o.sell, .int .i64 o.price, .int .i64 o.lots, .int .i64 o.seq] 40)))
  clear h
  rcases hk with ⟨hg, rfl⟩ | ⟨hg, hp, rfl⟩ | ⟨hg, hp, hf, rfl⟩
  · rw [hg] at HG
    clear hg
    go_enter Tryd.func26, Tryd.ntmps26
    go_wp2_with fail
    refine (HG.out _).mono ?_
    rintro e w1 ⟨rfl, hb1⟩
    go_wp2_with fail
    go_ret
    exact ⟨rfl, by (repeat' (first | (with_reducible exact Below.refl _ _) | (with_reducible refine below_drewN ?_ _) | (with_reducible refine Below.drew ?_) | (with_reducible refine Below.alloc ?_ ?_ _) | (with_reducible refine Below.setCell ?_ ?_ _) | (with_reducible refine Below.trans ?_ (Below.mono (by with_reducible assumption) ?_)) | omega | (simp only [World.size_alloc] at *; omega) | (with_reducible refine Below.size (B := 0) ?_)))⟩
  · rw [hg] at HG
    have hP : posI b.L o.id = (pos b.L o.id : Nat) := if_pos hp
    rw [hP] at HA
    generalize pos b.L o.id = P at HA hp
    clear hg hP hp
    have hP0 : (0 : Int) ≤ (P : Int) := by omega
    go_enter Tryd.func26, Tryd.ntmps26
    go_wp2_with fail
    refine (HG.out _).mono ?_
    rintro e w1 ⟨rfl, hb1⟩
    have H1 := Lib.hid (H0.out.on hb1)
    have ob : OdB w1 w.heap.size o := (hb1.block w.heap.size (by simp)).trans (heap_alloc_new w _)
    obtain ⟨p0, p1, p2, p3, p4, p5, pf, pl⟩ := ob.cells
    clear ob
    go_wp2_with fail
    refine (HA.out _ H1.out).mono ?_
    rintro e w2 ⟨rfl, rfl⟩
    go_wp2_with fail
    go_ret
    exact ⟨rfl, by (repeat' (first | (with_reducible exact Below.refl _ _) | (with_reducible refine below_drewN ?_ _) | (with_reducible refine Below.drew ?_) | (with_reducible refine Below.alloc ?_ ?_ _) | (with_reducible refine Below.setCell ?_ ?_ _) | (with_reducible refine Below.trans ?_ (Below.mono (by with_reducible assumption) ?_)) | omega | (simp only [World.size_alloc] at *; omega) | (with_reducible refine Below.size (B := 0) ?_)))⟩
  · rw [hg] at HG
    have hP : posI b.L o.id = -1 := if_neg hp
    rw [hP] at HA
    clear hg hP hp
    have hf' : (32 : Int) ≤ (b.L.length : Int) := by omega
    go_enter Tryd.func26, Tryd.ntmps26
    go_wp2_with fail
    refine (HG.out _).mono ?_
    rintro e w1 ⟨rfl, hb1⟩
    have H1 := Lib.hid (H0.out.on hb1)
    have ob : OdB w1 w.heap.size o := (hb1.block w.heap.size (by simp)).trans (heap_alloc_new w _)
    obtain ⟨p0, p1, p2, p3, p4, p5, pf, pl⟩ := ob.cells
    clear ob
    go_wp2_with fail
    refine (HA.out _ H1.out).mono ?_
    rintro e w2 ⟨rfl, rfl⟩
    obtain ⟨A, c, c0, c1, cf, cx⟩ := H1.out.cells
    clear cx
    go_wp2_with fail
    go_ret
    exact ⟨rfl, by (repeat' (first | (with_reducible exact Below.refl _ _) | (with_reducible refine below_drewN ?_ _) | (with_reducible refine Below.drew ?_) | (with_reducible refine Below.alloc ?_ ?_ _) | (with_reducible refine Below.setCell ?_ ?_ _) | (with_reducible refine Below.trans ?_ (Below.mono (by with_reducible assumption) ?_)) | omega | (simp only [World.size_alloc] at *; omega) | (with_reducible refine Below.size (B := 0) ?_)))⟩

set_option maxRecDepth 100000 in
set_option maxHeartbeats 1600000 in
theorem radd_l_yes (q R : Nat) (b : RB) (o : Od) (w : World) (h : RBl w q R b) (hg : goodO o = true) (hp : ¬ pos b.L o.id < b.L.length) (hf : b.L.length < 32) (hc : b.came ≤ 1000) :
    Calls Tryd.prog 26 #[.pointer (some ⟨q, 0, none⟩), .agg #[.int .i64 o.id, .int .i64 o.tn, .bool o.sell, .int .i64 o.price, .int .i64 o.lots, .int .i64 o.seq]] w fun e w' => e = .returned (.int .i64 0) ∧ Chg q R w w' := by
  have HG := Lib.hid (fun W => rgoodO_c o W)
  have HA := Lib.hid (fun W (hW : RBl W q R b) => rat_l q R b o.id W hW (by omega))
  have H0 := Lib.hid (h.on ((Below.refl w.heap.size w).alloc (Nat.le_refl _) (.cells #[.int .i64 o.id, .int .i64 o.tn, .bool o.sell, .int .i64 o.price, .int .i64 o.lots, .int .i64 o.seq] 40)))
  have hlt := h.lt
  obtain ⟨hq0, hR0⟩ := hlt
  clear h
  rw [hg] at HG
  have hP : posI b.L o.id = -1 := if_neg hp
  rw [hP] at HA
  clear hg hP hp
  have hf' : (b.L.length : Int) < 32 := by omega
  have hw1 : IntKind.i64.wrap ((b.came : Int) + 1) = (b.came : Int) + 1 := IntWalk.i64_in _ (by omega)
  go_enter Tryd.func26, Tryd.ntmps26
  go_wp2_with fail
  refine (HG.out _).mono ?_
  rintro e w1 ⟨rfl, hb1⟩
  have H1 := Lib.hid (H0.out.on hb1)
  have ob : OdB w1 w.heap.size o := (hb1.block w.heap.size (by simp)).trans (heap_alloc_new w _)
  obtain ⟨p0, p1, p2, p3, p4, p5, pf, pl⟩ := ob.cells
  have OB := Lib.hid ob
  clear ob
  have KB := Lib.hid hb1
  clear hb1
  have n1 : ¬ (q = w.heap.size) := by omega
  have n2 : ¬ (w.heap.size = q) := by omega
  go_wp2_with fail
  refine (HA.out _ H1.out).mono ?_
  rintro e w2 ⟨rfl, rfl⟩
  obtain ⟨v, v1, v2, v3, v4⟩ := H1.out
  have V1 := Lib.hid v1
  have V2 := Lib.hid v2
  have hvk := Lib.hid v4
  have hvR : Hid (∀ k, v.ownBlock = some k → k = R) := Lib.hid fun k hk => by rw [hk] at v3; simpa using v3
  have hvN : Hid (v.ownBlock = none → R = q) := Lib.hid fun hk => by rw [hk] at v3; simpa using v3.symm
  obtain ⟨A, c, rfl⟩ := v2.form
  have c0 := cell_of_heap v1 0
  have c1 := cell_of_heap v1 1
  have cf : ∀ j, w1.frozen? ⟨q, j, none⟩ = false := fun j => frozen_of_heap v1 j
  clear v1 v2 v3 v4 H0 HG HA
  go_wp2_with fail
  have qa : ((w1.setCell ⟨q, 1, none⟩ (.int .i64 ((b.came : Int) + 1))).setCell ⟨w.heap.size, 5, none⟩ (.int .i64 ((b.came : Int) + 1))).heap[q]? = some (.cells #[.slice A b.L.length c, .int .i64 ((b.came : Int) + 1)] 29 (0, 0)) := by
    rw [heap_setCell_other _ _ _ _ n1, heap_setCell_same _ _ _ _ _ _ V1.out]; rfl
  have oa : OdB ((w1.setCell ⟨q, 1, none⟩ (.int .i64 ((b.came : Int) + 1))).setCell ⟨w.heap.size, 5, none⟩ (.int .i64 ((b.came : Int) + 1))) w.heap.size { o with seq := (b.came : Int) + 1 } := by
    unfold OdB
    rw [heap_setCell_same _ _ _ _ _ _ ((heap_setCell_other _ _ _ _ n2).trans OB.out)]; rfl
  have va : OwnE encOd 40 ((w1.setCell ⟨q, 1, none⟩ (.int .i64 ((b.came : Int) + 1))).setCell ⟨w.heap.size, 5, none⟩ (.int .i64 ((b.came : Int) + 1))) 0 (.slice A b.L.length c) b.L := V2.out.same fun k hk => by
    have h1 := hvk.out k hk
    have h2 := hvR.out k hk
    rw [heap_setCell_other _ _ _ _ (show k ≠ w.heap.size by omega), heap_setCell_other _ _ _ _ (show k ≠ q by omega)]
  have ca : Chg q R w ((w1.setCell ⟨q, 1, none⟩ (.int .i64 ((b.came : Int) + 1))).setCell ⟨w.heap.size, 5, none⟩ (.int .i64 ((b.came : Int) + 1))) :=
    Chg.setCell (ad := ⟨w.heap.size, 5, none⟩) (Chg.setCell (ad := ⟨q, 1, none⟩) (Chg.of_below (by have h := KB.out; exact ((Below.refl _ _).alloc (Nat.le_refl _) _).trans (h.mono (by simp)))) (.inl rfl) _) (.inr (.inr (Nat.le_refl _))) _
  have hsa : w.heap.size ≤ ((w1.setCell ⟨q, 1, none⟩ (.int .i64 ((b.came : Int) + 1))).setCell ⟨w.heap.size, 5, none⟩ (.int .i64 ((b.came : Int) + 1))).heap.size := ca.size
  clear c0 c1 cf p0 p1 p2 p3 p4 p5 pf pl V1 V2 OB KB H1 n1 n2
  generalize (w1.setCell ⟨q, 1, none⟩ (.int .i64 ((b.came : Int) + 1))).setCell ⟨w.heap.size, 5, none⟩ (.int .i64 ((b.came : Int) + 1)) = Wa at *
  obtain ⟨p0, p1, p2, p3, p4, p5, pf, pl⟩ := oa.cells
  have c0 := cell_of_heap qa 0
  have cf : ∀ j, Wa.frozen? ⟨q, j, none⟩ = false := fun j => frozen_of_heap qa j
  have hql := lt_of_row qa
  obtain ⟨i0, hi, hz0, hz1, hz2⟩ := info_parts Tryd.infoOd
  have QA := Lib.hid qa
  have VA := Lib.hid va
  have CA := Lib.hid ca
  have L1 : Hid (b.L.length + [({ o with seq := (b.came : Int) + 1 } : Od)].length ≤ maxLen) := Lib.hid (by simp only [List.length_singleton, maxLen]; omega)
  have L2 : Hid ((b.L.length + [({ o with seq := (b.came : Int) + 1 } : Od)].length) * 48 ≤ 140737488355328) := Lib.hid (by simp only [List.length_singleton]; omega)
  clear qa va ca oa
  have NE : Hid (∀ k, (Value.slice A b.L.length c).ownBlock = some k → k ≠ q ∧ k = R) := Lib.hid fun k hk => ⟨hvk.out k hk, hvR.out k hk⟩
  have hsb := Lib.hid hsa
  clear hvk hvR hsa
  go_region_law (
    refine step_append_E (E := encOd) rfl (.tmp 35) (.tmp 37) _ rfl i0 _ 48 Tryd.underlying27 hi hz0 hz1 hz2 rfl (by decide) (base := 0) (v := .slice A b.L.length c) (L := b.L) (M := [{ o with seq := (b.came : Int) + 1 }]) rfl (VA.out.on (by (repeat' (first | (with_reducible exact Below.refl _ _) | (with_reducible refine below_drewN ?_ _) | (with_reducible refine Below.drew ?_) | (with_reducible refine Below.alloc ?_ ?_ _) | (with_reducible refine Below.setCell ?_ ?_ _) | (with_reducible refine Below.trans ?_ (Below.mono (by with_reducible assumption) ?_)) | omega | (simp only [World.size_alloc, World.size_setCell, World.size_drew, Go.Proofs.YtogmlbjbjgkdcaaDoor.World.size_drewN] at *; omega) | (with_reducible refine Below.size (B := 0) ?_))))) (ad := ⟨Wa.heap.size, 0, none⟩) (c := 1) rfl (cells_oneE (by first | exact heap_alloc_new Wa _ | exact heap_alloc_new Wa.drew _)) L1.out L2.out (Nat.zero_le _) ?_
    intro v9 w9 own9 gr9 lo9
    obtain ⟨Au, cu, rfl⟩ := own9.form
    have q9 : w9.heap[q]? = some (.cells #[.slice A b.L.length c, .int .i64 ((b.came : Int) + 1)] 29 (0, 0)) := by
      refine (gr9.block q ?_ ?_).trans (Eq.trans ?_ QA.out)
      · first | exact Nat.lt_succ_of_lt hql | (simp; omega)
      · intro e; exact (NE.out q e.symm).1 rfl
      · first | exact Below.heap_alloc Wa _ q hql | exact Below.heap_alloc Wa.drew _ q hql
    have C9 : Hid (Chg q R w w9) := Lib.hid (Chg.grown (by (repeat' (first | exact CA.out | refine Chg.drew ?_ | refine Chg.drewN ?_ _ | refine Chg.alloc ?_ _))) gr9 (fun k hk => .inr (.inl (NE.out k hk).2)))
    have LO : Hid ((Value.slice Au (b.L ++ [({ o with seq := (b.came : Int) + 1 } : Od)]).length cu).ownBlock = (Value.slice A b.L.length c).ownBlock ∨ ∃ k, (Value.slice Au (b.L ++ [({ o with seq := (b.came : Int) + 1 } : Od)]).length cu).ownBlock = some k ∧ w.heap.size ≤ k) := Lib.hid (by
      rcases lo9 with h | h
      · exact .inl h
      · exact .inr ⟨_, h, by have := hsb.out; first | (simp; omega) | omega⟩)
    have Q9 := Lib.hid q9
    have O9 := Lib.hid own9
    have c9 := cell_of_heap q9 0
    have f9 : ∀ j, w9.frozen? ⟨q, j, none⟩ = false := fun j => frozen_of_heap q9 j
    clear q9 own9 gr9 lo9)
  all_goals go_wp2_with fail
  all_goals go_ret
  all_goals exact ⟨rfl, by first | exact Chg.setCell (ad := ⟨q, 0, none⟩) C9.out (.inl rfl) _ | exact (Chg.setCell (ad := ⟨q, 0, none⟩) C9.out (.inl rfl) _).drew⟩

/-- Add's answer, whatever is there. -/
theorem radd_l (q R : Nat) (b : RB) (o : Od) (w : World) (h : RBl w q R b) (hn : b.L.length ≤ 1000) (hc : b.came ≤ 1000) :
    Calls Tryd.prog 26 #[.pointer (some ⟨q, 0, none⟩), .agg #[.int .i64 o.id, .int .i64 o.tn, .bool o.sell, .int .i64 o.price, .int .i64 o.lots, .int .i64 o.seq]] w fun e w' => e = .returned (.int .i64 ((addR13 b o).2 : Nat)) ∧ Chg q R w w' := by
  cases hg : goodO o
  · have hd : addR13 b o = (b, 1) := by unfold addR13; rw [hg]; rfl
    rw [hd]
    exact (radd_l_no q R b o w h hn 1 (.inl ⟨hg, rfl⟩)).mono fun e w' ⟨he, hb⟩ => ⟨he, Chg.of_below hb⟩
  · by_cases hp : pos b.L o.id < b.L.length
    · have hd : addR13 b o = (b, 6) := by unfold addR13; rw [hg, if_pos rfl, if_pos hp]
      rw [hd]
      exact (radd_l_no q R b o w h hn 6 (.inr (.inl ⟨hg, hp, rfl⟩))).mono fun e w' ⟨he, hb⟩ => ⟨he, Chg.of_below hb⟩
    · by_cases hf : 32 ≤ b.L.length
      · have hd : addR13 b o = (b, 7) := by unfold addR13; rw [hg, if_pos rfl, if_neg hp, if_pos hf]
        rw [hd]
        exact (radd_l_no q R b o w h hn 7 (.inr (.inr ⟨hg, hp, hf, rfl⟩))).mono fun e w' ⟨he, hb⟩ => ⟨he, Chg.of_below hb⟩
      · have hd : addR13 b o = (⟨b.L ++ [{ o with seq := (b.came : Int) + 1 }], b.came + 1⟩, 0) := by unfold addR13; rw [hg, if_pos rfl, if_neg hp, if_neg hf]
        rw [hd]
        exact radd_l_yes q R b o w h hg hp (by omega) hc
end Go.Proofs.YtogmlbjbjgkdcaaDoor
