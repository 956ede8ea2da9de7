/- The program's book by contracts: Add. Conditions: the book is one that the calls have made; the sentinels lie where the program's text lays them. -/
import Derived.Test.YtogmlbjbjgkdcaaDoorBkE
import Derived.Deep.RegionLaw
namespace Go.Proofs.YtogmlbjbjgkdcaaDoor
open Go Go.RowKit

theorem cells_oneB {w : World} {g : Nat} {x : Od} (h : BOdBlk w g x) : ∀ j u, (cellsE encOd [x])[j]? = some u → w.cell? ((⟨g, 0, none⟩ : Addr).add j) = some u := fun j u hu => by
  rw [cellsE_one] at hu
  rw [show (⟨g, 0, none⟩ : Addr).add j = ⟨g, j, none⟩ by unfold Addr.add; split <;> simp_all, cell_of_heap h j, ← Array.getElem?_toList]
  exact hu

set_option maxRecDepth 100000 in
set_option maxHeartbeats 1600000 in
theorem add_nil (s : Nat → Addr) (o : Od) (w : World) (hs : Sent s w) :
    Calls Tryd.prog 20 #[.pointer none, .agg #[.int .i64 o.id, .int .i64 o.tn, .bool o.sell, .int .i64 o.price, .int .i64 o.lots, .int .i64 o.seq]] w fun e w' => e = .returned (errV s 2) ∧ Below w.heap.size w w' := by
  rw [show errV s 2 = .iface 125 (.pointer (some (s 1))) from rfl]
  obtain ⟨W, hW⟩ : ∃ W, W = w.alloc (.cells #[.int .i64 o.id, .int .i64 o.tn, .bool o.sell, .int .i64 o.price, .int .i64 o.lots, .int .i64 o.seq] 36) := ⟨_, rfl⟩
  have hb : Below w.heap.size w W := by rw [hW]; exact (Below.refl _ _).alloc (Nat.le_refl _) _
  have e1 : W.cell? ⟨1, 0, none⟩ = some (.iface 125 (.pointer (some (s 1)))) := (hs.below hb (Nat.le_refl _)).cell 1 (by omega)
  rw [hW] at e1
  clear hs hW hb
  go_enter Tryd.func20, Tryd.ntmps20
  go_wp2_with fail
  go_ret
  exact ⟨rfl, by (repeat' (first | (with_reducible exact Below.refl _ _) | (with_reducible refine below_drewN ?_ _) | (with_reducible refine Below.drew ?_) | (with_reducible refine Below.alloc ?_ ?_ _) | (with_reducible refine Below.setCell ?_ ?_ _) | (with_reducible refine Below.trans ?_ (Below.mono (by with_reducible assumption) ?_)) | omega | (simp only [World.size_alloc, World.size_setCell, World.size_drew, Go.Proofs.YtogmlbjbjgkdcaaDoor.World.size_drewN] at *; omega) | (with_reducible refine Below.size (B := 0) ?_)))⟩

set_option maxRecDepth 100000 in
set_option maxHeartbeats 1600000 in
theorem add_no (s : Nat → Addr) (q R : Nat) (b : RB) (o : Od) (w : World) (hs : Sent s w) (h : BBk w q R b) (hn : b.L.length ≤ 1000) (k : Nat) (hk : (goodO o = false ∧ k = 1) ∨ (goodO o = true ∧ pos b.L o.id < b.L.length ∧ k = 6) ∨ (goodO o = true ∧ ¬ pos b.L o.id < b.L.length ∧ 32 ≤ b.L.length ∧ k = 7)) :
    Calls Tryd.prog 20 #[.pointer (some ⟨q, 0, none⟩), .agg #[.int .i64 o.id, .int .i64 o.tn, .bool o.sell, .int .i64 o.price, .int .i64 o.lots, .int .i64 o.seq]] w fun e w' => e = .returned (errV s k) ∧ Below w.heap.size w w' := by
  have HG := Lib.hid (fun W => good_c o W)
  have HA := Lib.hid (fun W (hW : BBk W q R b) => at_c q R b o.id W hW hn)
  have H0 := Lib.hid (h.alloc (.cells #[.int .i64 o.id, .int .i64 o.tn, .bool o.sell, .int .i64 o.price, .int .i64 o.lots, .int .i64 o.seq] 36))
  have HS := Lib.hid (hs.below ((Below.refl w.heap.size w).alloc (Nat.le_refl _) (.cells #[.int .i64 o.id, .int .i64 o.tn, .bool o.sell, .int .i64 o.price, .int .i64 o.lots, .int .i64 o.seq] 36)) (Nat.le_refl _))
  clear h hs
  rcases hk with ⟨hg, rfl⟩ | ⟨hg, hp, rfl⟩ | ⟨hg, hp, hf, rfl⟩
  · rw [hg] at HG
    rw [show errV s 1 = .iface 125 (.pointer (some (s 0))) from rfl]
    clear hg
    go_enter Tryd.func20, Tryd.ntmps20
    go_wp2_with fail
    refine (HG.out _).mono ?_
    rintro e w1 ⟨rfl, hb1⟩
    have e1 : w1.cell? ⟨0, 0, none⟩ = some (.iface 125 (.pointer (some (s 0)))) := (HS.out.below hb1 (Nat.le_refl _)).cell 0 (by omega)
    go_wp2_with fail
    go_ret
    exact ⟨rfl, by (repeat' (first | (with_reducible exact Below.refl _ _) | (with_reducible refine below_drewN ?_ _) | (with_reducible refine Below.drew ?_) | (with_reducible refine Below.alloc ?_ ?_ _) | (with_reducible refine Below.setCell ?_ ?_ _) | (with_reducible refine Below.trans ?_ (Below.mono (by with_reducible assumption) ?_)) | omega | (simp only [World.size_alloc] at *; omega) | (with_reducible refine Below.size (B := 0) ?_)))⟩
  · rw [hg] at HG
    rw [show errV s 6 = .iface 125 (.pointer (some (s 5))) from rfl]
    have hP : posI b.L o.id = (pos b.L o.id : Nat) := if_pos hp
    rw [hP] at HA
    generalize pos b.L o.id = P at HA hp
    clear hg hP hp
    have hP0 : (0 : Int) ≤ (P : Int) := by omega
    go_enter Tryd.func20, Tryd.ntmps20
    go_wp2_with fail
    refine (HG.out _).mono ?_
    rintro e w1 ⟨rfl, hb1⟩
    have H1 := Lib.hid (H0.out.on hb1)
    have S1 := Lib.hid (HS.out.below hb1 (Nat.le_refl _))
    have ob : BOdBlk w1 w.heap.size o := (BOdBlk.new w o).below hb1 (by simp)
    obtain ⟨p0, p1, p2, p3, p4, p5, pl⟩ := ob.cells
    clear ob
    go_wp2_with fail
    refine (HA.out _ H1.out).mono ?_
    rintro e w2 ⟨rfl, hb2⟩
    have e1 : w2.cell? ⟨5, 0, none⟩ = some (.iface 125 (.pointer (some (s 5)))) := (S1.out.below hb2 (Nat.le_refl _)).cell 5 (by omega)
    go_wp2_with fail
    go_ret
    exact ⟨rfl, by (repeat' (first | (with_reducible exact Below.refl _ _) | (with_reducible refine below_drewN ?_ _) | (with_reducible refine Below.drew ?_) | (with_reducible refine Below.alloc ?_ ?_ _) | (with_reducible refine Below.setCell ?_ ?_ _) | (with_reducible refine Below.trans ?_ (Below.mono (by with_reducible assumption) ?_)) | omega | (simp only [World.size_alloc] at *; omega) | (with_reducible refine Below.size (B := 0) ?_)))⟩
  · rw [hg] at HG
    rw [show errV s 7 = .iface 125 (.pointer (some (s 6))) from rfl]
    have hP : posI b.L o.id = -1 := if_neg hp
    rw [hP] at HA
    clear hg hP hp
    have hf' : (32 : Int) ≤ (b.L.length : Int) := by omega
    go_enter Tryd.func20, Tryd.ntmps20
    go_wp2_with fail
    refine (HG.out _).mono ?_
    rintro e w1 ⟨rfl, hb1⟩
    have H1 := Lib.hid (H0.out.on hb1)
    have S1 := Lib.hid (HS.out.below hb1 (Nat.le_refl _))
    have ob : BOdBlk w1 w.heap.size o := (BOdBlk.new w o).below hb1 (by simp)
    obtain ⟨p0, p1, p2, p3, p4, p5, pl⟩ := ob.cells
    clear ob
    go_wp2_with fail
    refine (HA.out _ H1.out).mono ?_
    rintro e w2 ⟨rfl, hb2⟩
    have e1 : w2.cell? ⟨6, 0, none⟩ = some (.iface 125 (.pointer (some (s 6)))) := (S1.out.below hb2 (Nat.le_refl _)).cell 6 (by omega)
    obtain ⟨A, c, c0, c1, cf, cx⟩ := (H1.out.on hb2).cells
    clear cx
    go_wp2_with fail
    go_ret
    exact ⟨rfl, by (repeat' (first | (with_reducible exact Below.refl _ _) | (with_reducible refine below_drewN ?_ _) | (with_reducible refine Below.drew ?_) | (with_reducible refine Below.alloc ?_ ?_ _) | (with_reducible refine Below.setCell ?_ ?_ _) | (with_reducible refine Below.trans ?_ (Below.mono (by with_reducible assumption) ?_)) | omega | (simp only [World.size_alloc] at *; omega) | (with_reducible refine Below.size (B := 0) ?_)))⟩

set_option maxRecDepth 100000 in
set_option maxHeartbeats 1600000 in
theorem add_yes (q R : Nat) (b : RB) (o : Od) (w : World) (h : BBk w q R b) (hg : goodO o = true) (hp : ¬ pos b.L o.id < b.L.length) (hf : b.L.length < 32) (hc : b.came ≤ 1000) :
    Calls Tryd.prog 20 #[.pointer (some ⟨q, 0, none⟩), .agg #[.int .i64 o.id, .int .i64 o.tn, .bool o.sell, .int .i64 o.price, .int .i64 o.lots, .int .i64 o.seq]] w fun e w' => e = .returned .nilIface ∧ (∃ R', BBk w' q R' ⟨b.L ++ [{ o with seq := (b.came : Int) + 1 }], b.came + 1⟩ ∧ (R' = R ∨ w.heap.size ≤ R')) ∧ Chg q R w w' := by
  have HG := Lib.hid (fun W => good_c o W)
  have HA := Lib.hid (fun W (hW : BBk W q R b) => at_c q R b o.id W hW (by omega))
  have H0 := Lib.hid (h.alloc (.cells #[.int .i64 o.id, .int .i64 o.tn, .bool o.sell, .int .i64 o.price, .int .i64 o.lots, .int .i64 o.seq] 36))
  have hlt := h.lt
  obtain ⟨hq0, hR0, hqR⟩ := hlt
  clear h
  rw [hg] at HG
  have hP : posI b.L o.id = -1 := if_neg hp
  rw [hP] at HA
  clear hg hP hp
  have hf' : (b.L.length : Int) < 32 := by omega
  have hw1 : IntKind.i64.wrap ((b.came : Int) + 1) = (b.came : Int) + 1 := IntWalk.i64_in _ (by omega)
  go_enter Tryd.func20, Tryd.ntmps20
  go_wp2_with fail
  refine (HG.out _).mono ?_
  rintro e w0 ⟨rfl, hb0⟩
  have H1 := Lib.hid (H0.out.on hb0)
  have ob : BOdBlk w0 w.heap.size o := (BOdBlk.new w o).below hb0 (by simp)
  obtain ⟨p0, p1, p2, p3, p4, p5, pl⟩ := ob.cells
  have OB := Lib.hid ob
  have KB0 := Lib.hid hb0
  clear hb0 ob H0
  go_wp2_with fail
  refine (HA.out _ H1.out).mono ?_
  rintro e w1 ⟨rfl, hb1⟩
  have H2 := Lib.hid (H1.out.on hb1)
  have OB1 := Lib.hid (OB.out.on hb1)
  have KB : Hid (Below w.heap.size w w1) := Lib.hid (((Below.refl _ _).alloc (Nat.le_refl _) _).trans ((KB0.out.mono (by simp)).trans (hb1.mono (by have := KB0.out.size; simp only [World.size_alloc] at this; omega))))
  clear p0 p1 p2 p3 p4 p5 pl hb1 H1 OB KB0
  obtain ⟨p0, p1, p2, p3, p4, p5, pl⟩ := OB1.out.cells
  have pf : ∀ j, w1.frozen? ⟨w.heap.size, j, none⟩ = false := fun j => frozen_of_heap OB1.out j
  have n1 : ¬ (q = w.heap.size) := by omega
  have n2 : ¬ (w.heap.size = q) := by omega
  obtain ⟨v, v1, v2, v3⟩ := H2.out
  have V1 := Lib.hid v1
  have V2 := Lib.hid v2
  have hvk := Lib.hid (fun k hk => (v2.lt k hk).1)
  have hvR : Hid (∀ k, v.ownBlock = some k → k = R) := Lib.hid fun k hk => by rw [hk] at v3; simpa using v3
  have hvN : Hid (v.ownBlock = none → R = q) := Lib.hid fun hk => by rw [hk] at v3; simpa using v3.symm
  obtain ⟨A, c, rfl⟩ := v2.form
  have c0 := cell_of_heap v1 0
  have c1 := cell_of_heap v1 1
  have cf : ∀ j, w1.frozen? ⟨q, j, none⟩ = false := fun j => frozen_of_heap v1 j
  clear v1 v2 v3 HG HA
  go_wp2_with fail
  have qa : ((w1.setCell ⟨q, 1, none⟩ (.int .i64 ((b.came : Int) + 1))).setCell ⟨w.heap.size, 5, none⟩ (.int .i64 ((b.came : Int) + 1))).heap[q]? = some (.cells #[.slice A b.L.length c, .int .i64 ((b.came : Int) + 1)] 61 (0, 0)) := by
    rw [heap_setCell_other _ _ _ _ n1, heap_setCell_same _ _ _ _ _ _ V1.out]; rfl
  have oa : BOdBlk ((w1.setCell ⟨q, 1, none⟩ (.int .i64 ((b.came : Int) + 1))).setCell ⟨w.heap.size, 5, none⟩ (.int .i64 ((b.came : Int) + 1))) w.heap.size { o with seq := (b.came : Int) + 1 } := by
    unfold BOdBlk
    rw [heap_setCell_same _ _ _ _ _ _ ((heap_setCell_other _ _ _ _ n2).trans OB1.out)]; rfl
  have va : OwnE encOd 36 ((w1.setCell ⟨q, 1, none⟩ (.int .i64 ((b.came : Int) + 1))).setCell ⟨w.heap.size, 5, none⟩ (.int .i64 ((b.came : Int) + 1))) (q + 1) (.slice A b.L.length c) b.L := V2.out.same fun k hk => by
    have h1 := hvk.out k hk
    have h2 := hvR.out k hk
    rw [heap_setCell_other _ _ _ _ (show k ≠ w.heap.size by omega), heap_setCell_other _ _ _ _ (show k ≠ q by omega)]
  have ca : Chg q R w ((w1.setCell ⟨q, 1, none⟩ (.int .i64 ((b.came : Int) + 1))).setCell ⟨w.heap.size, 5, none⟩ (.int .i64 ((b.came : Int) + 1))) :=
    Chg.setCell (ad := ⟨w.heap.size, 5, none⟩) (Chg.setCell (ad := ⟨q, 1, none⟩) (Chg.of_below KB.out) (.inl rfl) _) (.inr (.inr (Nat.le_refl _))) _
  have hsa : w.heap.size ≤ ((w1.setCell ⟨q, 1, none⟩ (.int .i64 ((b.came : Int) + 1))).setCell ⟨w.heap.size, 5, none⟩ (.int .i64 ((b.came : Int) + 1))).heap.size := ca.size
  clear c0 c1 cf p0 p1 p2 p3 p4 p5 pf pl V1 V2 OB1 KB H2 n1 n2
  generalize (w1.setCell ⟨q, 1, none⟩ (.int .i64 ((b.came : Int) + 1))).setCell ⟨w.heap.size, 5, none⟩ (.int .i64 ((b.came : Int) + 1)) = Wa at *
  obtain ⟨p0, p1, p2, p3, p4, p5, pl⟩ := oa.cells
  have c0 := cell_of_heap qa 0
  have cf : ∀ j, Wa.frozen? ⟨q, j, none⟩ = false := fun j => frozen_of_heap qa j
  have hql := lt_of_row qa
  obtain ⟨i0, hi, hz0, hz1, hz2⟩ := info_parts Tryd.infoBO
  have QA := Lib.hid qa
  have VA := Lib.hid va
  have CA := Lib.hid ca
  have L1 : Hid (b.L.length + [({ o with seq := (b.came : Int) + 1 } : Od)].length ≤ maxLen) := Lib.hid (by simp only [List.length_singleton, maxLen]; omega)
  have L2 : Hid ((b.L.length + [({ o with seq := (b.came : Int) + 1 } : Od)].length) * 48 ≤ 140737488355328) := Lib.hid (by simp only [List.length_singleton]; omega)
  clear qa va ca oa
  have NE : Hid (∀ k, (Value.slice A b.L.length c).ownBlock = some k → q + 1 ≤ k ∧ k = R) := Lib.hid fun k hk => ⟨hvk.out k hk, hvR.out k hk⟩
  have hsb := Lib.hid hsa
  clear hvk hvR hsa
  go_region_law (
    refine step_append_E (E := encOd) rfl (.tmp 45) (.tmp 47) _ rfl i0 _ 48 Tryd.underlying22 hi hz0 hz1 hz2 rfl (by decide) (base := q + 1) (v := .slice A b.L.length c) (L := b.L) (M := [{ o with seq := (b.came : Int) + 1 }]) rfl (VA.out.on (by (repeat' (first | (with_reducible exact Below.refl _ _) | (with_reducible refine below_drewN ?_ _) | (with_reducible refine Below.drew ?_) | (with_reducible refine Below.alloc ?_ ?_ _) | (with_reducible refine Below.setCell ?_ ?_ _) | (with_reducible refine Below.trans ?_ (Below.mono (by with_reducible assumption) ?_)) | omega | (simp only [World.size_alloc, World.size_setCell, World.size_drew, Go.Proofs.YtogmlbjbjgkdcaaDoor.World.size_drewN] at *; omega) | (with_reducible refine Below.size (B := 0) ?_))))) (ad := ⟨Wa.heap.size, 0, none⟩) (c := 1) rfl (cells_oneB (by first | exact heap_alloc_new Wa _ | exact heap_alloc_new Wa.drew _)) L1.out L2.out (by first | exact Nat.le_of_lt (Nat.lt_of_le_of_lt hql (by simp)) | (simp; omega)) ?_
    intro v9 w9 own9 gr9 lo9
    obtain ⟨Au, cu, rfl⟩ := own9.form
    have q9 : w9.heap[q]? = some (.cells #[.slice A b.L.length c, .int .i64 ((b.came : Int) + 1)] 61 (0, 0)) := by
      refine (gr9.block q ?_ ?_).trans (Eq.trans ?_ QA.out)
      · first | exact Nat.lt_succ_of_lt hql | (simp; omega)
      · intro e; have := (NE.out q e.symm).1; omega
      · first | exact Below.heap_alloc Wa _ q hql | exact Below.heap_alloc Wa.drew _ q hql
    have C9 : Hid (Chg q R w w9) := Lib.hid (Chg.grown (by (repeat' (first | exact CA.out | refine Chg.drew ?_ | refine Chg.drewN ?_ _ | refine Chg.alloc ?_ _))) gr9 (fun k hk => .inr (.inl (NE.out k hk).2)))
    have LO : Hid ((Value.slice Au (b.L ++ [({ o with seq := (b.came : Int) + 1 } : Od)]).length cu).ownBlock = (Value.slice A b.L.length c).ownBlock ∨ ∃ k, (Value.slice Au (b.L ++ [({ o with seq := (b.came : Int) + 1 } : Od)]).length cu).ownBlock = some k ∧ w.heap.size ≤ k) := Lib.hid (by
      rcases lo9 with h | h
      · exact .inl h
      · exact .inr ⟨_, h, by have := hsb.out; first | (simp; omega) | omega⟩)
    have Q9 := Lib.hid q9
    have O9 := Lib.hid own9
    have c9 := cell_of_heap q9 0
    have f9 : ∀ j, w9.frozen? ⟨q, j, none⟩ = false := fun j => frozen_of_heap q9 j
    clear q9 own9 gr9 lo9)
  all_goals go_wp2_with fail
  all_goals go_ret
  all_goals
    refine ⟨rfl, ⟨(Value.slice Au (b.L ++ [({ o with seq := (b.came : Int) + 1 } : Od)]).length cu).ownBlock.getD q, ⟨.slice Au (b.L ++ [({ o with seq := (b.came : Int) + 1 } : Od)]).length cu, ?_, O9.out.same ?_, rfl⟩, ?_⟩, ?_⟩
    · have h := heap_setCell_same w9 q 0 _ _ (.slice Au (b.L ++ [({ o with seq := (b.came : Int) + 1 } : Od)]).length cu) Q9.out
      first | exact h | (simpa using h)
    · intro k hk
      have := (O9.out.lt k hk).1
      exact heap_setCell_other w9 ⟨q, 0, none⟩ k _ (show k ≠ q by omega)
    · rcases LO.out with h | ⟨k, h, hk⟩
      · rw [h]
        left
        cases hv : (Value.slice A b.L.length c).ownBlock with
        | none => exact (hvN.out hv).symm
        | some k => exact (NE.out k hv).2
      · rw [h]; exact .inr hk
    · first | exact Chg.setCell (ad := ⟨q, 0, none⟩) C9.out (.inl rfl) _ | exact (Chg.setCell (ad := ⟨q, 0, none⟩) C9.out (.inl rfl) _).drew

/-- Add, whatever is there. -/
theorem add_c (s : Nat → Addr) (q R : Nat) (b : RB) (o : Od) (w : World) (hs : Sent s w) (h : BBk w q R b) (hn : b.L.length ≤ 1000) (hc : b.came ≤ 1000) :
    Calls Tryd.prog 20 #[.pointer (some ⟨q, 0, none⟩), .agg #[.int .i64 o.id, .int .i64 o.tn, .bool o.sell, .int .i64 o.price, .int .i64 o.lots, .int .i64 o.seq]] w fun e w' => e = .returned (errV s (addR13 b o).2) ∧ (∃ R', BBk w' q R' (addR13 b o).1 ∧ (R' = R ∨ w.heap.size ≤ R')) ∧ Chg q R w w' := by
  cases hg : goodO o
  · have hd : addR13 b o = (b, 1) := by unfold addR13; rw [hg]; rfl
    rw [hd]
    exact (add_no s q R b o w hs h hn 1 (.inl ⟨hg, rfl⟩)).mono fun e w' ⟨he, hb⟩ => ⟨he, ⟨R, h.on hb, .inl rfl⟩, Chg.of_below hb⟩
  · by_cases hp : pos b.L o.id < b.L.length
    · have hd : addR13 b o = (b, 6) := by unfold addR13; rw [hg, if_pos rfl, if_pos hp]
      rw [hd]
      exact (add_no s q R b o w hs h hn 6 (.inr (.inl ⟨hg, hp, rfl⟩))).mono fun e w' ⟨he, hb⟩ => ⟨he, ⟨R, h.on hb, .inl rfl⟩, Chg.of_below hb⟩
    · by_cases hf : 32 ≤ b.L.length
      · have hd : addR13 b o = (b, 7) := by unfold addR13; rw [hg, if_pos rfl, if_neg hp, if_pos hf]
        rw [hd]
        exact (add_no s q R b o w hs h hn 7 (.inr (.inr ⟨hg, hp, hf, rfl⟩))).mono fun e w' ⟨he, hb⟩ => ⟨he, ⟨R, h.on hb, .inl rfl⟩, Chg.of_below hb⟩
      · have hd : addR13 b o = (⟨b.L ++ [{ o with seq := (b.came : Int) + 1 }], b.came + 1⟩, 0) := by unfold addR13; rw [hg, if_pos rfl, if_neg hp, if_neg hf]
        rw [hd]
        exact add_yes q R b o w h hg hp (by omega) hc
end Go.Proofs.YtogmlbjbjgkdcaaDoor
