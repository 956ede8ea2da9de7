/- The reference's book of stage 13 by contracts: Drop. Conditions: the book is one that the calls have made. -/
import Derived.Test.YtogmlbjbjgkdcaaDoorOdR
import Derived.IntWalk
namespace Go.Proofs.YtogmlbjbjgkdcaaDoor
open Go Go.RowKit

theorem Tryd.infoOd : (Tryd.prog.info? 40).map (fun i => (i.zero, i.size, i.bytes)) = some (some (.agg #[.int .i64 0, .int .i64 0, .bool false, .int .i64 0, .int .i64 0, .int .i64 0]), 6, 48) := by kernel_rfl
theorem Tryd.sizeOd (W : World) : (sizeOf 40).run Tryd.prog W = .ok 6 W := by kernel_rfl
/-- An order in a block of its own. -/
def OdB (w : World) (g : Nat) (x : Od) : Prop := w.heap[g]? = some (.cells #[.int .i64 x.id, .int .i64 x.tn, .bool x.sell, .int .i64 x.price, .int .i64 x.lots, .int .i64 x.seq] 40 (0, 0))
theorem OdB.cells {w : World} {g : Nat} {x : Od} (h : OdB w g x) : w.cell? ⟨g, 0, none⟩ = some (.int .i64 x.id) ∧ w.cell? ⟨g, 1, none⟩ = some (.int .i64 x.tn) ∧ w.cell? ⟨g, 2, none⟩ = some (.bool x.sell) ∧ w.cell? ⟨g, 3, none⟩ = some (.int .i64 x.price) ∧ w.cell? ⟨g, 4, none⟩ = some (.int .i64 x.lots) ∧ w.cell? ⟨g, 5, none⟩ = some (.int .i64 x.seq) ∧ (∀ j, w.frozen? ⟨g, j, none⟩ = false) ∧ g < w.heap.size :=
  ⟨cell_of_heap h 0, cell_of_heap h 1, cell_of_heap h 2, cell_of_heap h 3, cell_of_heap h 4, cell_of_heap h 5, fun j => frozen_of_heap h j, lt_of_row h⟩
theorem heap_atE {W : World} {g : Nat} (hg : g = W.heap.size) (o : Obj) : (W.alloc o).heap[g]? = some o := by subst hg; exact heap_alloc_new W o
theorem OdB.on {w w' : World} {g : Nat} {x : Od} (h : OdB w g x) (hb : Below w.heap.size w w') : OdB w' g x := (hb.block g (lt_of_row h)).trans h

set_option maxRecDepth 100000 in
set_option maxHeartbeats 1600000 in
theorem rdrop13_none (q R : Nat) (b : RB) (id : Int) (w : World) (h : RBk w q R b) (hn : b.L.length ≤ 1000) (hp : posI b.L id = -1) :
    Calls Tryd.prog 39 #[.pointer (some ⟨q, 0, none⟩), .int .i64 id] w fun e w' => e = .returned (.tuple #[.agg #[.int .i64 od0.id, .int .i64 od0.tn, .bool od0.sell, .int .i64 od0.price, .int .i64 od0.lots, .int .i64 od0.seq], .int .i64 5]) ∧ Below w.heap.size w w' := by
  have HA := Lib.hid (fun W (hW : RBk W q R b) => rat13_c q R b id W hW hn)
  rw [hp] at HA
  have H1 := Lib.hid (h.on ((Below.refl w.heap.size w).alloc (Nat.le_refl _) (.cells #[.int .i64 0, .int .i64 0, .bool false, .int .i64 0, .int .i64 0, .int .i64 0] 40)))
  clear h hp
  go_enter Tryd.func39, Tryd.ntmps39
  go_wp2_with fail
  refine (HA.out _ H1.out).mono ?_
  rintro e w1 ⟨rfl, rfl⟩
  go_wp2_with fail
  exact bodyPost_ret (v := .tuple #[.agg #[.int .i64 0, .int .i64 0, .bool false, .int .i64 0, .int .i64 0, .int .i64 0], .int .i64 5]) (by simp [results, Tryd.results39, go_sem]) rfl ⟨rfl, by (repeat' (first | (with_reducible exact Below.refl _ _) | (with_reducible refine below_drewN ?_ _) | (with_reducible refine Below.drew ?_) | (with_reducible refine Below.alloc ?_ ?_ _) | (with_reducible refine Below.setCell ?_ ?_ _) | (with_reducible refine Below.trans ?_ (Below.mono (by with_reducible assumption) ?_)) | omega | (simp only [World.size_alloc, World.size_setCell, World.size_drew, Go.Proofs.YtogmlbjbjgkdcaaDoor.World.size_drewN] at *; omega) | (with_reducible refine Below.size (B := 0) ?_)))⟩

set_option maxRecDepth 100000 in
set_option maxHeartbeats 1600000 in
theorem rdrop13_some (q R : Nat) (b : RB) (id : Int) (w : World) (h : RBk w q R b) (hn : b.L.length ≤ 1000) (i : Nat) (x : Od) (hp : posI b.L id = (i : Nat)) (hx : b.L[i]? = some x) :
    Calls Tryd.prog 39 #[.pointer (some ⟨q, 0, none⟩), .int .i64 id] w fun e w' => e = .returned (.tuple #[.agg #[.int .i64 x.id, .int .i64 x.tn, .bool x.sell, .int .i64 x.price, .int .i64 x.lots, .int .i64 x.seq], .int .i64 0]) ∧ (∃ R', RBk w' q R' ⟨b.L.take i ++ b.L.drop (i + 1), b.came⟩ ∧ w.heap.size ≤ R') ∧ Chg q q w w' := by
  have HA := Lib.hid (fun W (hW : RBk W q R b) => rat13_c q R b id W hW hn)
  rw [hp] at HA
  have hil := (List.getElem?_eq_some_iff.1 hx).1
  have H1 := Lib.hid (h.on ((Below.refl w.heap.size w).alloc (Nat.le_refl _) (.cells #[.int .i64 0, .int .i64 0, .bool false, .int .i64 0, .int .i64 0, .int .i64 0] 40)))
  have hq := h.lt
  clear h hp
  go_enter Tryd.func39, Tryd.ntmps39
  go_wp2_with fail
  refine (HA.out _ H1.out).mono ?_
  rintro e w1 ⟨rfl, rfl⟩
  obtain ⟨A, c, c0, c1, cf, cx⟩ := H1.out.cells
  obtain ⟨ad, rfl, ea, rf, x0, x1, x2, x3, x4, x5⟩ := cx i x hx
  clear cx
  have hi0 : (0 : Int) ≤ (i : Int) := by omega
  have hi1 : (i : Int) < (b.L.length : Int) := by omega
  obtain ⟨hq0, hR0, hqR⟩ := hq
  have hq1 : q < w.heap.size + 1 := by omega
  have hq2 : q < w.heap.size + 1 + 1 := by omega
  have hR1 : R < w.heap.size + 1 := by omega
  have hR2 : R < w.heap.size + 1 + 1 := by omega
  have OB := Lib.hid H1.out
  obtain ⟨v, b1, b2, b3⟩ := H1.out
  obtain ⟨X1, hX1, lX1⟩ := b2.lies.upto Tryd.underlying27 Tryd.sizeOd .i64 (i : Int) i rfl (by omega)
  obtain ⟨X2, hX2, lX2⟩ := b2.lies.from Tryd.underlying27 Tryd.sizeOd .i64 ((i : Int) + 1) (i + 1) (by omega) (by omega)
  obtain rfl : v = .slice (some ad) b.L.length c := by
    have := (cell_of_heap b1 0).symm.trans c0
    simpa using this
  have hwr : IntKind.i64.wrap ((i : Int) + 1) = (i : Int) + 1 := IntWalk.i64_in _ (by omega)
  have HL1 := Lib.hid lX1
  have HL2 := Lib.hid lX2
  have HB2 := Lib.hid b2
  clear lX1 lX2 b2 b3 H1 HA OB
  obtain ⟨i0, hi, hz0, hz1, hz2⟩ := info_parts Tryd.infoOd
  have A1 : Hid (OwnE encOd 40 (((w.alloc (.cells #[.int .i64 0, .int .i64 0, .bool false, .int .i64 0, .int .i64 0, .int .i64 0] 40)).alloc (.cells #[.int .i64 x.id, .int .i64 x.tn, .bool x.sell, .int .i64 x.price, .int .i64 x.lots, .int .i64 x.seq] 40)).alloc (.cells #[] 40)) w.heap.size (.slice (some ⟨w.heap.size + 1 + 1, 0, none⟩) 0 0) []) := Lib.hid (by
    have h := OwnE.none (E := encOd) (e := 40) ((w.alloc (.cells #[.int .i64 0, .int .i64 0, .bool false, .int .i64 0, .int .i64 0, .int .i64 0] 40)).alloc (.cells #[.int .i64 x.id, .int .i64 x.tn, .bool x.sell, .int .i64 x.price, .int .i64 x.lots, .int .i64 x.seq] 40)) (base := w.heap.size) (by simp only [World.size_alloc]; omega)
    simpa only [World.size_alloc] using h)
  have A2 : Hid (LiesE encOd (((w.alloc (.cells #[.int .i64 0, .int .i64 0, .bool false, .int .i64 0, .int .i64 0, .int .i64 0] 40)).alloc (.cells #[.int .i64 x.id, .int .i64 x.tn, .bool x.sell, .int .i64 x.price, .int .i64 x.lots, .int .i64 x.seq] 40)).alloc (.cells #[] 40)) X1 (b.L.take i)) := Lib.hid (HL1.out.onB (by (repeat' (first | (with_reducible exact Below.refl _ _) | (with_reducible refine below_drewN ?_ _) | (with_reducible refine Below.drew ?_) | (with_reducible refine Below.alloc ?_ ?_ _) | (with_reducible refine Below.setCell ?_ ?_ _) | (with_reducible refine Below.trans ?_ (Below.mono (by with_reducible assumption) ?_)) | omega | (simp only [World.size_alloc] at *; omega) | (with_reducible refine Below.size (B := 0) ?_)))))
  have A3 : Hid (([] : List Od).length + (b.L.take i).length ≤ maxLen) := Lib.hid (by simp only [List.length_take, List.length_nil, maxLen]; omega)
  have A4 : Hid ((([] : List Od).length + (b.L.take i).length) * 48 ≤ 140737488355328) := Lib.hid (by simp only [List.length_take, List.length_nil]; omega)
  have A5 : Hid (w.heap.size ≤ (((w.alloc (.cells #[.int .i64 0, .int .i64 0, .bool false, .int .i64 0, .int .i64 0, .int .i64 0] 40)).alloc (.cells #[.int .i64 x.id, .int .i64 x.tn, .bool x.sell, .int .i64 x.price, .int .i64 x.lots, .int .i64 x.seq] 40)).alloc (.cells #[] 40)).heap.size) := Lib.hid (by simp only [World.size_alloc]; omega)
  clear HL1
  go_wp2_with (first
    | (at_builtin
       refine wpList_append_E rfl _ _ 27 rfl i0 _ 48 Tryd.underlying27 hi hz0 hz1 hz2 rfl (by decide) rfl A1.out rfl A2.out A3.out A4.out A5.out ?_
       intro v1 w4 own4 gr4 lo4
       clear hX1 A1 A2 A3 A4 A5 c0 c1 cf rf x0 x1 x2 x3 x4 x5 ea
       have hB4 : Below (w.heap.size + 1 + 1) ((w.alloc (.cells #[.int .i64 0, .int .i64 0, .bool false, .int .i64 0, .int .i64 0, .int .i64 0] 40)).alloc (.cells #[.int .i64 x.id, .int .i64 x.tn, .bool x.sell, .int .i64 x.price, .int .i64 x.lots, .int .i64 x.seq] 40)) w4 := (Below.alloc (Below.refl _ _) (by simp only [World.size_alloc]; omega) _).grown gr4 (by simp only [World.size_alloc]; omega) (fun k hk => by cases hk; exact Nat.le_refl _)
       have hB1 : Below (w.heap.size + 1) (w.alloc (.cells #[.int .i64 0, .int .i64 0, .bool false, .int .i64 0, .int .i64 0, .int .i64 0] 40)) w4 := ((Below.refl _ _).alloc (by simp only [World.size_alloc]; omega) _).trans (hB4.mono (by omega))
       have hB0 : Below w.heap.size w w4 := ((Below.refl _ _).alloc (Nat.le_refl _) _).trans (hB1.mono (by omega))
       have hz4 := hB4.size
       simp only [World.size_alloc] at hz4
       have qb : w4.heap[q]? = some (.cells #[.slice (some ad) b.L.length c, .int .i64 (b.came : Int)] 29 (0, 0)) := (hB1.block q (by omega)).trans b1
       have xb : OdB w4 (w.heap.size + 1) x := (hB4.block (w.heap.size + 1) (by omega)).trans (heap_atE (by simp only [World.size_alloc]) _)
       have zb : OdB w4 w.heap.size od0 := (hB1.block w.heap.size (by omega)).trans (heap_alloc_new w _)
       have c0 := cell_of_heap qb 0
       have cf : ∀ j, w4.frozen? ⟨q, j, none⟩ = false := fun j => frozen_of_heap qb j
       have A2 : Hid (LiesE encOd w4 X2 (b.L.drop (i + 1))) := Lib.hid (HL2.out.onB (by simpa only [World.size_alloc] using hB1))
       have A3 : Hid (([] ++ b.L.take i).length + (b.L.drop (i + 1)).length ≤ maxLen) := Lib.hid (by simp only [List.length_take, List.length_drop, List.nil_append, maxLen]; omega)
       have A4 : Hid ((([] ++ b.L.take i).length + (b.L.drop (i + 1)).length) * 48 ≤ 140737488355328) := Lib.hid (by simp only [List.length_take, List.length_drop, List.nil_append]; omega)
       have A5 : Hid (w.heap.size ≤ w4.heap.size) := Lib.hid hB0.size
       have K0 := Lib.hid hB0
       have K1 := Lib.hid qb
       have K2 := Lib.hid xb
       have K3 := Lib.hid zb
       have G4 := Lib.hid gr4
       have O4 := Lib.hid own4
       have L4 : Hid (v1.ownBlock = some (w.heap.size + 1 + 1) ∨ v1.ownBlock = some (w.heap.size + 1 + 1 + 1)) := Lib.hid (by
         rcases lo4 with h | h
         · exact .inl h
         · exact .inr (h.trans (by simp only [World.size_alloc])))
       clear hB0 hB1 hB4 qb xb zb gr4 own4 lo4 HL2 HB2 b1)
    | (at_builtin
       refine wpList_append_E rfl _ _ 27 rfl i0 _ 48 Tryd.underlying27 hi hz0 hz1 hz2 rfl (by decide) rfl O4.out rfl A2.out A3.out A4.out A5.out ?_
       intro v2 w5 own5 gr5 lo5
       clear hX2 A2 A3 A4 A5 c0 cf
       obtain ⟨Au, cu, rfl⟩ := own5.form
       have hr5 : ∀ k, v1.ownBlock = some k → w.heap.size + 1 + 1 ≤ k := fun k hk => by
         rcases L4.out with h | h <;> rw [h] at hk <;> cases hk <;> omega
       have hB5 : Below (w.heap.size + 1 + 1) w4 w5 := (Below.refl _ _).grown gr5 (by omega) hr5
       have K11 := Lib.hid ((hB5.block q (by omega)).trans K1.out)
       have K22 : Hid (OdB w5 (w.heap.size + 1) x) := Lib.hid ((hB5.block (w.heap.size + 1) (by omega)).trans K2.out)
       have K33 : Hid (OdB w5 w.heap.size od0) := Lib.hid ((hB5.block w.heap.size (by omega)).trans K3.out)
       have KB := Lib.hid (K0.out.trans (hB5.mono (by omega)))
       have O5 := Lib.hid own5
       have LS : Hid (∃ k, (Value.slice Au ([] ++ List.take i b.L ++ List.drop (i + 1) b.L).length cu).ownBlock = some k ∧ w.heap.size + 1 + 1 ≤ k) := Lib.hid (by
         rcases (show (Value.slice Au ([] ++ List.take i b.L ++ List.drop (i + 1) b.L).length cu).ownBlock = v1.ownBlock ∨ (Value.slice Au ([] ++ List.take i b.L ++ List.drop (i + 1) b.L).length cu).ownBlock = some w4.heap.size from lo5) with h | h
         · rcases L4.out with h' | h'
           · exact ⟨_, h.trans h', by omega⟩
           · exact ⟨_, h.trans h', by omega⟩
         · exact ⟨_, h, by omega⟩)
       have c0 := cell_of_heap K11.out 0
       have cf : ∀ j, w5.frozen? ⟨q, j, none⟩ = false := fun j => frozen_of_heap K11.out j
       obtain ⟨p0, p1, p2, p3, p4, p5, pf, pl⟩ := K22.out.cells
       obtain ⟨z0, z1, z2, z3, z4, z5, zf, zl⟩ := K33.out.cells
       have n1 : ¬ (q = w.heap.size + 1) := by omega
       have n2 : ¬ (w.heap.size + 1 = q) := by omega
       have n3 : ¬ (q = w.heap.size) := by omega
       have n4 : ¬ (w.heap.size = q) := by omega
       clear hr5 hB5 K0 K1 K2 K3 own5 lo5 gr5 G4 O4 L4))
  refine bodyPost_ret (v := .tuple #[.agg #[.int .i64 x.id, .int .i64 x.tn, .bool x.sell, .int .i64 x.price, .int .i64 x.lots, .int .i64 x.seq], .int .i64 0]) (by simp [results, Tryd.results39, go_sem, z0, z1, z2, z3, z4, z5]) rfl ⟨rfl, ?_, ?_⟩
  · obtain ⟨k, hk, hk2⟩ := LS.out
    have hlen : min i b.L.length + (b.L.length - (i + 1)) = ([] ++ List.take i b.L ++ List.drop (i + 1) b.L).length := by simp
    rw [hlen]
    refine ⟨k, ⟨_, ?_, (OwnE.same (by have h := O5.out.base (base' := q + 1) (by omega); rw [List.nil_append] at h; exact h) ?_), by rw [List.nil_append] at hk; rw [hk]; rfl⟩, by omega⟩
    · rw [heap_setCell_other _ _ _ _ n3, heap_setCell_other _ _ _ _ n3, heap_setCell_other _ _ _ _ n3, heap_setCell_other _ _ _ _ n3, heap_setCell_other _ _ _ _ n3, heap_setCell_other _ _ _ _ n3, heap_setCell_same _ _ _ _ _ _ K11.out]
      rfl
    · intro k' hk'
      rw [List.nil_append] at hk
      obtain rfl := Option.some.inj (hk.symm.trans hk')
      have n5 : k ≠ w.heap.size := by omega
      have n6 : k ≠ q := by omega
      rw [heap_setCell_other _ _ _ _ n5, heap_setCell_other _ _ _ _ n5, heap_setCell_other _ _ _ _ n5, heap_setCell_other _ _ _ _ n5, heap_setCell_other _ _ _ _ n5, heap_setCell_other _ _ _ _ n5, heap_setCell_other _ _ _ _ n6]
  · have hC : Chg q q w w5 := Chg.of_below KB.out
    exact (((((((hC.setCell (.inl rfl) _).setCell (.inr (.inr (Nat.le_refl _))) _).setCell (.inr (.inr (Nat.le_refl _))) _).setCell (.inr (.inr (Nat.le_refl _))) _).setCell (.inr (.inr (Nat.le_refl _))) _).setCell (.inr (.inr (Nat.le_refl _))) _).setCell (.inr (.inr (Nat.le_refl _))) _)

theorem Chg.wide {p q : Nat} {w w' : World} (h : Chg p p w w') : Chg p q w w' := ⟨h.os, h.tape, h.output, h.size, fun k hk h1 _ => h.block k hk h1 h1⟩
/-- Drop, whatever is there. -/
theorem rdrop13_c (q R : Nat) (b : RB) (id : Int) (w : World) (h : RBk w q R b) (hn : b.L.length ≤ 1000) :
    Calls Tryd.prog 39 #[.pointer (some ⟨q, 0, none⟩), .int .i64 id] w fun e w' => e = .returned (.tuple #[.agg #[.int .i64 ((dropR13 b id).2.1).id, .int .i64 ((dropR13 b id).2.1).tn, .bool ((dropR13 b id).2.1).sell, .int .i64 ((dropR13 b id).2.1).price, .int .i64 ((dropR13 b id).2.1).lots, .int .i64 ((dropR13 b id).2.1).seq], .int .i64 ((dropR13 b id).2.2 : Nat)]) ∧ (∃ R', RBk w' q R' (dropR13 b id).1 ∧ (R' = R ∨ w.heap.size ≤ R')) ∧ Chg q R w w' := by
  rcases posI_cases b.L id with ⟨i, x, h1, h2, h3, h4⟩ | ⟨h1, h2⟩
  · have hd : dropR13 b id = (⟨b.L.take i ++ b.L.drop (i + 1), b.came⟩, x, 0) := by unfold dropR13; rw [h2, h3]
    rw [hd]
    exact (rdrop13_some q R b id w h hn i x h1 h3).mono fun e w' ⟨he, ⟨R', hR, hl⟩, hc⟩ => ⟨he, ⟨R', hR, .inr hl⟩, hc.wide⟩
  · have hd : dropR13 b id = (b, od0, 5) := by unfold dropR13; rw [h2, List.getElem?_eq_none (Nat.le_refl _)]
    rw [hd]
    exact (rdrop13_none q R b id w h hn h1).mono fun e w' ⟨he, hb⟩ => ⟨he, ⟨R, h.on hb, .inl rfl⟩, (Chg.of_below hb)⟩
end Go.Proofs.YtogmlbjbjgkdcaaDoor
