/- The contracts of grant's Give, Unhold, Keys and Expire. Conditions: the book lies in memory as its map has it; the sentinels lie where the program's text lays them. -/
import Derived.Test.YtpgioihmaodlcaaDoorGrG
import Derived.Deep.DeepCutAuto
import Derived.Deep.CutBlock
namespace Go.Proofs.YtpgioihmaodlcaaDoor
open Go Go.RowKit Go.Maps Go.Sort

theorem LkS.drewN {w0 : World} {X q b : Nat} {T : Grs} {k v : V4} {W : World} (h : LkS w0 X q b T k v W) (n : Nat) : LkS w0 X q b T k v (W.drewN n) := h.on (below_drewN (Below.refl _ _) n)
theorem LkS.alloc {w0 : World} {X q b : Nat} {T : Grs} {k v : V4} {W : World} (h : LkS w0 X q b T k v W) (o : Obj) : LkS w0 X q b T k v (W.alloc o) := h.on ((Below.refl _ _).alloc (Nat.le_refl _) o)
theorem LkS.size {w0 : World} {X q b : Nat} {T : Grs} {k v : V4} {W : World} (h : LkS w0 X q b T k v W) : X + 2 ≤ W.heap.size := lt_of_row h.vec
theorem LkS.setCell {w0 : World} {X q b : Nat} {T : Grs} {k v : V4} {W : World} (h : LkS w0 X q b T k v W) (h0 : w0.heap.size ≤ X) (hq : q < X) (hb : b < X) {p : Addr} (hp : X + 2 ≤ p.block) (u : Value) : LkS w0 X q b T k v (W.setCell p u) where
  book := ⟨(Below.heap_setCell W p u q (by omega)).trans h.book.box, h.book.map.same (Below.heap_setCell W p u b (by omega)), h.book.solid⟩
  key := (Below.heap_setCell W p u X (by omega)).trans h.key
  vec := h.vec.far (by omega) u
  below := h.below.setCell (by omega) u
theorem LkS.cells {w0 : World} {X q b : Nat} {T : Grs} {k v : V4} {W : World} (h : LkS w0 X q b T k v W) : W.cell? ⟨q, 0, none⟩ = some (.map (some b)) ∧ W.cell? ⟨X, 1, none⟩ = some (.int .i64 k.b) ∧ W.cell? ⟨X, 2, none⟩ = some (.int .i64 k.c) ∧ W.cell? ⟨X, 3, none⟩ = some (.int .i64 k.d) ∧
    W.cell? ⟨X + 1, 0, none⟩ = some (.int .i64 v.a) ∧ W.cell? ⟨X + 1, 1, none⟩ = some (.int .i64 v.b) ∧ W.cell? ⟨X + 1, 2, none⟩ = some (.int .i64 v.c) ∧ W.cell? ⟨X + 1, 3, none⟩ = some (.int .i64 v.d) := by
  obtain ⟨k0, k1, k2, k3⟩ := h.key.cells
  obtain ⟨v0, v1, v2, v3⟩ := vb_cells h.vec
  exact ⟨cell_of_heap h.book.box 0, k1, k2, k3, v0, v1, v2, v3⟩
theorem goodIss {T : Grs} (h : Solid T) (p : V4) : goodV (issV T p) = true := good_comp.2 fun r => by rw [comp_issV]; exact ⟨h.nonneg p r, h.most p r⟩

set_option maxRecDepth 100000 in
set_option maxHeartbeats 3200000 in
/-- Book.Give. -/
theorem give_c (s : Nat → Addr) (q b : Nat) (T : Grs) (k : V4) (v : V4) (w : World) (hs : Sent s w) (h : BookAt w q b T) (hk : okV k) (hn : T.length + 1 < 1000000) :
    Calls Tryd.prog 13 #[.pointer (some ⟨q, 0, none⟩), .agg #[.int .i64 k.a, .int .i64 k.b, .int .i64 k.c, .int .i64 k.d], .agg #[.int .i64 v.a, .int .i64 v.b, .int .i64 v.c, .int .i64 v.d]] w fun e w' => e = .returned (errV s (giveErr T k v)) ∧ BookAt w' q b (given T k v) ∧ Chg b b w w' := by
  have H := Lib.hid h; have HS := Lib.hid hs
  have HL := Lib.hid (LkS.made w k v h)
  have HCK := Lib.hid (fun (W : World) (hW : Below w.heap.size w W) => check_c s q v W (hs.below hW (Nat.le_refl _)))
  by_cases hg : goodV v = true
  · rw [if_pos hg, errV_zero] at HCK
    have HIS : Hid (∀ W, LkS w w.heap.size q b T k v W → Calls Tryd.prog 23 #[.map (some b), .agg #[.int .i64 k.b, .int .i64 k.c, .int .i64 k.d]] W fun e w' => e = .returned (.agg #[.int .i64 ((issV T k)).a, .int .i64 ((issV T k)).b, .int .i64 ((issV T k)).c, .int .i64 ((issV T k)).d]) ∧ LkS w w.heap.size q b T k v w' ∧ Below W.heap.size W w') := Lib.hid fun W hW => (issued_c s b T k W (HS.out.below hW.below (Nat.le_refl _)) hW.book.map hW.book.solid (by omega)).mono fun _ _ p => ⟨p.1, hW.on p.2, p.2⟩
    have HAD : Hid (∀ W, LkS w w.heap.size q b T k v W → Calls Tryd.prog 28 #[.agg #[.int .i64 ((issV T k)).a, .int .i64 ((issV T k)).b, .int .i64 ((issV T k)).c, .int .i64 ((issV T k)).d], .agg #[.int .i64 v.a, .int .i64 v.b, .int .i64 v.c, .int .i64 v.d]] W fun e w' => e = .returned (.tuple #[.agg #[.int .i64 ((addR (issV T k) v).1).a, .int .i64 ((addR (issV T k) v).1).b, .int .i64 ((addR (issV T k) v).1).c, .int .i64 ((addR (issV T k) v).1).d], errV s (addR (issV T k) v).2]) ∧ LkS w w.heap.size q b T k v w' ∧ Below W.heap.size W w') := Lib.hid fun W hW => (add_c s (issV T k) v W (HS.out.below hW.below (Nat.le_refl _))).mono fun _ _ p => ⟨p.1, hW.on p.2, p.2⟩
    have hgi := goodIss h.solid k
    by_cases ho : goodV (pv (issV T k) v) = true
    · have hm : giveErr T k v = 0 := by unfold giveErr; rw [if_pos hg, if_pos ho]
      have hT : given T k v = chT T k zA (fA v) := by unfold given; rw [hm]; rfl
      have hS := h.solid.ch1 hg ho
      have hcan : CanA (acc T k) zA (fA v) := canA h.solid hS goodZ goodZ goodZ hg goodZ goodZ (fitsZ (h.solid.goodF k)) (fitsZ (h.solid.goodC k)) (fitsZ (h.solid.goodH k))
      have HCH : Hid (∀ W, Sent s W → GrsAt W b T → Calls Tryd.prog 29 #[.map (some b), .agg #[.int .i64 k.a, .int .i64 k.b, .int .i64 k.c, .int .i64 k.d], .agg #[.int .i64 0, .int .i64 0, .int .i64 0, .int .i64 0, .int .i64 0, .int .i64 0, .int .i64 0, .int .i64 0, .int .i64 0, .int .i64 0, .int .i64 0, .int .i64 0], .agg #[.int .i64 v.a, .int .i64 v.b, .int .i64 v.c, .int .i64 v.d, .int .i64 0, .int .i64 0, .int .i64 0, .int .i64 0, .int .i64 0, .int .i64 0, .int .i64 0, .int .i64 0]] W fun e w' => e = .returned (.tuple #[]) ∧ GrsAt w' b (chT T k zA (fA v)) ∧ Chg b b W w') := Lib.hid fun W hW hM => change_c s b T k zA (fA v) W hW hM hk (by omega) hcan
      have HSO := Lib.hid hS
      rw [add_ok2 hgi hg ho] at HAD
      rw [errV_zero] at HAD
      rw [hm, hT, errV_zero]
      obtain ⟨R, hR⟩ : ∃ R, issV T k = R := ⟨_, rfl⟩
      obtain ⟨R2, hR2⟩ : ∃ R2, pv R v = R2 := ⟨_, rfl⟩
      rw [hR] at HIS HAD
      rw [hR2] at HAD
      clear h hs hk hg hgi ho hm hT hS hcan hR hR2 hn
      go_enter Tryd.func13, Tryd.ntmps13
      go_wp2_with fail
      have HB1 := Lib.hid HL.out.below
      refine (HCK.out _ HB1.out).mono ?_
      rintro e w1 ⟨rfl, hb1⟩
      have hl1 := HL.out.on (hb1.mono (Nat.le_refl _))
      obtain ⟨X, hX⟩ : ∃ X, w.heap.size = X := ⟨_, rfl⟩
      have HBX : Hid (b < X) := Lib.hid (by rw [← hX]; exact H.out.map.lt)
      have HQ : Hid (q < X) := Lib.hid (by rw [← hX]; exact H.out.lt)
      have H0 : Hid (w.heap.size ≤ X) := Lib.hid (by rw [hX]; exact Nat.le_refl _)
      rw [hX] at hl1 HIS HAD ⊢
      have HX := Lib.hid hX
      have HL1 := Lib.hid hl1
      obtain ⟨c0, c1, c2, c3⟩ := hl1.key.cells
      obtain ⟨v0, v1, v2, v3⟩ := vb_cells hl1.vec
      have z1 := hl1.size
      clear hb1 hl1 hX HL HB1
      go_upto_region 4 with fail
      clear c0 c1 c2 c3 v0 v1 v2 v3
      go_cut [9] (fun E wx => E = .nilIface ∧ LkS w X q b T k v wx)
      case first =>
        have HSS : Hid (∀ W, LkS w X q b T k v W → W.cell? ⟨q, 0, none⟩ = some (.map (some b)) ∧ W.cell? ⟨X, 1, none⟩ = some (.int .i64 k.b) ∧ W.cell? ⟨X, 2, none⟩ = some (.int .i64 k.c) ∧ W.cell? ⟨X, 3, none⟩ = some (.int .i64 k.d) ∧ W.cell? ⟨X + 1, 0, none⟩ = some (.int .i64 v.a) ∧ W.cell? ⟨X + 1, 1, none⟩ = some (.int .i64 v.b) ∧ W.cell? ⟨X + 1, 2, none⟩ = some (.int .i64 v.c) ∧ W.cell? ⟨X + 1, 3, none⟩ = some (.int .i64 v.d)) := Lib.hid fun W hW => hW.cells
        go_region_held3 (fun W => W.cell? ⟨q, 0, none⟩ = some (.map (some b)) ∧ W.cell? ⟨X, 1, none⟩ = some (.int .i64 k.b) ∧ W.cell? ⟨X, 2, none⟩ = some (.int .i64 k.c) ∧ W.cell? ⟨X, 3, none⟩ = some (.int .i64 k.d) ∧ W.cell? ⟨X + 1, 0, none⟩ = some (.int .i64 v.a) ∧ W.cell? ⟨X + 1, 1, none⟩ = some (.int .i64 v.b) ∧ W.cell? ⟨X + 1, 2, none⟩ = some (.int .i64 v.c) ∧ W.cell? ⟨X + 1, 3, none⟩ = some (.int .i64 v.d))
          ((refine HSS.out _ ?_; (repeat' (first | (with_reducible assumption) | (with_reducible exact Hid.out (by with_reducible assumption)) | (with_reducible refine LkS.drewN ?_ _) | (with_reducible refine LkS.drew ?_) | (with_reducible refine LkS.alloc ?_ _) | (with_reducible refine LkS.setCell ?_ H0.out HQ.out HBX.out (by omega) _))); done))
          (first
            | (go_at_call 23; (with_reducible refine (HIS.out _ (by (repeat' (first | (with_reducible assumption) | (with_reducible exact Hid.out (by with_reducible assumption)) | (with_reducible refine LkS.drewN ?_ _) | (with_reducible refine LkS.drew ?_) | (with_reducible refine LkS.alloc ?_ _) | (with_reducible refine LkS.setCell ?_ H0.out HQ.out HBX.out (by simp only [World.size_alloc, World.size_drew]; omega) _))))).mono ?_); rintro e w5 ⟨rfl, l5, b5⟩; obtain ⟨hc5, hf5⟩ := bcell b5; have y5 := b5.size; try simp only [World.size_alloc, World.size_drew] at y5; clear b5; have z5 := l5.size; try (have x5 : w1.heap.size < w5.heap.size := by omega))
            | (go_at_call 28; (with_reducible refine (HAD.out _ (by (repeat' (first | (with_reducible assumption) | (with_reducible exact Hid.out (by with_reducible assumption)) | (with_reducible refine LkS.drewN ?_ _) | (with_reducible refine LkS.drew ?_) | (with_reducible refine LkS.alloc ?_ _) | (with_reducible refine LkS.setCell ?_ H0.out HQ.out HBX.out (by simp only [World.size_alloc]; omega) _))))).mono ?_); rintro e w6 ⟨rfl, l6, b6⟩; obtain ⟨hc6, hf6⟩ := bcell b6; have y6 := b6.size; try simp only [World.size_alloc] at y6; clear b6; have z6 := l6.size; try (have x6 : w5.heap.size < w6.heap.size := by omega); try (have x7 : w1.heap.size < w6.heap.size := by omega)))
        all_goals go_wp2_with fail
        all_goals go_meet
        all_goals exact ⟨rfl, by (repeat' (first | (with_reducible assumption) | (with_reducible exact Hid.out (by with_reducible assumption)) | (with_reducible refine LkS.drewN ?_ _) | (with_reducible refine LkS.drew ?_) | (with_reducible refine LkS.alloc ?_ _) | (with_reducible refine LkS.setCell ?_ H0.out HQ.out HBX.out (by omega) _)))⟩
      case rest =>
      obtain ⟨rfl, hl5⟩ := hcut
      have HL5 := Lib.hid hl5
      clear hl5
      have HSD : Hid (Sent s wc.drew) := Lib.hid (HS.out.below (HL5.out.below.drew) (Nat.le_refl _))
      have HMD : Hid (GrsAt wc.drew b T) := Lib.hid (HL5.out.book.map.on (Below.drew (Below.refl _ _)) (Nat.le_refl _))
      have HKD : Hid (Chg b b w wc.drew) := Lib.hid (Chg.of_below HL5.out.below).drew
      have HBD : Hid (BookAt wc.drew q b T) := Lib.hid (HL5.out.book.on (Below.drew (Below.refl _ _)) (Nat.le_refl _))
      obtain ⟨c0, c1, c2, c3⟩ := HL5.out.key.cells
      obtain ⟨v0, v1, v2, v3⟩ := vb_cells HL5.out.vec
      go_wp2_with fail
      clear c0 c1 c2 c3 v0 v1 v2 v3
      refine wp_region_held_drew (S := fun W => CgS q b X k v W) (by kernel_rfl) ?_ (fun hHeld => ?_)
      · exact (HL5.out.cg HBX.out).drew
      refine rg_take 0 (some 31) _ (by kernel_rfl) (by kernel_rfl) (by kernel_rfl) (fun _ _ _ h => h) (by kernel_rfl) (by kernel_rfl) (by intro w' hSw op_ ho; have c0 := cell_of_heap hSw.box 0; obtain ⟨k0, k1, k2, k3⟩ := hSw.key.cells; obtain ⟨v0, v1, v2, v3⟩ := vb_cells hSw.vec; clear hSw; simp only [List.getElem?_toArray, List.getElem?_cons_zero, Option.some.injEq] at ho; subst ho; go_simp; with_reducible rfl) (by assumption) ?_
      try simp only [Act.put, List.setIfInBounds_toArray, List.set_cons_zero, List.set_cons_succ]
      refine rg_take 1 (some 32) _ (by kernel_rfl) (by kernel_rfl) (by kernel_rfl) (fun _ _ _ h => h) (by kernel_rfl) (by kernel_rfl) (by intro w' hSw op_ ho; have c0 := cell_of_heap hSw.box 0; obtain ⟨k0, k1, k2, k3⟩ := hSw.key.cells; obtain ⟨v0, v1, v2, v3⟩ := vb_cells hSw.vec; clear hSw; simp only [List.getElem?_toArray, List.getElem?_cons_succ, List.getElem?_cons_zero, Option.some.injEq] at ho; subst ho; go_simp; with_reducible rfl) (by assumption) ?_
      try simp only [Act.put, List.setIfInBounds_toArray, List.set_cons_zero, List.set_cons_succ]
      refine rg_take 2 (some 33) _ (by kernel_rfl) (by kernel_rfl) (by kernel_rfl) (fun _ _ _ h => h) (by kernel_rfl) (by kernel_rfl) (by intro w' hSw op_ ho; have c0 := cell_of_heap hSw.box 0; obtain ⟨k0, k1, k2, k3⟩ := hSw.key.cells; obtain ⟨v0, v1, v2, v3⟩ := vb_cells hSw.vec; clear hSw; simp only [List.getElem?_toArray, List.getElem?_cons_succ, List.getElem?_cons_zero, Option.some.injEq] at ho; subst ho; go_simp; with_reducible rfl) (by assumption) ?_
      try simp only [Act.put, List.setIfInBounds_toArray, List.set_cons_zero, List.set_cons_succ]
      refine rg_take 3 (some 34) _ (by kernel_rfl) (by kernel_rfl) (by kernel_rfl) (fun _ _ _ h => h) (by kernel_rfl) (by kernel_rfl) (by intro w' hSw op_ ho; have c0 := cell_of_heap hSw.box 0; obtain ⟨k0, k1, k2, k3⟩ := hSw.key.cells; obtain ⟨v0, v1, v2, v3⟩ := vb_cells hSw.vec; clear hSw; simp only [List.getElem?_toArray, List.getElem?_cons_succ, List.getElem?_cons_zero, Option.some.injEq] at ho; subst ho; go_simp; with_reducible rfl) (by assumption) ?_
      try simp only [Act.put, List.setIfInBounds_toArray, List.set_cons_zero, List.set_cons_succ]
      refine rg_take 4 (some 35) _ (by kernel_rfl) (by kernel_rfl) (by kernel_rfl) (fun _ _ _ h => h) (by kernel_rfl) (by kernel_rfl) (by intro w' hSw op_ ho; have c0 := cell_of_heap hSw.box 0; obtain ⟨k0, k1, k2, k3⟩ := hSw.key.cells; obtain ⟨v0, v1, v2, v3⟩ := vb_cells hSw.vec; clear hSw; simp only [List.getElem?_toArray, List.getElem?_cons_succ, List.getElem?_cons_zero, Option.some.injEq] at ho; subst ho; go_simp; with_reducible rfl) (by assumption) ?_
      try simp only [Act.put, List.setIfInBounds_toArray, List.set_cons_zero, List.set_cons_succ]
      refine rg_take 5 (some 36) _ (by kernel_rfl) (by kernel_rfl) (by kernel_rfl) (fun _ _ _ h => h) (by kernel_rfl) (by kernel_rfl) (by intro w' hSw op_ ho; have c0 := cell_of_heap hSw.box 0; obtain ⟨k0, k1, k2, k3⟩ := hSw.key.cells; obtain ⟨v0, v1, v2, v3⟩ := vb_cells hSw.vec; clear hSw; simp only [List.getElem?_toArray, List.getElem?_cons_succ, List.getElem?_cons_zero, Option.some.injEq] at ho; subst ho; go_simp; with_reducible rfl) (by assumption) ?_
      try simp only [Act.put, List.setIfInBounds_toArray, List.set_cons_zero, List.set_cons_succ]
      refine rg_take 6 (some 37) _ (by kernel_rfl) (by kernel_rfl) (by kernel_rfl) (fun _ _ _ h => h) (by kernel_rfl) (by kernel_rfl) (by intro w' hSw op_ ho; have c0 := cell_of_heap hSw.box 0; obtain ⟨k0, k1, k2, k3⟩ := hSw.key.cells; obtain ⟨v0, v1, v2, v3⟩ := vb_cells hSw.vec; clear hSw; simp only [List.getElem?_toArray, List.getElem?_cons_succ, List.getElem?_cons_zero, Option.some.injEq] at ho; subst ho; go_simp; with_reducible rfl) (by assumption) ?_
      try simp only [Act.put, List.setIfInBounds_toArray, List.set_cons_zero, List.set_cons_succ]
      refine rg_take 7 (some 38) _ (by kernel_rfl) (by kernel_rfl) (by kernel_rfl) (fun _ _ _ h => h) (by kernel_rfl) (by kernel_rfl) (by intro w' hSw op_ ho; have c0 := cell_of_heap hSw.box 0; obtain ⟨k0, k1, k2, k3⟩ := hSw.key.cells; obtain ⟨v0, v1, v2, v3⟩ := vb_cells hSw.vec; clear hSw; simp only [List.getElem?_toArray, List.getElem?_cons_succ, List.getElem?_cons_zero, Option.some.injEq] at ho; subst ho; go_simp; with_reducible rfl) (by assumption) ?_
      try simp only [Act.put, List.setIfInBounds_toArray, List.set_cons_zero, List.set_cons_succ]
      refine rg_one 8 (by kernel_rfl) (by kernel_rfl) (fun op_ ho K hK => ?_)
      simp only [List.getElem?_toArray, List.getElem?_cons_succ, List.getElem?_cons_zero, Option.some.injEq] at ho
      subst ho
      go_simp
      go_at_call 29
      refine (HCH.out _ HSD.out HMD.out).mono ?_
      rintro e w2 ⟨rfl, mm, kk⟩
      have HM2 := Lib.hid mm
      have HK2 := Lib.hid kk
      clear mm kk
      go_wp2_with fail
      refine hK.out _ _ (CgS.chg hHeld HK2.out) (fun hHeld => ?_)
      clear hK
      try simp only [Act.put, List.setIfInBounds_toArray, List.set_cons_zero, List.set_cons_succ]
      refine wpAnyH_done (by kernel_rfl) ?_ _
      have HHEw2 := Lib.hid hHeld
      clear hHeld
      go_wp2_with fail
      go_ret
      exact ⟨rfl, HBD.out.step HK2.out HM2.out HSO.out, HKD.out.trans HK2.out (.inl rfl)⟩
    · have hm : giveErr T k v = 4 := by unfold giveErr; rw [if_pos hg, if_neg ho]
      have HT : Hid (given T k v = T) := Lib.hid (by unfold given; rw [hm]; rfl)
      have had : addR (issV T k) v = (z4, 4) := by
        rw [add_yes hgi hg]
        unfold checkR
        rw [show (⟨(issV T k).a + v.a, (issV T k).b + v.b, (issV T k).c + v.c, (issV T k).d + v.d⟩ : V4) = pv (issV T k) v from rfl, if_neg ho]; rfl
      rw [had] at HAD
      rw [show errV s (z4, 4).2 = .iface 122 (.pointer (some (s 3))) from rfl] at HAD
      rw [hm, HT.out, show errV s 4 = .iface 122 (.pointer (some (s 3))) from rfl]
      obtain ⟨R, hR⟩ : ∃ R, issV T k = R := ⟨_, rfl⟩
      obtain ⟨R2, hR2⟩ : ∃ R2, z4 = R2 := ⟨_, rfl⟩
      rw [hR] at HIS HAD
      rw [hR2] at HAD
      clear h hs hk hg hgi ho hm had hR hR2 hn
      go_enter Tryd.func13, Tryd.ntmps13
      go_wp2_with fail
      have HB1 := Lib.hid HL.out.below
      refine (HCK.out _ HB1.out).mono ?_
      rintro e w1 ⟨rfl, hb1⟩
      have hl1 := HL.out.on (hb1.mono (Nat.le_refl _))
      obtain ⟨X, hX⟩ : ∃ X, w.heap.size = X := ⟨_, rfl⟩
      have HBX : Hid (b < X) := Lib.hid (by rw [← hX]; exact H.out.map.lt)
      have HQ : Hid (q < X) := Lib.hid (by rw [← hX]; exact H.out.lt)
      have H0 : Hid (w.heap.size ≤ X) := Lib.hid (by rw [hX]; exact Nat.le_refl _)
      rw [hX] at hl1 HIS HAD ⊢
      have HX := Lib.hid hX
      have HL1 := Lib.hid hl1
      obtain ⟨c0, c1, c2, c3⟩ := hl1.key.cells
      obtain ⟨v0, v1, v2, v3⟩ := vb_cells hl1.vec
      have z1 := hl1.size
      clear hb1 hl1 hX HL HB1
      go_upto_region 4 with fail
      clear c0 c1 c2 c3 v0 v1 v2 v3
      go_cut [9] (fun E wx => E = .iface 122 (.pointer (some (s 3))) ∧ LkS w X q b T k v wx)
      case first =>
        have HSS : Hid (∀ W, LkS w X q b T k v W → W.cell? ⟨q, 0, none⟩ = some (.map (some b)) ∧ W.cell? ⟨X, 1, none⟩ = some (.int .i64 k.b) ∧ W.cell? ⟨X, 2, none⟩ = some (.int .i64 k.c) ∧ W.cell? ⟨X, 3, none⟩ = some (.int .i64 k.d) ∧ W.cell? ⟨X + 1, 0, none⟩ = some (.int .i64 v.a) ∧ W.cell? ⟨X + 1, 1, none⟩ = some (.int .i64 v.b) ∧ W.cell? ⟨X + 1, 2, none⟩ = some (.int .i64 v.c) ∧ W.cell? ⟨X + 1, 3, none⟩ = some (.int .i64 v.d)) := Lib.hid fun W hW => hW.cells
        go_region_held3 (fun W => W.cell? ⟨q, 0, none⟩ = some (.map (some b)) ∧ W.cell? ⟨X, 1, none⟩ = some (.int .i64 k.b) ∧ W.cell? ⟨X, 2, none⟩ = some (.int .i64 k.c) ∧ W.cell? ⟨X, 3, none⟩ = some (.int .i64 k.d) ∧ W.cell? ⟨X + 1, 0, none⟩ = some (.int .i64 v.a) ∧ W.cell? ⟨X + 1, 1, none⟩ = some (.int .i64 v.b) ∧ W.cell? ⟨X + 1, 2, none⟩ = some (.int .i64 v.c) ∧ W.cell? ⟨X + 1, 3, none⟩ = some (.int .i64 v.d))
          ((refine HSS.out _ ?_; (repeat' (first | (with_reducible assumption) | (with_reducible exact Hid.out (by with_reducible assumption)) | (with_reducible refine LkS.drewN ?_ _) | (with_reducible refine LkS.drew ?_) | (with_reducible refine LkS.alloc ?_ _) | (with_reducible refine LkS.setCell ?_ H0.out HQ.out HBX.out (by omega) _))); done))
          (first
            | (go_at_call 23; (with_reducible refine (HIS.out _ (by (repeat' (first | (with_reducible assumption) | (with_reducible exact Hid.out (by with_reducible assumption)) | (with_reducible refine LkS.drewN ?_ _) | (with_reducible refine LkS.drew ?_) | (with_reducible refine LkS.alloc ?_ _) | (with_reducible refine LkS.setCell ?_ H0.out HQ.out HBX.out (by simp only [World.size_alloc, World.size_drew]; omega) _))))).mono ?_); rintro e w5 ⟨rfl, l5, b5⟩; obtain ⟨hc5, hf5⟩ := bcell b5; have y5 := b5.size; try simp only [World.size_alloc, World.size_drew] at y5; clear b5; have z5 := l5.size; try (have x5 : w1.heap.size < w5.heap.size := by omega))
            | (go_at_call 28; (with_reducible refine (HAD.out _ (by (repeat' (first | (with_reducible assumption) | (with_reducible exact Hid.out (by with_reducible assumption)) | (with_reducible refine LkS.drewN ?_ _) | (with_reducible refine LkS.drew ?_) | (with_reducible refine LkS.alloc ?_ _) | (with_reducible refine LkS.setCell ?_ H0.out HQ.out HBX.out (by simp only [World.size_alloc]; omega) _))))).mono ?_); rintro e w6 ⟨rfl, l6, b6⟩; obtain ⟨hc6, hf6⟩ := bcell b6; have y6 := b6.size; try simp only [World.size_alloc] at y6; clear b6; have z6 := l6.size; try (have x6 : w5.heap.size < w6.heap.size := by omega); try (have x7 : w1.heap.size < w6.heap.size := by omega)))
        all_goals go_wp2_with fail
        all_goals go_meet
        all_goals exact ⟨rfl, by (repeat' (first | (with_reducible assumption) | (with_reducible exact Hid.out (by with_reducible assumption)) | (with_reducible refine LkS.drewN ?_ _) | (with_reducible refine LkS.drew ?_) | (with_reducible refine LkS.alloc ?_ _) | (with_reducible refine LkS.setCell ?_ H0.out HQ.out HBX.out (by omega) _)))⟩
      case rest =>
      obtain ⟨rfl, hl5⟩ := hcut
      have HL5 := Lib.hid hl5
      clear hl5
      have HB : Hid (Below w.heap.size w wc) := Lib.hid HL5.out.below
      have e3 := (HS.out.below HB.out (Nat.le_refl _)).cell 3 (by omega)
      simp only [gnum, List.getD_cons_zero, List.getD_cons_succ] at e3
      go_wp2_with fail
      go_ret
      exact ⟨rfl, H.out.grow HB.out, Chg.of_below HB.out⟩
  · have hm : giveErr T k v = 1 := by unfold giveErr; rw [if_neg hg]
    have HT : Hid (given T k v = T) := Lib.hid (by unfold given; rw [hm]; rfl)
    rw [if_neg hg, errV_one] at HCK
    rw [hm, HT.out, errV_one]
    clear h hs hk hg hm hn
    go_enter Tryd.func13, Tryd.ntmps13
    go_wp2_with fail
    have HB1 := Lib.hid HL.out.below
    refine (HCK.out _ HB1.out).mono ?_
    rintro e w1 ⟨rfl, hb1⟩
    have HB : Hid (Below w.heap.size w w1) := Lib.hid (HB1.out.trans (hb1.mono HB1.out.size))
    clear hb1
    go_wp2_with fail
    go_ret
    exact ⟨rfl, H.out.grow HB.out, Chg.of_below HB.out⟩
end Go.Proofs.YtpgioihmaodlcaaDoor
