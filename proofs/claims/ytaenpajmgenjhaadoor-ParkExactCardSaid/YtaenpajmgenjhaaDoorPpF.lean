/- The program's park by contracts: Add where nothing is in its way but the sum. Conditions: the park is one that the calls have made; the sentinels lie where the program's text lays them. -/
import Derived.Test.YtaenpajmgenjhaaDoorPpE
namespace Go.Proofs.YtaenpajmgenjhaaDoor
open Go Go.RowKit Go.Shelf

theorem McB.new_at {w : World} {g : Nat} (hg : g = w.heap.size) (x : Mc) : McB (w.alloc (.cells #[.int .i64 x.id, .int .i64 x.cell, .int .i64 x.has.a, .int .i64 x.has.b, .int .i64 x.has.c, .int .i64 x.has.d, .int .i64 x.st] 45)) g x := by rw [hg]; exact McB.new w x
theorem McB.alloc {w : World} {g : Nat} {x : Mc} (h : McB w g x) (o : Obj) : McB (w.alloc o) g x := h.below ((Below.refl w.heap.size w).alloc (Nat.le_refl _) o) (lt_of_row h)
theorem McB.drew {w : World} {g : Nat} {x : Mc} (h : McB w g x) : McB w.drew g x := h
theorem McB.on {w w' : World} {g : Nat} {x : Mc} (hb : Below w.heap.size w w') (h : McB w g x) : McB w' g x := h.below hb (lt_of_row h)
theorem lies_oneB {w : World} {g : Nat} {x : Mc} (h : McB w g x) : LiesE encMc w (.slice (some ⟨g, 0, none⟩) 1 1) [x] := lies_oneMc h
theorem Vb.drew' {w : World} {g : Nat} {x : V4} (h : Vb w g x) : Vb w.drew g x := h
theorem Vb.on' {w w' : World} {g : Nat} {x : V4} (hb : Below w.heap.size w w') (h : Vb w g x) : Vb w' g x := h.below hb (lt_of_row h)
theorem Vb.grown {w w' : World} {row : Option Nat} {g : Nat} {x : V4} (hg : w.grownBy w' row) (hr : some g ≠ row) (h : Vb w g x) : Vb w' g x := (hg.block g (lt_of_row h) hr).trans h
/-- How capacity ends, told with one pair of answers. -/
theorem capE (s : Nat → Addr) (base : Nat) (v : Value) (L : List Mc) (w : World) (hs : Sent s w) (h : OwnE encMc 45 w base v L) (hg : ∀ m ∈ L, goodV m.has = true) (hn : L.length ≤ 1000000) :
    Calls Tryd.prog 25 #[v] w fun e w' => ∃ (X : V4) (E : Value), e = .returned (.tuple #[.agg #[.int .i64 X.a, .int .i64 X.b, .int .i64 X.c, .int .i64 X.d], E]) ∧ Below w.heap.size w w' ∧ Hid ((goodV (sumV L) = true ∧ E = .nilIface) ∨ (goodV (sumV L) = false ∧ ∃ b, E = .iface 97 (.pointer (some ⟨b, 0, none⟩)))) := by
  refine (capacity_c s base v L w hs h hg hn).mono ?_
  rintro e w' ⟨hb, ⟨h1, rfl⟩ | ⟨h1, b, rfl⟩⟩
  · exact ⟨sumV L, _, rfl, hb, .inl ⟨h1, rfl⟩⟩
  · exact ⟨⟨0, 0, 0, 0⟩, _, rfl, hb, .inr ⟨h1, b, rfl⟩⟩
theorem sum_more (P : List Mc) (m : Mc) : sumV (inP P m.cell ++ [m]) = addV (liveP P m.cell true) m.has := by
  rw [sumV_snoc]
  unfold liveP inP
  congr 3
  funext x
  unfold selM
  simp

/-- A call of slices.Insert as one step of a region that draws. -/
theorem step_ins {ops : Array Oper} {o : Oper} {a : Act} {w : World} {K : Act → World → Prop} {Q : Exit → Act → World → Prop} {E : Prop} (hgd : o.guard = none) (x y z : Operand)
    (ho : o.op = .call { callee := .value (.func 26), args := #[x, y, z], argTypes := #[51, 3, 51] }) (vx vy vz : Value) (hx : a.eval x = vx) (hy : a.eval y = vy) (hz : a.eval z = vz)
    (R : Ending → World → Prop) (hc : Calls Tryd.prog 26 #[vx, vy, vz] w fun e w' => ∃ v, e = .returned v ∧ R e w')
    (h : ∀ v w', R (.returned v) w' → K (a.put o.dst v) w') :
    if Region.wanted o (yielded ops a.tmps) = true then Oper.wp Tryd.prog o a w K Q else E := by
  have hw : Region.wanted o (yielded ops a.tmps) = true := by simp [Region.wanted, hgd]
  rw [if_pos hw]
  unfold Oper.wp execOp
  simp only [ho, resolve, invoke, Sem.run_bind, List.map_toArray, List.map_cons, List.map_nil, hx, hy, hz]
  go_simp
  refine hc.mono ?_
  rintro e w5 ⟨v, rfl, hr⟩
  exact h v w5 hr

/-- How slices.Insert ends. -/
def InsPost (q : Nat) (P : List Mc) (i : Nat) (m : Mc) (v : Value) (W : World) (e : Ending) (w' : World) : Prop :=
  ∃ A' N c', e = .returned (.slice A' N c') ∧ OwnE encMc 45 w' (q + 1) (.slice A' N c') (P.take i ++ m :: P.drop i) ∧ W.grownBy w' v.ownBlock ∧ ((Value.slice A' N c').ownBlock = v.ownBlock ∨ (Value.slice A' N c').ownBlock = some W.heap.size)
/-- How Add ends where nothing is in its way but the sum. -/
def MorePost (s : Nat → Addr) (q R : Nat) (P : List Mc) (m : Mc) (w : World) (e : Ending) (w' : World) : Prop :=
  (goodV (addV (liveP P m.cell true) m.has) = false → e = .returned (errV s 4) ∧ Below w.heap.size w w') ∧
  (goodV (addV (liveP P m.cell true) m.has) = true → e = .returned .nilIface ∧ (∃ R', PPk w' q R' (insP P m) ∧ (R' = R ∨ w.heap.size ≤ R')) ∧ Chg q R w w')

set_option maxRecDepth 100000 in
set_option maxHeartbeats 6400000 in
theorem addN_more (s : Nat → Addr) (q R : Nat) (P : List Mc) (id cell : Int) (has : V4) (w : World) (hs : Sent s w) (h : PPk w q R P) (hG : GP P) (hgd : gMc ⟨id, cell, has, 0⟩ = true) (ha : (atP P id).isSome = false) (hl : P.length < 24) :
    Calls Tryd.prog 13 #[.pointer (some ⟨q, 0, none⟩), .int .i64 id, .int .i64 cell, .agg #[.int .i64 has.a, .int .i64 has.b, .int .i64 has.c, .int .i64 has.d]] w (MorePost s q R P ⟨id, cell, has, 0⟩ w) := by
  obtain ⟨W1, hW1⟩ : ∃ W1, W1 = (w.alloc (.cells #[.int .i64 has.a, .int .i64 has.b, .int .i64 has.c, .int .i64 has.d] 28)).alloc (.cells #[.int .i64 id, .int .i64 cell, .int .i64 has.a, .int .i64 has.b, .int .i64 has.c, .int .i64 has.d, .int .i64 0] 45) := ⟨_, rfl⟩
  have hb1 : Below w.heap.size w W1 := by rw [hW1]; exact ((Below.refl _ _).alloc (Nat.le_refl _) _).alloc (by simp) _
  have hz1 : W1.heap.size = w.heap.size + 2 := by rw [hW1]; simp
  have hm1 : McB W1 (w.heap.size + 1) ⟨id, cell, has, 0⟩ := by rw [hW1]; have := McB.new (w.alloc (.cells #[.int .i64 has.a, .int .i64 has.b, .int .i64 has.c, .int .i64 has.d] 28)) ⟨id, cell, has, 0⟩; simpa using this
  have hF := find_c q R P id W1 (h.on hb1) hG
  rw [ha] at hF
  have HG1 := Lib.hid (fun W => gm_c ⟨id, cell, has, 0⟩ W)
  rw [hgd] at HG1
  have hat : atP P id = none := by cases e : atP P id with | none => rfl | some y => rw [e] at ha; cases ha
  have hins := ins_at hG.ord (m := ⟨id, cell, has, 0⟩) hat
  have hile := lowI_le P id
  have HINS : Hid (P.take (lowI P id) ++ ⟨id, cell, has, 0⟩ :: P.drop (lowI P id) = insP P ⟨id, cell, has, 0⟩) := hins
  obtain ⟨g1, hg1⟩ : ∃ g1, g1 = w.heap.size + 1 := ⟨_, rfl⟩
  rw [← hg1] at hm1
  have HGD : Hid (∀ m ∈ inP P cell ++ [⟨id, cell, has, 0⟩], goodV m.has = true) := Lib.hid fun m hm => by
    rcases List.mem_append.1 hm with h1 | h1
    · exact hG.good m (List.mem_filter.1 h1).1
    · rw [List.mem_singleton] at h1
      subst h1
      unfold gMc at hgd
      simp only [Bool.and_eq_true] at hgd
      exact hgd.2.2.2.2
  have hil24 : (inP P cell).length ≤ 24 := Nat.le_trans (List.length_filter_le _ _) hG.len
  have HLN : Hid ((inP P cell ++ [(⟨id, cell, has, 0⟩ : Mc)]).length ≤ 1000000) := Lib.hid (by rw [List.length_append, List.length_singleton]; omega)
  have A3 : Hid ((inP P cell).length + [(⟨id, cell, has, 0⟩ : Mc)].length ≤ maxLen) := Lib.hid (by simp only [List.length_singleton, maxLen]; omega)
  have A4 : Hid (((inP P cell).length + [(⟨id, cell, has, 0⟩ : Mc)].length) * 56 ≤ 140737488355328) := Lib.hid (by simp only [List.length_singleton]; omega)
  obtain ⟨i0, hi0, hy0, hy1, hy2⟩ := info_parts Tryd.infoSlMc
  generalize lowI P id = i at hF hile HINS
  have HF := Lib.hid hF
  have HM1 := Lib.hid hm1
  have HS := Lib.hid hs
  have HB1 := Lib.hid hb1
  have HW1 := Lib.hid hW1
  have HP1 := Lib.hid (h.on hb1)
  have HP0 := Lib.hid h
  have HN24 : Hid (P.length < 24) := hl
  have HIL : Hid (i ≤ P.length) := hile
  have HG1E := Lib.hid hg1
  have hlz : ¬ (24 : Int) ≤ (P.length : Int) := by omega
  clear hm1 hs hb1 hW1 h hG hF hins hat hgd ha hl hile hil24 hg1
  go_enter Tryd.func13, Tryd.ntmps13
  go_upto_region 4 with fail
  rw [← HW1.out, ← HG1E.out]
  go_wp2_with fail
  refine HF.out.mono ?_
  rintro e w2 ⟨rfl, hb2⟩
  have HB2 := Lib.hid (HB1.out.trans (hb2.mono HB1.out.size))
  have HM2 := Lib.hid (HM1.out.on hb2)
  have HP2 := Lib.hid (HP1.out.on hb2)
  obtain ⟨c0, c1, c2, c3, c4, c5, c6, cf, cl⟩ := HM2.out.facts
  clear hb2
  go_wp2_with fail
  refine (HG1.out _).mono ?_
  rintro e w3 ⟨rfl, hb3⟩
  have HB3 := Lib.hid (HB2.out.trans (hb3.mono HB2.out.size))
  have HM3 := Lib.hid (HM2.out.on hb3)
  have HP3 := Lib.hid (HP2.out.on hb3)
  clear c0 c1 c2 c3 c4 c5 c6 cf cl hb3 HF HG1 HB2 HM2 HP2 HB1 HM1 HP1
  obtain ⟨A, c, a0, af, _⟩ := HP3.out.cells
  go_upto_region 11 with fail
  clear a0 af
  have HVS : Hid (∀ W, Below w3.heap.size w3 W → W.cell? ⟨g1, 0, none⟩ = some (.int .i64 id) ∧ W.cell? ⟨g1, 1, none⟩ = some (.int .i64 cell) ∧ W.cell? ⟨g1, 2, none⟩ = some (.int .i64 has.a) ∧ W.cell? ⟨g1, 3, none⟩ = some (.int .i64 has.b) ∧ W.cell? ⟨g1, 4, none⟩ = some (.int .i64 has.c) ∧ W.cell? ⟨g1, 5, none⟩ = some (.int .i64 has.d) ∧ W.cell? ⟨g1, 6, none⟩ = some (.int .i64 0) ∧ Below w3.heap.size w3 W) := Lib.hid fun W b => by
    obtain ⟨c0, c1, c2, c3, c4, c5, c6, _, _⟩ := (McB.on b HM3.out).facts
    exact ⟨c0, c1, c2, c3, c4, c5, c6, b⟩
  have HL : Hid (∀ W, Below w3.heap.size w3 W → Calls Tryd.prog 19 #[.pointer (some ⟨q, 0, none⟩), .int .i64 cell] W fun e w' => ∃ v', e = .returned v' ∧ OwnE encMc 45 w' W.heap.size v' (inP P cell) ∧ Below W.heap.size W w') := Lib.hid fun W b => list_c q R P cell W (HP3.out.on b) (by have := HN24.out; omega)
  have HC : Hid (∀ (W : World) (base : Nat) (v : Value), Below w3.heap.size w3 W → OwnE encMc 45 W base v (inP P cell ++ [⟨id, cell, has, 0⟩]) → Calls Tryd.prog 25 #[v] W fun e w' => ∃ (X : V4) (E : Value), e = .returned (.tuple #[.agg #[.int .i64 X.a, .int .i64 X.b, .int .i64 X.c, .int .i64 X.d], E]) ∧ Below W.heap.size W w' ∧ Hid ((goodV (sumV (inP P cell ++ [⟨id, cell, has, 0⟩])) = true ∧ E = .nilIface) ∨ (goodV (sumV (inP P cell ++ [⟨id, cell, has, 0⟩])) = false ∧ ∃ b, E = .iface 97 (.pointer (some ⟨b, 0, none⟩))))) := Lib.hid fun W base v b ho => capE s base v _ W ((HS.out.below HB3.out (Nat.le_refl _)).below b (Nat.le_refl _)) ho HGD.out HLN.out
  have hb30 := Below.refl w3.heap.size w3
  obtain ⟨d0, d1, d2, d3, d4, d5, d6, _⟩ := HVS.out w3 hb30
  go_cut [13] (fun v wx => Hid ((goodV (sumV (inP P cell ++ [⟨id, cell, has, 0⟩])) = true ∧ v = .nilIface) ∨ (goodV (sumV (inP P cell ++ [⟨id, cell, has, 0⟩])) = false ∧ ∃ b, v = .iface 97 (.pointer (some ⟨b, 0, none⟩)))) ∧ Below w3.heap.size w3 wx)
  case first =>
    go_region_held3 (fun W => W.cell? ⟨g1, 0, none⟩ = some (.int .i64 id) ∧ W.cell? ⟨g1, 1, none⟩ = some (.int .i64 cell) ∧ W.cell? ⟨g1, 2, none⟩ = some (.int .i64 has.a) ∧ W.cell? ⟨g1, 3, none⟩ = some (.int .i64 has.b) ∧ W.cell? ⟨g1, 4, none⟩ = some (.int .i64 has.c) ∧ W.cell? ⟨g1, 5, none⟩ = some (.int .i64 has.d) ∧ W.cell? ⟨g1, 6, none⟩ = some (.int .i64 0) ∧ Below w3.heap.size w3 W)
      (exact HVS.out _ (by (repeat' (first | (with_reducible assumption) | (with_reducible exact Below.refl _ _) | (with_reducible refine Below.drew ?_) | (with_reducible refine below_drewN ?_ _) | (with_reducible refine Below.alloc ?_ ?_ _) | (with_reducible refine Below.setCell ?_ ?_ _) | omega | (dsimp only; omega) | (simp only [World.size_alloc]; omega) | (simp; done)))))
      (first
        | (go_at_call 19; refine (HL.out _ (by (repeat' (first | (with_reducible assumption) | (with_reducible exact Below.refl _ _) | (with_reducible refine Below.drew ?_) | (with_reducible refine below_drewN ?_ _) | (with_reducible refine Below.alloc ?_ ?_ _) | (with_reducible refine Below.setCell ?_ ?_ _) | omega | (dsimp only; omega) | (simp only [World.size_alloc]; omega) | (simp; done))))).mono ?_; rintro e wa ⟨va, rfl, hva, ba⟩; have hsa : w3.heap.size ≤ wa.heap.size := (by have := ba.size; simp at this; omega); have h3a : Below w3.heap.size w3 wa := Below.trans (by (repeat' (first | (with_reducible assumption) | (with_reducible exact Below.refl _ _) | (with_reducible refine Below.drew ?_) | (with_reducible refine below_drewN ?_ _) | (with_reducible refine Below.alloc ?_ ?_ _) | (with_reducible refine Below.setCell ?_ ?_ _) | omega | (dsimp only; omega) | (simp only [World.size_alloc]; omega) | (simp; done)))) (ba.mono (by first | (simp; done) | (simp; omega))); have HROW : Hid (∀ k, va.ownBlock = some k → w3.heap.size ≤ k) := Lib.hid (fun k hk => by have := (hva.lt k hk).1; simp at this; omega); have HRW : Hid (∀ k, va.ownBlock = some k → k < wa.heap.size) := Lib.hid (fun k hk => (hva.lt k hk).2); have HVA : Hid (OwnE encMc 45 wa w3.heap.size va (inP P cell)) := Lib.hid (hva.base (by first | (simp; done) | (simp; omega))); (first | (have hlit : McB wa w3.heap.size (⟨id, cell, has, 0⟩ : Mc) := McB.on ba (McB.new_at rfl ⟨id, cell, has, 0⟩)) | (have hlit : McB wa w3.heap.size (⟨id, cell, has, 0⟩ : Mc) := McB.on ba ((McB.new_at rfl ⟨id, cell, has, 0⟩).alloc _)) | (have hlit : McB wa (w3.heap.size + 1) (⟨id, cell, has, 0⟩ : Mc) := McB.on ba (McB.new_at (by simp) ⟨id, cell, has, 0⟩)) | skip); (first | (have hz0 : Vb wa w3.heap.size ⟨0, 0, 0, 0⟩ ∧ some w3.heap.size ≠ va.ownBlock := ⟨Vb.on' ba (Vb.new_at rfl ⟨0, 0, 0, 0⟩), fun e => by have := (hva.lt _ e.symm).1; simp at this; omega⟩) | (have hz0 : Vb wa w3.heap.size ⟨0, 0, 0, 0⟩ ∧ some w3.heap.size ≠ va.ownBlock := ⟨Vb.on' ba ((Vb.new_at rfl ⟨0, 0, 0, 0⟩).alloc _), fun e => by have := (hva.lt _ e.symm).1; simp at this; omega⟩) | (have hz0 : Vb wa (w3.heap.size + 1) ⟨0, 0, 0, 0⟩ ∧ some (w3.heap.size + 1) ≠ va.ownBlock := ⟨Vb.on' ba (Vb.new_at (by simp) ⟨0, 0, 0, 0⟩), fun e => by have := (hva.lt _ e.symm).1; simp at this; omega⟩) | skip); clear hva ba)
        | (go_at_call 25; refine (HC.out _ _ _ (by (repeat' (first | (with_reducible assumption) | (with_reducible exact Below.refl _ _) | (with_reducible refine Below.drew ?_) | (with_reducible refine below_drewN ?_ _) | (with_reducible refine Below.alloc ?_ ?_ _) | (with_reducible refine Below.setCell ?_ ?_ _) | omega | (dsimp only; omega) | (simp only [World.size_alloc]; omega) | (simp; done)))) (by first | exact O5.out | exact O5.out.on ((Below.refl _ _).alloc (Nat.le_refl _) _))).mono ?_; rintro e w6 ⟨X, E, rfl, b6, hE⟩; have h36 : Below w3.heap.size w3 w6 := Below.trans (by (repeat' (first | (with_reducible assumption) | (with_reducible exact Below.refl _ _) | (with_reducible refine Below.drew ?_) | (with_reducible refine below_drewN ?_ _) | (with_reducible refine Below.alloc ?_ ?_ _) | (with_reducible refine Below.setCell ?_ ?_ _) | omega | (dsimp only; omega) | (simp only [World.size_alloc]; omega) | (simp; done)))) (b6.mono (by first | exact h35.size | (simp; have := h35.size; omega))); have hs6 := h36.size; (first | (have hz6 := Vb.on' b6 hz5) | (have hz6 := Vb.on' b6 (hz5.alloc _)) | (have hz6 := Vb.on' b6 (Vb.new_at (g := w5.heap.size) rfl ⟨0, 0, 0, 0⟩)) | skip); clear b6; (first | (obtain ⟨z0, z1, z2, z3, zf, zl⟩ := hz6.facts; clear hz6) | skip))
        | (refine step_append_L (E := encMc) rfl (.tmp 46) (.tmp 48) 51 rfl i0 _ 56 Tryd.underlying51 hi0 hy0 hy1 hy2 rfl (by decide) (base := w3.heap.size) (v := va) (L := inP P cell) (M := [(⟨id, cell, has, 0⟩ : Mc)]) (by go_simp) (by first | exact HVA.out | exact HVA.out.on ((Below.refl _ _).alloc (Nat.le_refl _) _) | exact HVA.out.on (((Below.refl _ _).alloc (Nat.le_refl _) _).alloc (by simp) _)) (y := .slice (some ⟨wa.heap.size, 0, none⟩) 1 1) (by go_simp) (lies_oneB (McB.new_at rfl ⟨id, cell, has, 0⟩)) A3.out A4.out (by first | exact hsa | (simp; omega)) ?_; intro v5 w5 own5 gr5 lo5; have O5 := Lib.hid own5; have h35 : Below w3.heap.size w3 w5 := Below.grown (by (repeat' (first | (with_reducible assumption) | (with_reducible exact Below.refl _ _) | (with_reducible refine Below.drew ?_) | (with_reducible refine below_drewN ?_ _) | (with_reducible refine Below.alloc ?_ ?_ _) | (with_reducible refine Below.setCell ?_ ?_ _) | omega | (dsimp only; omega) | (simp only [World.size_alloc]; omega) | (simp; done)))) gr5 (by first | exact hsa | (simp; omega)) (fun k hk => HROW.out k hk); have hs5 := h35.size; (first | (have hz5 := Vb.grown gr5 hz0.2 hz0.1) | (have hz5 := Vb.grown gr5 hz0.2 (hz0.1.alloc _)) | (have hz5 : Vb w5 wa.heap.size ⟨0, 0, 0, 0⟩ := Vb.grown gr5 (fun e => absurd (HRW.out _ e.symm) (by omega)) (Vb.new_at rfl ⟨0, 0, 0, 0⟩)) | (have hz5 : Vb w5 wa.heap.size ⟨0, 0, 0, 0⟩ := Vb.grown gr5 (fun e => absurd (HRW.out _ e.symm) (by omega)) ((Vb.new_at rfl ⟨0, 0, 0, 0⟩).alloc _)) | (have hz5 : Vb w5 (wa.heap.size + 1) ⟨0, 0, 0, 0⟩ := Vb.grown gr5 (fun e => absurd (HRW.out _ e.symm) (by omega)) (Vb.new_at (by simp) ⟨0, 0, 0, 0⟩)) | skip); clear own5 gr5 lo5)
        | (refine step_append_L (E := encMc) rfl (.tmp 46) (.tmp 48) 51 rfl i0 _ 56 Tryd.underlying51 hi0 hy0 hy1 hy2 rfl (by decide) (base := w3.heap.size) (v := va) (L := inP P cell) (M := [(⟨id, cell, has, 0⟩ : Mc)]) (by go_simp) (by first | exact HVA.out | exact HVA.out.on ((Below.refl _ _).alloc (Nat.le_refl _) _) | exact HVA.out.on (((Below.refl _ _).alloc (Nat.le_refl _) _).alloc (by simp) _)) (y := .slice (some ⟨wa.heap.size, 0, none⟩) 1 1) (by go_simp) (lies_oneB ((McB.new_at rfl ⟨id, cell, has, 0⟩).alloc _)) A3.out A4.out (by first | exact hsa | (simp; omega)) ?_; intro v5 w5 own5 gr5 lo5; have O5 := Lib.hid own5; have h35 : Below w3.heap.size w3 w5 := Below.grown (by (repeat' (first | (with_reducible assumption) | (with_reducible exact Below.refl _ _) | (with_reducible refine Below.drew ?_) | (with_reducible refine below_drewN ?_ _) | (with_reducible refine Below.alloc ?_ ?_ _) | (with_reducible refine Below.setCell ?_ ?_ _) | omega | (dsimp only; omega) | (simp only [World.size_alloc]; omega) | (simp; done)))) gr5 (by first | exact hsa | (simp; omega)) (fun k hk => HROW.out k hk); have hs5 := h35.size; (first | (have hz5 := Vb.grown gr5 hz0.2 hz0.1) | (have hz5 := Vb.grown gr5 hz0.2 (hz0.1.alloc _)) | (have hz5 : Vb w5 wa.heap.size ⟨0, 0, 0, 0⟩ := Vb.grown gr5 (fun e => absurd (HRW.out _ e.symm) (by omega)) (Vb.new_at rfl ⟨0, 0, 0, 0⟩)) | (have hz5 : Vb w5 wa.heap.size ⟨0, 0, 0, 0⟩ := Vb.grown gr5 (fun e => absurd (HRW.out _ e.symm) (by omega)) ((Vb.new_at rfl ⟨0, 0, 0, 0⟩).alloc _)) | (have hz5 : Vb w5 (wa.heap.size + 1) ⟨0, 0, 0, 0⟩ := Vb.grown gr5 (fun e => absurd (HRW.out _ e.symm) (by omega)) (Vb.new_at (by simp) ⟨0, 0, 0, 0⟩)) | skip); clear own5 gr5 lo5)
        | (refine step_append_L (E := encMc) rfl (.tmp 46) (.tmp 48) 51 rfl i0 _ 56 Tryd.underlying51 hi0 hy0 hy1 hy2 rfl (by decide) (base := w3.heap.size) (v := va) (L := inP P cell) (M := [(⟨id, cell, has, 0⟩ : Mc)]) (by go_simp) (by first | exact HVA.out | exact HVA.out.on ((Below.refl _ _).alloc (Nat.le_refl _) _) | exact HVA.out.on (((Below.refl _ _).alloc (Nat.le_refl _) _).alloc (by simp) _)) (y := .slice (some ⟨wa.heap.size + 1, 0, none⟩) 1 1) (by go_simp) (lies_oneB (McB.new_at (by simp) ⟨id, cell, has, 0⟩)) A3.out A4.out (by first | exact hsa | (simp; omega)) ?_; intro v5 w5 own5 gr5 lo5; have O5 := Lib.hid own5; have h35 : Below w3.heap.size w3 w5 := Below.grown (by (repeat' (first | (with_reducible assumption) | (with_reducible exact Below.refl _ _) | (with_reducible refine Below.drew ?_) | (with_reducible refine below_drewN ?_ _) | (with_reducible refine Below.alloc ?_ ?_ _) | (with_reducible refine Below.setCell ?_ ?_ _) | omega | (dsimp only; omega) | (simp only [World.size_alloc]; omega) | (simp; done)))) gr5 (by first | exact hsa | (simp; omega)) (fun k hk => HROW.out k hk); have hs5 := h35.size; (first | (have hz5 := Vb.grown gr5 hz0.2 hz0.1) | (have hz5 := Vb.grown gr5 hz0.2 (hz0.1.alloc _)) | (have hz5 : Vb w5 wa.heap.size ⟨0, 0, 0, 0⟩ := Vb.grown gr5 (fun e => absurd (HRW.out _ e.symm) (by omega)) (Vb.new_at rfl ⟨0, 0, 0, 0⟩)) | (have hz5 : Vb w5 wa.heap.size ⟨0, 0, 0, 0⟩ := Vb.grown gr5 (fun e => absurd (HRW.out _ e.symm) (by omega)) ((Vb.new_at rfl ⟨0, 0, 0, 0⟩).alloc _)) | (have hz5 : Vb w5 (wa.heap.size + 1) ⟨0, 0, 0, 0⟩ := Vb.grown gr5 (fun e => absurd (HRW.out _ e.symm) (by omega)) (Vb.new_at (by simp) ⟨0, 0, 0, 0⟩)) | skip); clear own5 gr5 lo5)
        | (refine step_append_L (E := encMc) rfl (.tmp 46) (.tmp 48) 51 rfl i0 _ 56 Tryd.underlying51 hi0 hy0 hy1 hy2 rfl (by decide) (base := w3.heap.size) (v := va) (L := inP P cell) (M := [(⟨id, cell, has, 0⟩ : Mc)]) (by go_simp) (by first | exact HVA.out | exact HVA.out.on ((Below.refl _ _).alloc (Nat.le_refl _) _) | exact HVA.out.on (((Below.refl _ _).alloc (Nat.le_refl _) _).alloc (by simp) _)) (y := .slice (some ⟨w3.heap.size, 0, none⟩) 1 1) (by go_simp) (lies_oneB (hlit)) A3.out A4.out (by first | exact hsa | (simp; omega)) ?_; intro v5 w5 own5 gr5 lo5; have O5 := Lib.hid own5; have h35 : Below w3.heap.size w3 w5 := Below.grown (by (repeat' (first | (with_reducible assumption) | (with_reducible exact Below.refl _ _) | (with_reducible refine Below.drew ?_) | (with_reducible refine below_drewN ?_ _) | (with_reducible refine Below.alloc ?_ ?_ _) | (with_reducible refine Below.setCell ?_ ?_ _) | omega | (dsimp only; omega) | (simp only [World.size_alloc]; omega) | (simp; done)))) gr5 (by first | exact hsa | (simp; omega)) (fun k hk => HROW.out k hk); have hs5 := h35.size; (first | (have hz5 := Vb.grown gr5 hz0.2 hz0.1) | (have hz5 := Vb.grown gr5 hz0.2 (hz0.1.alloc _)) | (have hz5 : Vb w5 wa.heap.size ⟨0, 0, 0, 0⟩ := Vb.grown gr5 (fun e => absurd (HRW.out _ e.symm) (by omega)) (Vb.new_at rfl ⟨0, 0, 0, 0⟩)) | (have hz5 : Vb w5 wa.heap.size ⟨0, 0, 0, 0⟩ := Vb.grown gr5 (fun e => absurd (HRW.out _ e.symm) (by omega)) ((Vb.new_at rfl ⟨0, 0, 0, 0⟩).alloc _)) | (have hz5 : Vb w5 (wa.heap.size + 1) ⟨0, 0, 0, 0⟩ := Vb.grown gr5 (fun e => absurd (HRW.out _ e.symm) (by omega)) (Vb.new_at (by simp) ⟨0, 0, 0, 0⟩)) | skip); clear own5 gr5 lo5)
        | (refine step_append_L (E := encMc) rfl (.tmp 46) (.tmp 48) 51 rfl i0 _ 56 Tryd.underlying51 hi0 hy0 hy1 hy2 rfl (by decide) (base := w3.heap.size) (v := va) (L := inP P cell) (M := [(⟨id, cell, has, 0⟩ : Mc)]) (by go_simp) (by first | exact HVA.out | exact HVA.out.on ((Below.refl _ _).alloc (Nat.le_refl _) _) | exact HVA.out.on (((Below.refl _ _).alloc (Nat.le_refl _) _).alloc (by simp) _)) (y := .slice (some ⟨w3.heap.size, 0, none⟩) 1 1) (by go_simp) (lies_oneB (hlit.alloc _)) A3.out A4.out (by first | exact hsa | (simp; omega)) ?_; intro v5 w5 own5 gr5 lo5; have O5 := Lib.hid own5; have h35 : Below w3.heap.size w3 w5 := Below.grown (by (repeat' (first | (with_reducible assumption) | (with_reducible exact Below.refl _ _) | (with_reducible refine Below.drew ?_) | (with_reducible refine below_drewN ?_ _) | (with_reducible refine Below.alloc ?_ ?_ _) | (with_reducible refine Below.setCell ?_ ?_ _) | omega | (dsimp only; omega) | (simp only [World.size_alloc]; omega) | (simp; done)))) gr5 (by first | exact hsa | (simp; omega)) (fun k hk => HROW.out k hk); have hs5 := h35.size; (first | (have hz5 := Vb.grown gr5 hz0.2 hz0.1) | (have hz5 := Vb.grown gr5 hz0.2 (hz0.1.alloc _)) | (have hz5 : Vb w5 wa.heap.size ⟨0, 0, 0, 0⟩ := Vb.grown gr5 (fun e => absurd (HRW.out _ e.symm) (by omega)) (Vb.new_at rfl ⟨0, 0, 0, 0⟩)) | (have hz5 : Vb w5 wa.heap.size ⟨0, 0, 0, 0⟩ := Vb.grown gr5 (fun e => absurd (HRW.out _ e.symm) (by omega)) ((Vb.new_at rfl ⟨0, 0, 0, 0⟩).alloc _)) | (have hz5 : Vb w5 (wa.heap.size + 1) ⟨0, 0, 0, 0⟩ := Vb.grown gr5 (fun e => absurd (HRW.out _ e.symm) (by omega)) (Vb.new_at (by simp) ⟨0, 0, 0, 0⟩)) | skip); clear own5 gr5 lo5)
        | (refine step_append_L (E := encMc) rfl (.tmp 46) (.tmp 48) 51 rfl i0 _ 56 Tryd.underlying51 hi0 hy0 hy1 hy2 rfl (by decide) (base := w3.heap.size) (v := va) (L := inP P cell) (M := [(⟨id, cell, has, 0⟩ : Mc)]) (by go_simp) (by first | exact HVA.out | exact HVA.out.on ((Below.refl _ _).alloc (Nat.le_refl _) _) | exact HVA.out.on (((Below.refl _ _).alloc (Nat.le_refl _) _).alloc (by simp) _)) (y := .slice (some ⟨w3.heap.size + 1, 0, none⟩) 1 1) (by go_simp) (lies_oneB (hlit)) A3.out A4.out (by first | exact hsa | (simp; omega)) ?_; intro v5 w5 own5 gr5 lo5; have O5 := Lib.hid own5; have h35 : Below w3.heap.size w3 w5 := Below.grown (by (repeat' (first | (with_reducible assumption) | (with_reducible exact Below.refl _ _) | (with_reducible refine Below.drew ?_) | (with_reducible refine below_drewN ?_ _) | (with_reducible refine Below.alloc ?_ ?_ _) | (with_reducible refine Below.setCell ?_ ?_ _) | omega | (dsimp only; omega) | (simp only [World.size_alloc]; omega) | (simp; done)))) gr5 (by first | exact hsa | (simp; omega)) (fun k hk => HROW.out k hk); have hs5 := h35.size; (first | (have hz5 := Vb.grown gr5 hz0.2 hz0.1) | (have hz5 := Vb.grown gr5 hz0.2 (hz0.1.alloc _)) | (have hz5 : Vb w5 wa.heap.size ⟨0, 0, 0, 0⟩ := Vb.grown gr5 (fun e => absurd (HRW.out _ e.symm) (by omega)) (Vb.new_at rfl ⟨0, 0, 0, 0⟩)) | (have hz5 : Vb w5 wa.heap.size ⟨0, 0, 0, 0⟩ := Vb.grown gr5 (fun e => absurd (HRW.out _ e.symm) (by omega)) ((Vb.new_at rfl ⟨0, 0, 0, 0⟩).alloc _)) | (have hz5 : Vb w5 (wa.heap.size + 1) ⟨0, 0, 0, 0⟩ := Vb.grown gr5 (fun e => absurd (HRW.out _ e.symm) (by omega)) (Vb.new_at (by simp) ⟨0, 0, 0, 0⟩)) | skip); clear own5 gr5 lo5)
        | fail)
    all_goals go_wp2_with fail
    all_goals go_meet
    all_goals exact ⟨hE, by (repeat' (first | (with_reducible assumption) | (with_reducible exact Below.refl _ _) | (with_reducible refine Below.drew ?_) | (with_reducible refine below_drewN ?_ _) | (with_reducible refine Below.alloc ?_ ?_ _) | (with_reducible refine Below.setCell ?_ ?_ _) | omega | (dsimp only; omega) | (simp only [World.size_alloc]; omega) | (simp; done)))⟩
  case rest =>
    obtain ⟨hE, hb5⟩ := hcut
    have HBC := Lib.hid (HB3.out.trans (hb5.mono HB3.out.size))
    have HMC := Lib.hid (McB.on hb5 HM3.out)
    have HPC := Lib.hid (HP3.out.on hb5)
    clear d0 d1 d2 d3 d4 d5 d6 hb5 hb30 HVS HL HC HM3 HP3
    rcases hE.out with ⟨hg, rfl⟩ | ⟨hg, b, rfl⟩
    · clear hE
      rw [show cell = (⟨id, cell, has, 0⟩ : Mc).cell from rfl, sum_more] at hg
      have HGG := Lib.hid hg
      clear hg
      obtain ⟨A, c, a0, af, ho, hR, _⟩ := HPC.out.cells
      obtain ⟨v0, hh0, _⟩ := HPC.out
      obtain ⟨c0, c1, c2, c3, c4, c5, c6, cf, cl⟩ := HMC.out.facts
      have hq := lt_of_row hh0
      have HI : Hid (∀ W, Below wc.heap.size wc W → McB W wc.heap.size ⟨id, cell, has, 0⟩ → Calls Tryd.prog 26 #[.slice A P.length c, .int .i64 (i : Nat), .slice (some ⟨wc.heap.size, 0, none⟩) 1 1] W fun e w' => ∃ v, e = .returned v ∧ InsPost q P i ⟨id, cell, has, 0⟩ (.slice A P.length c) W e w') := Lib.hid fun W hb hm => by
        refine (insert_Mc (q + 1) i (.slice A P.length c) P W wc.heap.size ⟨id, cell, has, 0⟩ (ho.on hb) hm (fun e => Nat.lt_irrefl _ (ho.lt _ e).2) HIL.out (by have := HN24.out; omega) (by have := hb.size; omega)).mono ?_
        rintro e w' ⟨v', rfl, hv, hgr, hor⟩
        obtain ⟨A', c', rfl⟩ := hv.form
        exact ⟨_, rfl, A', _, c', rfl, hv, hgr, hor⟩
      have HR : Hid ((Value.slice A P.length c).ownBlock.getD q = R) := hR
      have HROW : Hid (∀ k, (Value.slice A P.length c).ownBlock = some k → q + 1 ≤ k ∧ k < wc.heap.size) := Lib.hid fun k hk => ho.lt k hk
      have HH0 := Lib.hid hh0
      have HQ := Lib.hid hq
      clear ho hR hh0
      go_upto_region 14 with fail
      go_region_law (refine step_ins rfl (.tmp 60) (.tmp 61) (.tmp 63) rfl (.slice A P.length c) (.int .i64 (i : Nat)) (.slice (some ⟨wc.heap.size, 0, none⟩) 1 1) (by go_simp) (by go_simp) (by go_simp) (InsPost q P i ⟨id, cell, has, 0⟩ (.slice A P.length c) (wc.alloc (.cells #[.int .i64 id, .int .i64 cell, .int .i64 has.a, .int .i64 has.b, .int .i64 has.c, .int .i64 has.d, .int .i64 0] 45)).drew) (HI.out _ ((Below.refl _ _).alloc (Nat.le_refl _) _).drew (McB.new_at rfl ⟨id, cell, has, 0⟩).drew) ?_; rintro v w5 ⟨A', N, c', e', hv5, hg5, hor5⟩; cases e'; have h5 : w5.heap[q]? = some (.cells #[v0] 57 (0, 0)) := (hg5.block q (Nat.lt_of_lt_of_le HQ.out (by simp)) (fun e => by have := (HROW.out q e.symm).1; omega)).trans ((((Below.refl wc.heap.size wc).alloc (Nat.le_refl _) _).block q HQ.out).trans HH0.out); have af5 : ∀ j, w5.frozen? ⟨q, j, none⟩ = false := fun j => frozen_of_heap h5 j; have a5 := cell_of_heap h5 0; have H5 := Lib.hid h5; have HV5 := Lib.hid hv5; have HG5 := Lib.hid hg5; have HOR := Lib.hid hor5; clear h5 hv5 hg5 hor5)
      all_goals go_wp2_with fail
      all_goals go_ret
      all_goals
        refine ⟨fun hf => absurd (hf.symm.trans HGG.out) (by decide), fun _ => ⟨rfl, ⟨(Value.slice A' N c').ownBlock.getD q, ?_, ?_⟩, ?_⟩⟩
        · rw [← HINS.out]
          exact PPk.put H5.out HV5.out
        · rcases HOR.out with e | e
          · rw [e]; exact .inl HR.out
          · rw [e]; exact .inr (by have := HBC.out.size; simp; omega)
        · refine Chg.setCell (p := q) (q := R) (ad := ⟨q, 0, none⟩) (Chg.grown (Chg.of_below (by first | exact HBC.out.alloc HBC.out.size _ | exact (HBC.out.alloc HBC.out.size _).drew | exact HBC.out.drew.alloc HBC.out.size _)) HG5.out fun k hk => .inr (.inl ?_)) (.inl rfl) _
          have := HR.out
          rw [hk] at this
          exact this
    · clear hE
      rw [show cell = (⟨id, cell, has, 0⟩ : Mc).cell from rfl, sum_more] at hg
      have HGG := Lib.hid hg
      clear hg
      have e9 : wc.cell? ⟨3, 0, none⟩ = some (.iface 102 (.pointer (some (s 3)))) := (HS.out.below HBC.out (Nat.le_refl _)).cell 3 (by omega)
      go_wp2_with fail
      go_ret
      exact ⟨fun _ => ⟨rfl, HBC.out⟩, fun hf => absurd (hf.symm.trans HGG.out) (by decide)⟩
/-- Add, whatever is there. -/
theorem addN_c (s : Nat → Addr) (q R : Nat) (P : List Mc) (id cell : Int) (has : V4) (w : World) (hs : Sent s w) (h : PPk w q R P) (hG : GP P) (hS : GS P) :
    Calls Tryd.prog 13 #[.pointer (some ⟨q, 0, none⟩), .int .i64 id, .int .i64 cell, .agg #[.int .i64 has.a, .int .i64 has.b, .int .i64 has.c, .int .i64 has.d]] w fun e w' => e = .returned (errV s (addP P id cell has).2) ∧ (∃ R', PPk w' q R' (addP P id cell has).1 ∧ (R' = R ∨ w.heap.size ≤ R')) ∧ Chg q R w w' := by
  unfold addP
  have hgm : gMc ⟨id, cell, has, 0⟩ = false ↔ (id < 1 ∨ 999 < id ∨ cell < 1 ∨ 4 < cell ∨ goodV has = false) := by
    unfold gMc
    cases hv : goodV has
    · simp
    · simp only [Bool.and_true, Bool.and_eq_false_iff, decide_eq_false_iff_not]
      constructor
      · intro h; omega
      · intro h
        rcases h with h | h | h | h | h
        · exact .inl (by omega)
        · exact .inr (.inl (by omega))
        · exact .inr (.inr (.inl (by omega)))
        · exact .inr (.inr (.inr (by omega)))
        · cases h
  by_cases hb : id < 1 ∨ 999 < id ∨ cell < 1 ∨ 4 < cell ∨ goodV has = false
  · rw [if_pos hb]
    exact (addN_bad s q R P id cell has w hs h hG (hgm.2 hb)).mono fun e w' ⟨he, hbl⟩ => ⟨he, ⟨R, h.on hbl, .inl rfl⟩, Chg.of_below hbl⟩
  · rw [if_neg hb]
    have hgd : gMc ⟨id, cell, has, 0⟩ = true := by
      cases hg : gMc ⟨id, cell, has, 0⟩ with
      | true => rfl
      | false => exact absurd (hgm.1 hg) hb
    have hv : goodV has = true := by cases hg : goodV has; exact absurd (.inr (.inr (.inr (.inr hg)))) hb; rfl
    cases hat : (atP P id).isSome with
    | true =>
      rw [if_pos rfl]
      exact (addN_dup s q R P id cell has w hs h hG hgd hat).mono fun e w' ⟨he, hbl⟩ => ⟨he, ⟨R, h.on hbl, .inl rfl⟩, Chg.of_below hbl⟩
    | false =>
      rw [if_neg (by decide)]
      by_cases hl : 24 ≤ P.length
      · rw [if_pos hl]
        exact (addN_full s q R P id cell has w hs h hG hgd hat hl).mono fun e w' ⟨he, hbl⟩ => ⟨he, ⟨R, h.on hbl, .inl rfl⟩, Chg.of_below hbl⟩
      · rw [if_neg hl]
        refine (addN_more s q R P id cell has w hs h hG hgd hat (by omega)).mono ?_
        rintro e w' ⟨h1, h2⟩
        cases hg : goodV (addV (liveP P cell true) has) with
        | false =>
          rw [if_pos ((addR_err hS cell hv).2 hg)]
          obtain ⟨he, hbl⟩ := h1 hg
          exact ⟨he, ⟨R, h.on hbl, .inl rfl⟩, Chg.of_below hbl⟩
        | true =>
          rw [if_neg (fun h => by rw [(addR_err hS cell hv).1 h] at hg; cases hg)]
          exact h2 hg
end Go.Proofs.YtaenpajmgenjhaaDoor
