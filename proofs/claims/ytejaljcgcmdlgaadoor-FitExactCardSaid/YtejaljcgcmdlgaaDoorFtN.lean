/- The law's form by contract: the program's spots become the reference's. Conditions: the spots lie in memory. -/
import Derived.Test.YtejaljcgcmdlgaaDoorFtW
import Derived.Test.YtejaljcgcmdlgaaDoorRgo
namespace Go.Proofs.YtejaljcgcmdlgaaDoor
open Go Go.RowKit

theorem lies_spt {t : TypeId} {w : World} {g : Nat} {x : Spt} (h : w.heap[g]? = some (.cells #[.int .i64 x.id, .int .i64 x.left.a, .int .i64 x.left.b, .int .i64 x.left.c, .int .i64 x.left.d] t (0, 0))) : LiesE encSpt w (.slice (some ⟨g, 0, none⟩) 1 1) [x] :=
  .inr ⟨⟨g, 0, none⟩, 1, rfl, Nat.le_refl _, fun j u hu => by
    rw [Addr.add_lit, Nat.zero_add, cell_of_heap h, ← hu, cellsE_one]
    show (encSpt.enc x).toArray[j]? = _
    exact List.getElem?_toArray⟩

set_option maxRecDepth 100000 in
set_option maxHeartbeats 6400000 in
/-- A spot comes. -/
theorem form_r5 (u1 u2 u5 u6 u7 u8 u9 u10 u11 u12 u13 u14 u15 u16 u17 u18 u19 u20 u21 u22 u23 u24 u25 u26 : Value) (B0 : Nat) (ad p : Addr) (n cap k c : Nat) (B : Option Addr) (M : List Spt) (s : Spt) (Q : Exit → Act → World → Prop) (w : World) (hadd : ad.add (k * 5) = p) (hkn : (k : Int) < (n : Int)) (hc : ∀ r u, (encSpt.enc s)[r]? = some u → w.cell? (p.add r) = some u) (hg : p.block < B0) (hBw : B0 ≤ w.heap.size) (hO : OwnE encSpt 34 w B0 (.slice B k c) M) (hkl : M.length = k) (hM : M.length ≤ 1000000)
    (hQ : ∀ (v12 v13 v14 v15 v16 v17 v18 v19 v20 v21 v22 v23 v24 v25 : Value) (B2 : Option Addr) (c2 : Nat) (w' : World), OwnE encSpt 34 w' B0 (.slice B2 (k + 1) c2) (M ++ [s]) → Below B0 w w' → Q .normal { tmps := #[.slice (some ad) n cap, u1, u2, .slice B2 (k + 1) c2, .int .i64 (k : Int), u5, u6, u7, u8, u9, u10, u11, v12, v13, v14, v15, v16, v17, v18, v19, v20, v21, v22, v23, v24, v25, u26], defers := [] } w') :
    (Code.region 5 (opsOf Tryd.f7 5).toArray true).wp Tryd.prog Q { tmps := #[.slice (some ad) n cap, u1, u2, .slice B k c, .int .i64 (k : Int), u5, u6, u7, u8, u9, u10, u11, u12, u13, u14, u15, u16, u17, u18, u19, u20, u21, u22, u23, u24, u25, u26], defers := [] } w := by
  simp only [opsOf, Tryd.f7, regOf, Option.bind_some, Option.orElse, Option.getD_some, Nat.reduceEqDiff, if_true, if_false, reduceCtorEq]
  obtain ⟨i0, hi0, hz0, hz1, hz2⟩ := info_parts Tryd.infoRS
  have HI0 := Lib.hid hi0
  obtain ⟨N, hN⟩ : ∃ N : Act → World → Prop, N = fun a W => Q .normal a W := ⟨_, rfl⟩
  refine Code.wp_mono (Q := fun e a W => match e with | .normal => N a W | _ => False) (fun e a W h => by cases e <;> first | (rw [hN] at h; exact h) | exact h.elim) ?_
  have HQ : Hid (∀ (v12 v13 v14 v15 v16 v17 v18 v19 v20 v21 v22 v23 v24 v25 : Value) (B2 : Option Addr) (c2 : Nat) (w' : World), OwnE encSpt 34 w' B0 (.slice B2 (k + 1) c2) (M ++ [s]) → Below B0 w w' → N { tmps := #[.slice (some ad) n cap, u1, u2, .slice B2 (k + 1) c2, .int .i64 (k : Int), u5, u6, u7, u8, u9, u10, u11, v12, v13, v14, v15, v16, v17, v18, v19, v20, v21, v22, v23, v24, v25, u26], defers := [] } w') := Lib.hid (by rw [hN]; exact hQ)
  clear hN
  have HSS : Hid (∀ W : World, Below B0 w W → W.cell? p = some (.int .i64 s.id) ∧ W.cell? ⟨p.block, p.off + 1, none⟩ = some (.int .i64 s.left.a) ∧ W.cell? ⟨p.block, p.off + 2, none⟩ = some (.int .i64 s.left.b) ∧ W.cell? ⟨p.block, p.off + 3, none⟩ = some (.int .i64 s.left.c) ∧ W.cell? ⟨p.block, p.off + 4, none⟩ = some (.int .i64 s.left.d) ∧ Below B0 w W) := Lib.hid fun W hb =>
    ⟨(hb.cell (p := p) hg).trans ((congrArg w.cell? (add_zeroE p).symm).trans (hc 0 _ rfl)), (hb.cell (p := ⟨p.block, p.off + 1, none⟩) hg).trans (hc 1 _ rfl), (hb.cell (p := ⟨p.block, p.off + 2, none⟩) hg).trans (hc 2 _ rfl), (hb.cell (p := ⟨p.block, p.off + 3, none⟩) hg).trans (hc 3 _ rfl), (hb.cell (p := ⟨p.block, p.off + 4, none⟩) hg).trans (hc 4 _ rfl), hb⟩
  have HBW := Lib.hid hBw
  have HKL := Lib.hid hkl
  have A1 : Hid (OwnE encSpt 34 (w.drew.alloc (.cells #[.int .i64 s.id, .int .i64 s.left.a, .int .i64 s.left.b, .int .i64 s.left.c, .int .i64 s.left.d] 34)) B0 (.slice B k c) M) := Lib.hid (hO.on (((Below.refl _ _).drew).alloc (Nat.le_refl _) _))
  have A2 : Hid (LiesE encSpt (w.drew.alloc (.cells #[.int .i64 s.id, .int .i64 s.left.a, .int .i64 s.left.b, .int .i64 s.left.c, .int .i64 s.left.d] 34)) (.slice (some ⟨w.heap.size, 0, none⟩) 1 1) [s]) := lies_spt (heap_alloc_new w.drew _)
  have A3 : Hid (M.length + [s].length ≤ maxLen) := by simp only [Hid, List.length_cons, List.length_nil, maxLen]; omega
  have A4 : Hid ((M.length + [s].length) * 40 ≤ 140737488355328) := by simp only [Hid, List.length_cons, List.length_nil]; omega
  have A5 : Hid (B0 ≤ (w.drew.alloc (.cells #[.int .i64 s.id, .int .i64 s.left.a, .int .i64 s.left.b, .int .i64 s.left.c, .int .i64 s.left.d] 34)).heap.size) := by simp only [Hid, World.size_alloc, World.size_drew]; omega
  clear hQ hc hg hBw hkl hO hi0 hM
  refine wp_region_held_drew (S := fun W => W.cell? p = some (.int .i64 s.id) ∧ W.cell? ⟨p.block, p.off + 1, none⟩ = some (.int .i64 s.left.a) ∧ W.cell? ⟨p.block, p.off + 2, none⟩ = some (.int .i64 s.left.b) ∧ W.cell? ⟨p.block, p.off + 3, none⟩ = some (.int .i64 s.left.c) ∧ W.cell? ⟨p.block, p.off + 4, none⟩ = some (.int .i64 s.left.d) ∧ Below B0 w W) (by kernel_rfl) ?_ (fun hHeld => ?_)
  · exact HSS.out _ ((Below.refl _ _).drew)
  refine rg_take 0 (some 12) _ (by kernel_rfl) (by kernel_rfl) (by kernel_rfl) (fun _ _ _ h => h) (by kernel_rfl) (by kernel_rfl) (by intro w' hSw op_ ho; obtain ⟨v0, v1, v2, v3, v4, hb⟩ := hSw; simp only [List.getElem?_toArray, List.getElem?_cons_zero, Option.some.injEq] at ho; subst ho; go_simp; with_reducible rfl) (by assumption) ?_
  try simp only [Act.put, List.setIfInBounds_toArray, List.set_cons_zero, List.set_cons_succ]
  refine rg_take 1 (some 13) _ (by kernel_rfl) (by kernel_rfl) (by kernel_rfl) (fun _ _ _ h => h) (by kernel_rfl) (by kernel_rfl) (by intro w' hSw op_ ho; obtain ⟨v0, v1, v2, v3, v4, hb⟩ := hSw; simp only [List.getElem?_toArray, List.getElem?_cons_succ, List.getElem?_cons_zero, Option.some.injEq] at ho; subst ho; go_simp; with_reducible rfl) (by assumption) ?_
  try simp only [Act.put, List.setIfInBounds_toArray, List.set_cons_zero, List.set_cons_succ]
  refine rg_take 2 (some 14) _ (by kernel_rfl) (by kernel_rfl) (by kernel_rfl) (fun _ _ _ h => h) (by kernel_rfl) (by kernel_rfl) (by intro w' hSw op_ ho; obtain ⟨v0, v1, v2, v3, v4, hb⟩ := hSw; simp only [List.getElem?_toArray, List.getElem?_cons_succ, List.getElem?_cons_zero, Option.some.injEq] at ho; subst ho; go_simp; with_reducible rfl) (by assumption) ?_
  try simp only [Act.put, List.setIfInBounds_toArray, List.set_cons_zero, List.set_cons_succ]
  refine rg_take 3 (some 15) _ (by kernel_rfl) (by kernel_rfl) (by kernel_rfl) (fun _ _ _ h => h) (by kernel_rfl) (by kernel_rfl) (by intro w' hSw op_ ho; obtain ⟨v0, v1, v2, v3, v4, hb⟩ := hSw; simp only [List.getElem?_toArray, List.getElem?_cons_succ, List.getElem?_cons_zero, Option.some.injEq] at ho; subst ho; go_simp; with_reducible rfl) (by assumption) ?_
  try simp only [Act.put, List.setIfInBounds_toArray, List.set_cons_zero, List.set_cons_succ]
  refine rg_take 4 (some 16) _ (by kernel_rfl) (by kernel_rfl) (by kernel_rfl) (fun _ _ _ h => h) (by kernel_rfl) (by kernel_rfl) (by intro w' hSw op_ ho; obtain ⟨v0, v1, v2, v3, v4, hb⟩ := hSw; simp only [List.getElem?_toArray, List.getElem?_cons_succ, List.getElem?_cons_zero, Option.some.injEq] at ho; subst ho; go_simp; with_reducible rfl) (by assumption) ?_
  try simp only [Act.put, List.setIfInBounds_toArray, List.set_cons_zero, List.set_cons_succ]
  refine rg_take 5 (some 17) _ (by kernel_rfl) (by kernel_rfl) (by kernel_rfl) (fun _ _ _ h => h) (by kernel_rfl) (by kernel_rfl) (by intro w' hSw op_ ho; obtain ⟨v0, v1, v2, v3, v4, hb⟩ := hSw; simp only [List.getElem?_toArray, List.getElem?_cons_succ, List.getElem?_cons_zero, Option.some.injEq] at ho; subst ho; go_simp; with_reducible rfl) (by assumption) ?_
  try simp only [Act.put, List.setIfInBounds_toArray, List.set_cons_zero, List.set_cons_succ]
  refine rg_take 6 (some 18) _ (by kernel_rfl) (by kernel_rfl) (by kernel_rfl) (fun _ _ _ h => h) (by kernel_rfl) (by kernel_rfl) (by intro w' hSw op_ ho; obtain ⟨v0, v1, v2, v3, v4, hb⟩ := hSw; simp only [List.getElem?_toArray, List.getElem?_cons_succ, List.getElem?_cons_zero, Option.some.injEq] at ho; subst ho; go_simp; with_reducible rfl) (by assumption) ?_
  try simp only [Act.put, List.setIfInBounds_toArray, List.set_cons_zero, List.set_cons_succ]
  refine rg_take 7 (some 19) _ (by kernel_rfl) (by kernel_rfl) (by kernel_rfl) (fun _ _ _ h => h) (by kernel_rfl) (by kernel_rfl) (by intro w' hSw op_ ho; obtain ⟨v0, v1, v2, v3, v4, hb⟩ := hSw; simp only [List.getElem?_toArray, List.getElem?_cons_succ, List.getElem?_cons_zero, Option.some.injEq] at ho; subst ho; go_simp; with_reducible rfl) (by assumption) ?_
  try simp only [Act.put, List.setIfInBounds_toArray, List.set_cons_zero, List.set_cons_succ]
  refine rg_take 8 (some 20) _ (by kernel_rfl) (by kernel_rfl) (by kernel_rfl) (fun _ _ _ h => h) (by kernel_rfl) (by kernel_rfl) (by intro w' hSw op_ ho; obtain ⟨v0, v1, v2, v3, v4, hb⟩ := hSw; simp only [List.getElem?_toArray, List.getElem?_cons_succ, List.getElem?_cons_zero, Option.some.injEq] at ho; subst ho; go_simp; with_reducible rfl) (by assumption) ?_
  try simp only [Act.put, List.setIfInBounds_toArray, List.set_cons_zero, List.set_cons_succ]
  refine rg_take 9 (some 21) _ (by kernel_rfl) (by kernel_rfl) (by kernel_rfl) (fun _ _ _ h => h) (by kernel_rfl) (by kernel_rfl) (by intro w' hSw op_ ho; obtain ⟨v0, v1, v2, v3, v4, hb⟩ := hSw; simp only [List.getElem?_toArray, List.getElem?_cons_succ, List.getElem?_cons_zero, Option.some.injEq] at ho; subst ho; go_simp; with_reducible rfl) (by assumption) ?_
  try simp only [Act.put, List.setIfInBounds_toArray, List.set_cons_zero, List.set_cons_succ]
  refine rg_take 10 (some 22) _ (by kernel_rfl) (by kernel_rfl) (by kernel_rfl) (fun _ _ _ h => h) (by kernel_rfl) (by kernel_rfl) (by intro w' hSw op_ ho; obtain ⟨v0, v1, v2, v3, v4, hb⟩ := hSw; simp only [List.getElem?_toArray, List.getElem?_cons_succ, List.getElem?_cons_zero, Option.some.injEq] at ho; subst ho; go_simp; with_reducible rfl) (by assumption) ?_
  try simp only [Act.put, List.setIfInBounds_toArray, List.set_cons_zero, List.set_cons_succ]
  refine rg_take 11 (some 23) _ (by kernel_rfl) (by kernel_rfl) (by kernel_rfl) (fun _ _ _ h => h) (by kernel_rfl) (by kernel_rfl) (by intro w' hSw op_ ho; obtain ⟨v0, v1, v2, v3, v4, hb⟩ := hSw; simp only [List.getElem?_toArray, List.getElem?_cons_succ, List.getElem?_cons_zero, Option.some.injEq] at ho; subst ho; go_simp; with_reducible rfl) (by assumption) ?_
  try simp only [Act.put, List.setIfInBounds_toArray, List.set_cons_zero, List.set_cons_succ]
  refine rg_one 12 (by kernel_rfl) (by kernel_rfl) (fun op_ ho K hK => ?_)
  simp only [List.getElem?_toArray, List.getElem?_cons_succ, List.getElem?_cons_zero, Option.some.injEq] at ho
  subst ho
  go_simp
  go_wp2_with fail
  refine hK.out _ _ (by first | assumption | exact HSS.out _ HW.out | exact HSS.out _ (((Below.refl _ _).drew).alloc (by simp only [World.size_drew]; exact HBW.out) _)) (fun hHeld => ?_)
  clear hK
  try simp only [Act.put, List.setIfInBounds_toArray, List.set_cons_zero, List.set_cons_succ]
  refine rg_one 13 (by kernel_rfl) (by kernel_rfl) (fun op_ ho K hK => ?_)
  simp only [List.getElem?_toArray, List.getElem?_cons_succ, List.getElem?_cons_zero, Option.some.injEq] at ho
  subst ho
  refine step_append_L rfl (.tmp 12) (.tmp 24) _ rfl i0 _ 40 Tryd.underlying26 HI0.out hz0 hz1 hz2 rfl (by decide) (v := .slice B k c) (by go_simp) A1.out (y := .slice (some ⟨w.heap.size, 0, none⟩) 1 1) (by go_simp) A2.out A3.out A4.out A5.out ?_
  intro v' w' hv hgr hown
  obtain ⟨B2, c2, e2⟩ := hv.form
  rw [List.length_append, HKL.out, show [s].length = 1 from rfl] at e2
  subst e2
  have HV := Lib.hid hv
  have HW : Hid (Below B0 w w') := Lib.hid ((((Below.refl _ _).drew).alloc (by simp only [World.size_drew]; exact HBW.out) _).grown hgr (by simp only [World.size_alloc, World.size_drew]; have := HBW.out; omega) fun j hj => (A1.out.lt j hj).1)
  clear hv hgr hown
  refine hK.out _ _ (by first | assumption | exact HSS.out _ HW.out | exact HSS.out _ (((Below.refl _ _).drew).alloc (by simp only [World.size_drew]; exact HBW.out) _)) (fun hHeld => ?_)
  clear hK
  try simp only [Act.put, List.setIfInBounds_toArray, List.set_cons_zero, List.set_cons_succ]
  refine rg_take 14 (some 3) _ (by kernel_rfl) (by kernel_rfl) (by kernel_rfl) (fun _ _ _ h => h) (by kernel_rfl) (by kernel_rfl) (by intro w' hSw op_ ho; obtain ⟨v0, v1, v2, v3, v4, hb⟩ := hSw; simp only [List.getElem?_toArray, List.getElem?_cons_succ, List.getElem?_cons_zero, Option.some.injEq] at ho; subst ho; go_simp; with_reducible rfl) (by assumption) ?_
  try simp only [Act.put, List.setIfInBounds_toArray, List.set_cons_zero, List.set_cons_succ]
  refine wpAnyH_done (by kernel_rfl) ?_ _
  exact HQ.out _ _ _ _ _ _ _ _ _ _ _ _ _ _ B2 c2 _ HV.out HW.out

set_option maxRecDepth 100000 in
set_option maxHeartbeats 3200000 in
theorem form_c (A : Option Addr) (c : Nat) (L : List Spt) (w : World) (hL : ReadsE encSpt w A L) (hn : L.length ≤ 1000000) :
    Calls Tryd.prog 7 #[.slice A L.length c] w fun e w' => Below w.heap.size w w' ∧ ∃ v', e = .returned v' ∧ OwnE encSpt 34 w' w.heap.size v' L := by
  obtain ⟨i0, hi0, hz0, hz1, hz2⟩ := info_parts Tryd.infoRS
  have HL := Lib.hid hL
  have HI0 := Lib.hid hi0
  have HO1 : Hid (OwnE encSpt 34 (w.alloc (.cells #[] 34)) w.heap.size (.slice (some ⟨w.heap.size, 0, none⟩) 0 0) []) := Lib.hid (OwnE.none w (Nat.le_refl _))
  clear hL hi0
  go_enter Tryd.func7, Tryd.ntmps7
  go_upto_region 3 with fail
  go_loopg [3, 4] L.length (fun gk s3 s4 wr => ∃ (k : Nat) (B : Option Addr) (c' : Nat), s4 = .int .i64 k ∧ s3 = .slice B k c' ∧ k ≤ L.length ∧ L.length - k ≤ gk ∧ Aside (OwnE encSpt 34 wr w.heap.size (.slice B k c') (L.take k) ∧ Below w.heap.size w wr))
  case atStart => exact ⟨0, _, _, rfl, rfl, Nat.zero_le _, Nat.le_refl _, HO1.out, (Below.refl _ _).alloc (Nat.le_refl _) _⟩
  case round =>
    obtain ⟨k, B, c', rfl, rfl, hk, hgk, IN⟩ := hrel
    have HO := Lib.hid IN.out.1
    have HB := Lib.hid IN.out.2
    clear IN
    by_cases hlt : k < L.length
    · obtain ⟨s, hs⟩ : ∃ s, L[k]? = some s := ⟨_, List.getElem?_eq_getElem hlt⟩
      obtain ⟨ad, p, rfl, had, hg, hc⟩ := HL.out k s hs
      have hkz : (k : Int) < (L.length : Int) := by omega
      have HX := Lib.hid hs
      have hkl : (L.take k).length = k := by rw [List.length_take]; omega
      have HKL := Lib.hid hkl
      have HC := Lib.hid hc
      have HG := Lib.hid hg
      have HAD := Lib.hid had
      clear hs hc hg hkl had
      go_upto_region 5 with fail
      refine wp_reg (opsOf Tryd.f7 5) (by kernel_rfl) ?_
      refine form_r5 _ _ _ _ _ _ _ _ _ _ _ _ _ _ _ _ _ _ _ _ _ _ _ _ w.heap.size ad p L.length c k c' B (L.take k) s _ wr HAD.out hkz (fun r u hu => (HB.out.cell (p := p.add r) (by rw [block_add16]; exact HG.out)).trans (HC.out r u hu)) HG.out HB.out.size HO.out HKL.out (by rw [HKL.out]; omega) ?_
      intro _ _ _ _ _ _ _ _ _ _ _ _ _ _ B2 c2 w2 o2 b2
      have e2 : L.take k ++ [s] = L.take (k + 1) := by rw [List.take_add_one, HX.out]; rfl
      rw [e2] at o2
      have HO2 := Lib.hid o2
      have HB2 := Lib.hid b2
      clear o2 b2 e2
      go_wp2_with fail
      go_roundg (L.length - (k + 1))
      case measure => omega
      case rel => exact ⟨k + 1, B2, c2, by go_num, rfl, by omega, Nat.le_refl _, HO2.out, HB.out.trans HB2.out⟩
    · obtain rfl : k = L.length := by omega
      have hlz : ¬ ((L.length : Int) < (L.length : Int)) := by omega
      have HU : Hid (OwnE encSpt 34 wr w.heap.size (.slice B L.length c') L) := Lib.hid (by have := HO.out; rwa [List.take_length] at this)
      go_wp2_with fail
      go_ret
      exact ⟨HB.out, _, rfl, HU.out⟩
end Go.Proofs.YtejaljcgcmdlgaaDoor
