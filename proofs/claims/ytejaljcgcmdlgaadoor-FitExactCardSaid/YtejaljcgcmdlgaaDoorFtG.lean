/- The program's fit by contract: Rest; FitC whole. Conditions: the spots, the demands and the numbers lie in memory. -/
import Derived.Test.YtejaljcgcmdlgaaDoorFtD
namespace Go.Proofs.YtejaljcgcmdlgaaDoor
open Go Go.RowKit

set_option maxRecDepth 100000 in
set_option maxHeartbeats 6400000 in
/-- One demand is taken out. -/
theorem rest_r5 (u3 u4 u5 u6 u8 u9 u10 u11 u12 u13 u14 u15 u16 u17 u18 u19 u20 u21 u22 u23 u24 u25 u26 u27 u28 u29 : Value) (s : Nat → Addr) (B : Nat) (A : Option Addr) (ad2 ad3 p2 p3 : Addr) (c n2 cap2 n3 cap3 i : Nat) (m : List Spt) (x : V4) (d : Int) (Q : Exit → Act → World → Prop) (w : World) (hs : Sent s w) (hO : OwnE encSpt 40 w B (.slice A m.length c) m) (hBw : B ≤ w.heap.size) (hm : m.length ≤ 1000000) (had2 : ad2.add (i * 4) = p2) (hi2 : (i : Int) < (n2 : Int)) (had3 : ad3.add i = p3) (hi3 : (i : Int) < (n3 : Int)) (hV : ∀ r u, (encV16.enc x)[r]? = some u → w.cell? (p2.add r) = some u) (hI : w.cell? p3 = some (.int .i64 d)) (hg2 : p2.block < B) (hg3 : p3.block < B)
    (hQ : ∀ (v18 v19 v20 v21 v22 v23 v24 v25 v26 v27 : Value) (w' : World), OwnE encSpt 40 w' B (.slice A m.length c) (subS d x m) → Below B w w' → Q .normal { tmps := #[.slice A m.length c, .slice (some ad2) n2 cap2, .slice (some ad3) n3 cap3, u3, u4, u5, u6, .int .i64 (i : Int), u8, u9, u10, u11, u12, u13, u14, u15, u16, u17, v18, v19, v20, v21, v22, v23, v24, v25, v26, v27, u28, u29], defers := [] } w') :
    (Code.region 5 (opsOf Tryd.f12 5).toArray true).wp Tryd.prog Q { tmps := #[.slice A m.length c, .slice (some ad2) n2 cap2, .slice (some ad3) n3 cap3, u3, u4, u5, u6, .int .i64 (i : Int), u8, u9, u10, u11, u12, u13, u14, u15, u16, u17, u18, u19, u20, u21, u22, u23, u24, u25, u26, u27, u28, u29], defers := [] } w := by
  simp only [opsOf, Tryd.f12, regOf, Option.bind_some, Option.orElse, Option.getD_some, Nat.reduceEqDiff, if_true, if_false, reduceCtorEq]
  obtain ⟨N, hN⟩ : ∃ N : Act → World → Prop, N = fun a W => Q .normal a W := ⟨_, rfl⟩
  refine Code.wp_mono (Q := fun e a W => match e with | .normal => N a W | _ => False) (fun e a W h => by cases e <;> first | (rw [hN] at h; exact h) | exact h.elim) ?_
  have HQ : Hid (∀ (v18 v19 v20 v21 v22 v23 v24 v25 v26 v27 : Value) (w' : World), OwnE encSpt 40 w' B (.slice A m.length c) (subS d x m) → Below B w w' → N { tmps := #[.slice A m.length c, .slice (some ad2) n2 cap2, .slice (some ad3) n3 cap3, u3, u4, u5, u6, .int .i64 (i : Int), u8, u9, u10, u11, u12, u13, u14, u15, u16, u17, v18, v19, v20, v21, v22, v23, v24, v25, v26, v27, u28, u29], defers := [] } w') := Lib.hid (by rw [hN]; exact hQ)
  clear hN
  have HT : Hid (∀ W, Below w.heap.size w W → Calls Tryd.prog 21 #[.slice A m.length c, .agg #[.int .i64 x.a, .int .i64 x.b, .int .i64 x.c, .int .i64 x.d], .int .i64 d] W fun e w' => e = .returned (.tuple #[]) ∧ OwnE encSpt 40 w' B (.slice A m.length c) (subS d x m) ∧ Below B w w') := Lib.hid fun W hb => (take16_c s B A c m x d W (hs.below hb (Nat.le_refl _)) (hO.on hb) (Nat.le_trans hBw hb.size) hm).mono fun e w' ⟨h1, h2, h3⟩ => ⟨h1, h2, (hb.mono hBw).trans h3⟩
  have HSS : Hid (∀ W : World, Below B w W → W.cell? p2 = some (.int .i64 x.a) ∧ W.cell? ⟨p2.block, p2.off + 1, none⟩ = some (.int .i64 x.b) ∧ W.cell? ⟨p2.block, p2.off + 2, none⟩ = some (.int .i64 x.c) ∧ W.cell? ⟨p2.block, p2.off + 3, none⟩ = some (.int .i64 x.d) ∧ W.cell? p3 = some (.int .i64 d) ∧ Below B w W) := Lib.hid fun W hb =>
    ⟨(hb.cell (p := p2) hg2).trans ((congrArg w.cell? (add_zeroE p2).symm).trans (hV 0 _ rfl)), (hb.cell (p := ⟨p2.block, p2.off + 1, none⟩) hg2).trans (hV 1 _ rfl), (hb.cell (p := ⟨p2.block, p2.off + 2, none⟩) hg2).trans (hV 2 _ rfl), (hb.cell (p := ⟨p2.block, p2.off + 3, none⟩) hg2).trans (hV 3 _ rfl), (hb.cell (p := p3) hg3).trans hI, hb⟩
  have hj0 : 0 < n2 := by omega
  have hj1 : 0 < n3 := by omega
  clear hQ hs hO hBw hm hV hI hg2 hg3
  refine wp_region_held_drew (S := fun W => W.cell? p2 = some (.int .i64 x.a) ∧ W.cell? ⟨p2.block, p2.off + 1, none⟩ = some (.int .i64 x.b) ∧ W.cell? ⟨p2.block, p2.off + 2, none⟩ = some (.int .i64 x.c) ∧ W.cell? ⟨p2.block, p2.off + 3, none⟩ = some (.int .i64 x.d) ∧ W.cell? p3 = some (.int .i64 d) ∧ Below B w W) (by kernel_rfl) ?_ (fun hHeld => ?_)
  · exact HSS.out _ ((Below.refl _ _).drew)
  refine rg_take 0 (some 18) _ (by kernel_rfl) (by kernel_rfl) (by kernel_rfl) (fun _ _ _ h => h) (by kernel_rfl) (by kernel_rfl) (by intro w' hSw op_ ho; obtain ⟨v0, v1, v2, v3, v5, hb⟩ := hSw; simp only [List.getElem?_toArray, List.getElem?_cons_zero, Option.some.injEq] at ho; subst ho; go_simp; with_reducible rfl) (by assumption) ?_
  try simp only [Act.put, List.setIfInBounds_toArray, List.set_cons_zero, List.set_cons_succ]
  refine rg_take 1 (some 19) _ (by kernel_rfl) (by kernel_rfl) (by kernel_rfl) (fun _ _ _ h => h) (by kernel_rfl) (by kernel_rfl) (by intro w' hSw op_ ho; obtain ⟨v0, v1, v2, v3, v5, hb⟩ := hSw; simp only [List.getElem?_toArray, List.getElem?_cons_succ, List.getElem?_cons_zero, Option.some.injEq] at ho; subst ho; go_simp; with_reducible rfl) (by assumption) ?_
  try simp only [Act.put, List.setIfInBounds_toArray, List.set_cons_zero, List.set_cons_succ]
  refine rg_take 2 (some 20) _ (by kernel_rfl) (by kernel_rfl) (by kernel_rfl) (fun _ _ _ h => h) (by kernel_rfl) (by kernel_rfl) (by intro w' hSw op_ ho; obtain ⟨v0, v1, v2, v3, v5, hb⟩ := hSw; simp only [List.getElem?_toArray, List.getElem?_cons_succ, List.getElem?_cons_zero, Option.some.injEq] at ho; subst ho; go_simp; with_reducible rfl) (by assumption) ?_
  try simp only [Act.put, List.setIfInBounds_toArray, List.set_cons_zero, List.set_cons_succ]
  refine rg_take 3 (some 21) _ (by kernel_rfl) (by kernel_rfl) (by kernel_rfl) (fun _ _ _ h => h) (by kernel_rfl) (by kernel_rfl) (by intro w' hSw op_ ho; obtain ⟨v0, v1, v2, v3, v5, hb⟩ := hSw; simp only [List.getElem?_toArray, List.getElem?_cons_succ, List.getElem?_cons_zero, Option.some.injEq] at ho; subst ho; go_simp; with_reducible rfl) (by assumption) ?_
  try simp only [Act.put, List.setIfInBounds_toArray, List.set_cons_zero, List.set_cons_succ]
  refine rg_take 4 (some 22) _ (by kernel_rfl) (by kernel_rfl) (by kernel_rfl) (fun _ _ _ h => h) (by kernel_rfl) (by kernel_rfl) (by intro w' hSw op_ ho; obtain ⟨v0, v1, v2, v3, v5, hb⟩ := hSw; simp only [List.getElem?_toArray, List.getElem?_cons_succ, List.getElem?_cons_zero, Option.some.injEq] at ho; subst ho; go_simp; with_reducible rfl) (by assumption) ?_
  try simp only [Act.put, List.setIfInBounds_toArray, List.set_cons_zero, List.set_cons_succ]
  refine rg_take 5 (some 23) _ (by kernel_rfl) (by kernel_rfl) (by kernel_rfl) (fun _ _ _ h => h) (by kernel_rfl) (by kernel_rfl) (by intro w' hSw op_ ho; obtain ⟨v0, v1, v2, v3, v5, hb⟩ := hSw; simp only [List.getElem?_toArray, List.getElem?_cons_succ, List.getElem?_cons_zero, Option.some.injEq] at ho; subst ho; go_simp; with_reducible rfl) (by assumption) ?_
  try simp only [Act.put, List.setIfInBounds_toArray, List.set_cons_zero, List.set_cons_succ]
  refine rg_take 6 (some 24) _ (by kernel_rfl) (by kernel_rfl) (by kernel_rfl) (fun _ _ _ h => h) (by kernel_rfl) (by kernel_rfl) (by intro w' hSw op_ ho; obtain ⟨v0, v1, v2, v3, v5, hb⟩ := hSw; simp only [List.getElem?_toArray, List.getElem?_cons_succ, List.getElem?_cons_zero, Option.some.injEq] at ho; subst ho; go_simp; with_reducible rfl) (by assumption) ?_
  try simp only [Act.put, List.setIfInBounds_toArray, List.set_cons_zero, List.set_cons_succ]
  refine rg_take 7 (some 25) _ (by kernel_rfl) (by kernel_rfl) (by kernel_rfl) (fun _ _ _ h => h) (by kernel_rfl) (by kernel_rfl) (by intro w' hSw op_ ho; obtain ⟨v0, v1, v2, v3, v5, hb⟩ := hSw; simp only [List.getElem?_toArray, List.getElem?_cons_succ, List.getElem?_cons_zero, Option.some.injEq] at ho; subst ho; go_simp; with_reducible rfl) (by assumption) ?_
  try simp only [Act.put, List.setIfInBounds_toArray, List.set_cons_zero, List.set_cons_succ]
  refine rg_take 8 (some 26) _ (by kernel_rfl) (by kernel_rfl) (by kernel_rfl) (fun _ _ _ h => h) (by kernel_rfl) (by kernel_rfl) (by intro w' hSw op_ ho; obtain ⟨v0, v1, v2, v3, v5, hb⟩ := hSw; simp only [List.getElem?_toArray, List.getElem?_cons_succ, List.getElem?_cons_zero, Option.some.injEq] at ho; subst ho; go_simp; with_reducible rfl) (by assumption) ?_
  try simp only [Act.put, List.setIfInBounds_toArray, List.set_cons_zero, List.set_cons_succ]
  refine rg_one 9 (by kernel_rfl) (by kernel_rfl) (fun op_ ho K hK => ?_)
  simp only [List.getElem?_toArray, List.getElem?_cons_succ, List.getElem?_cons_zero, Option.some.injEq] at ho
  subst ho
  go_simp
  go_at_call 21
  refine (HT.out _ (Below.refl _ _).drew).mono ?_
  rintro e w5 ⟨rfl, hO5, hB5⟩
  have HO5 := Lib.hid hO5
  have HB5 := Lib.hid hB5
  clear hO5 hB5
  go_wp2_with fail
  refine hK.out _ _ (HSS.out _ HB5.out) (fun hHeld => ?_)
  clear hK
  try simp only [Act.put, List.setIfInBounds_toArray, List.set_cons_zero, List.set_cons_succ]
  refine wpAnyH_done (by kernel_rfl) ?_ _
  exact HQ.out _ _ _ _ _ _ _ _ _ _ w5 HO5.out HB5.out

set_option maxRecDepth 100000 in
set_option maxHeartbeats 6400000 in
theorem frest_c (s : Nat → Addr) (A : Option Addr) (c : Nat) (L : List Spt) (needs : List V4) (An : Option Addr) (cn : Nat) (ids : List Int) (Ai : Option Addr) (ci : Nat) (w : World) (hs : Sent s w) (h : LiesE encSpt w (.slice A L.length c) L) (hN : ReadsE encV16 w An needs) (hI : ReadsE encI w Ai ids) (hn : L.length ≤ 1000000) (hn2 : needs.length ≤ 1000000) :
    Calls Tryd.prog 12 #[.slice A L.length c, .slice An needs.length cn, .slice Ai ids.length ci] w fun e w' => Below w.heap.size w w' ∧ ∃ v', e = .returned v' ∧ OwnE encSpt 40 w' w.heap.size v' (restS L needs ids) := by
  have HN := Lib.hid hN
  have HI := Lib.hid hI
  have HS := Lib.hid hs
  have HC := Lib.hid (clone16_c _ L w h hn)
  obtain ⟨n, hne⟩ : ∃ n, min needs.length ids.length = n := ⟨_, rfl⟩
  have HNE : Hid (n ≤ needs.length ∧ n ≤ ids.length ∧ (needs.length ≤ n ∨ ids.length ≤ n)) := Lib.hid (by omega)
  have hmin : ∀ ts t W, (Builtin.min_ ts t #[.int .i64 (needs.length : Int), .int .i64 (ids.length : Int)]).run Tryd.prog W = .ok (.int .i64 (n : Int)) W := by
    intro ts t W
    rw [← hne]
    refine (run_min_int2 _ _ _ _ _ _ _).trans ?_
    by_cases h : (ids.length : Int) < (needs.length : Int)
    · rw [if_pos h, show min needs.length ids.length = ids.length by omega]
    · rw [if_neg h, show min needs.length ids.length = needs.length by omega]
  have hn3 : n ≤ 1000000 := by omega
  clear h hN hI hs hne hn2
  go_enter Tryd.func12, Tryd.ntmps12
  go_upto_region 1 with fail
  go_upto_region 2 with (refine HC.out.mono ?_; rintro e w1 ⟨v1, rfl, hv, b1⟩)
  have HB1 := Lib.hid b1
  obtain ⟨Am, cap, rfl⟩ := hv.form
  have HV1 := Lib.hid hv
  clear hv b1 HC
  go_upto_region 3 with fail
  go_loopg [15] n (fun gk s15 wr => ∃ (i : Nat) (m : List Spt), s15 = .int .i64 i ∧ i ≤ n ∧ n - i ≤ gk ∧ Aside (m.length = L.length ∧ restS m (needs.drop i) (ids.drop i) = restS L needs ids ∧ OwnE encSpt 40 wr w.heap.size (.slice Am L.length cap) m ∧ Below w.heap.size w wr))
  case atStart => exact ⟨0, L, rfl, Nat.zero_le _, Nat.le_refl _, rfl, rfl, HV1.out, HB1.out⟩
  case round =>
    obtain ⟨i, m, rfl, hi, hgk, IN⟩ := hrel
    have HML := Lib.hid IN.out.1
    have HRS := Lib.hid IN.out.2.1
    have HO := Lib.hid IN.out.2.2.1
    have HB := Lib.hid IN.out.2.2.2
    clear IN
    by_cases hlt : i < n
    · have hl1 : i < needs.length := by have := HNE.out; omega
      have hl2 : i < ids.length := by have := HNE.out; omega
      obtain ⟨x, hx⟩ : ∃ x, needs[i]? = some x := ⟨_, List.getElem?_eq_getElem hl1⟩
      obtain ⟨d, hd⟩ : ∃ d, ids[i]? = some d := ⟨_, List.getElem?_eq_getElem hl2⟩
      obtain ⟨ad2, p2, rfl, had2, hg2, hv2⟩ := HN.out i x hx
      obtain ⟨ad3, p3, rfl, had3, hg3, hv3⟩ := HI.out i d hd
      have HNX : Hid (restS (subS d x m) (needs.drop (i + 1)) (ids.drop (i + 1)) = restS L needs ids) := Lib.hid ((restS_step (m := m) hx hd).symm.trans HRS.out)
      rw [Nat.mul_one] at had3
      have HOM : Hid (OwnE encSpt 40 wr w.heap.size (.slice Am m.length cap) m) := Lib.hid (by rw [HML.out]; exact HO.out)
      have H1 := Lib.hid had2
      have H2 := Lib.hid had3
      have H3 := Lib.hid hg2
      have H4 := Lib.hid hg3
      have H5 := Lib.hid hv2
      have H6 : Hid (w.cell? p3 = some (.int .i64 d)) := Lib.hid ((congrArg w.cell? (add_zeroE p3).symm).trans (hv3 0 _ rfl))
      have hz1 : (i : Int) < (n : Int) := by omega
      have H7 : Hid ((i : Int) < (needs.length : Int) ∧ (i : Int) < (ids.length : Int)) := Lib.hid (by omega)
      clear hx hd had2 had3 hg2 hg3 hv2 hv3 hl1 hl2
      go_upto_region 5 with fail
      refine wp_reg (opsOf Tryd.f12 5) (by kernel_rfl) ?_
      rw [← HML.out]
      refine rest_r5 _ _ _ _ _ _ _ _ _ _ _ _ _ _ _ _ _ _ _ _ _ _ _ _ _ _ s w.heap.size Am ad2 ad3 p2 p3 cap needs.length cn ids.length ci i m x d _ wr (HS.out.below HB.out (Nat.le_refl _)) HOM.out HB.out.size (by have := HML.out; omega) H1.out H7.out.1 H2.out H7.out.2 (fun r u hu => (HB.out.cell (p := p2.add r) (by rw [block_add16]; exact H3.out)).trans (H5.out r u hu)) ((HB.out.cell (p := p3) H4.out).trans H6.out) H3.out H4.out ?_
      intro _ _ _ _ _ _ _ _ _ _ w5 hO5 hB5
      have HO5 : Hid (OwnE encSpt 40 w5 w.heap.size (.slice Am L.length cap) (subS d x m)) := Lib.hid (by have := hO5; rwa [HML.out] at this)
      have HB5 : Hid (Below w.heap.size w w5) := Lib.hid (HB.out.trans hB5)
      rw [HML.out]
      clear hO5 hB5
      go_wp2_with fail
      go_roundg (n - (i + 1))
      case measure => omega
      case rel => exact ⟨i + 1, subS d x m, by go_num, by omega, Nat.le_refl _, by rw [subS_len]; exact HML.out, HNX.out, HO5.out, HB5.out⟩
    · obtain rfl : i = n := by omega
      have hlz : ¬ ((i : Int) < (i : Int)) := by omega
      have HE : Hid (m = restS L needs ids) := Lib.hid (by rw [← HRS.out, restS_end HNE.out.2.2])
      clear hn hn3
      go_wp2_with fail
      go_ret
      exact ⟨HB.out, _, rfl, by rw [← HE.out]; exact HO.out⟩

/-- What the laws ask of the program's fit. -/
theorem fitC (s : Nat → Addr) : FitC s where
  best := fun A c L x w hs hL hn => fbest_c s A c L x w hs hL (by omega)
  all := fun A c L An cn needs w hs hL hN hn hn2 => (fall_c s A c L needs An cn w hs hL hN (by omega) (by omega)).mono fun e w' ⟨h1, v', h2, h3⟩ => by
    obtain ⟨B, c', rfl⟩ := h3.form
    exact ⟨h1, B, c', h2, h3⟩
  rest := fun A c L An cn needs Ai ci ids w hs hL hN hI hn hn2 hn3 => (frest_c s A c L needs An cn ids Ai ci w hs hL hN hI (by omega) (by omega)).mono fun e w' ⟨h1, v', h2, h3⟩ => by
    obtain ⟨B, c', rfl⟩ := h3.form
    exact ⟨h1, B, c', h2, h3⟩
end Go.Proofs.YtejaljcgcmdlgaaDoor
