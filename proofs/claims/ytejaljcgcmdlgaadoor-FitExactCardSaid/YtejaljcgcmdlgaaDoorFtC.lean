/- The program's fit by contract: Best, All. Conditions: the spots and the demands lie in memory. -/
import Derived.Test.YtejaljcgcmdlgaaDoorFtB
import Derived.Test.YtejaljcgcmdlgaaDoorFtP
import Derived.Test.YtejaljcgcmdlgaaDoorFtQ
namespace Go.Proofs.YtejaljcgcmdlgaaDoor
open Go Go.RowKit

set_option maxRecDepth 100000 in
set_option maxHeartbeats 1600000 in
/-- slices.Clone: a row of its own that holds the same, wherever the row lies. -/
theorem clone16_c (v : Value) (L : List Spt) (w : World) (h : LiesE encSpt w v L) (hn : L.length ≤ 1000000) :
    Calls Tryd.prog 20 #[v] w fun e w' => ∃ v', e = .returned v' ∧ OwnE encSpt 40 w' w.heap.size v' L ∧ Below w.heap.size w w' := by
  have q24 : ∀ (w : World) (a : Option Addr) (n c n' c' : Nat), (binOp .eql 22 (.slice a n c) (.slice none n' c')).run Tryd.prog w = .ok (.bool a.isNone) w := fun w a n c n' c' => Lib.run_eql_slice_nil w _ _ a n c n' c' Tryd.underlying22
  rcases id h with ⟨rfl, rfl⟩ | ⟨ad, cap, rfl, _, _⟩
  · go_enter Tryd.func20, Tryd.ntmps20
    go_wp2_with fail
    go_ret
    exact ⟨_, rfl, OwnE.nil .., Below.refl _ _⟩
  · obtain ⟨i0, hi0, hz0, hz1, hz2⟩ := info_parts Tryd.infoPS
    have A1 := Lib.hid (OwnE.none (E := encSpt) (e := 40) w (base := w.heap.size) (Nat.le_refl _))
    have A2 := Lib.hid (h.onB (w' := w.alloc (.cells #[] 40)) ((Below.refl _ _).alloc (Nat.le_refl _) _))
    have A3 : Hid (([] : List Spt).length + L.length ≤ maxLen) := by simp only [Hid, List.length_nil, maxLen]; omega
    have A4 : Hid ((([] : List Spt).length + L.length) * 40 ≤ 140737488355328) := by simp only [Hid, List.length_nil]; omega
    have A5 : Hid (w.heap.size ≤ (w.alloc (.cells #[] 40)).heap.size) := by simp only [Hid, World.size_alloc]; omega
    clear h hn
    go_enter Tryd.func20, Tryd.ntmps20
    go_wp2_with (at_builtin; refine wpList_append_E rfl _ _ 22 rfl i0 _ 40 Tryd.underlying22 hi0 hz0 hz1 hz2 rfl (by decide) rfl A1.out rfl A2.out A3.out A4.out A5.out ?_; intro v' w' hv hgr hown)
    go_ret
    refine ⟨_, rfl, hv, ?_⟩
    exact ((Below.refl _ _).alloc (Nat.le_refl _) _).grown hgr (by simp) (fun k hk => by have e : some w.heap.size = some k := hk; cases e; exact Nat.le_refl _)

set_option maxRecDepth 100000 in
set_option maxHeartbeats 1600000 in
theorem fbest_c (s : Nat → Addr) (A : Option Addr) (c : Nat) (L : List Spt) (x : V4) (w : World) (hs : Sent s w) (hL : LiesE encSpt w (.slice A L.length c) L) (hn : L.length ≤ 1000000) :
    Calls Tryd.prog 8 #[.slice A L.length c, .agg #[.int .i64 x.a, .int .i64 x.b, .int .i64 x.c, .int .i64 x.d]] w fun e w' => e = .returned (.tuple #[.int .i64 (idS (bestS x L)), .bool (bestS x L).isSome]) ∧ Below w.heap.size w w' := by
  have hr := lies_reads (by decide) hL
  have HL := Lib.hid hr
  have HC : Hid (∀ W, Below w.heap.size w W → Calls Tryd.prog 17 #[.slice A L.length c, .agg #[.int .i64 x.a, .int .i64 x.b, .int .i64 x.c, .int .i64 x.d]] W fun e w' => e = .returned (.tuple #[.int .i64 (placeS (bestS x L)), .agg #[.int .i64 (remB x (bestS x L)).a, .int .i64 (remB x (bestS x L)).b, .int .i64 (remB x (bestS x L)).c, .int .i64 (remB x (bestS x L)).d]]) ∧ Below W.heap.size W w') := Lib.hid fun W hb => best_c s A c L x W (hs.below hb (Nat.le_refl _)) (hr.on hb) hn
  have HG : Hid (∀ a t, bestS x L = some (a, t) → L[a]? = some t) := Lib.hid fun a t h => bestS_get h
  have HB1 : Hid (Below w.heap.size w (w.alloc (.cells #[.int .i64 x.a, .int .i64 x.b, .int .i64 x.c, .int .i64 x.d] 31))) := Lib.hid ((Below.refl _ _).alloc (Nat.le_refl _) _)
  clear hr hL hs
  generalize bestS x L = be at *
  go_enter Tryd.func8, Tryd.ntmps8
  go_wp2_with fail
  refine (HC.out _ HB1.out).mono ?_
  rintro e w1 ⟨rfl, b1⟩
  have HB2 : Hid (Below w.heap.size w w1) := Lib.hid (HB1.out.trans (b1.mono HB1.out.size))
  clear b1
  cases be with
  | none =>
    rw [show placeS none = -1 from rfl]
    go_wp2_with fail
    exact bodyPost_ret (v := .tuple #[.int .i64 0, .bool false]) (by simp [results, Tryd.results8, go_sem]) rfl ⟨rfl, HB2.out.alloc HB2.out.size _⟩
  | some q =>
    obtain ⟨a, t⟩ := q
    obtain ⟨ad, p, rfl, hadd, hp, hc⟩ := HL.out a t (HG.out a t rfl)
    have hal : (a : Int) < (L.length : Int) := by have := (List.getElem?_eq_some_iff.1 (HG.out a t rfl)).1; omega
    have han : ¬ ((a : Int) < 0) := by omega
    have v0 := (HB2.out.cell (p := p) hp).trans ((congrArg w.cell? (add_zeroE p).symm).trans (hc 0 _ rfl))
    have hpl : p.block < w1.heap.size := Nat.lt_of_lt_of_le hp HB2.out.size
    rw [show placeS (some (a, t)) = (a : Int) from rfl]
    clear hc hp
    go_wp2_with fail
    exact bodyPost_ret (v := .tuple #[.int .i64 t.id, .bool true]) (by simp [results, Tryd.results8, go_sem]) rfl ⟨rfl, HB2.out.alloc HB2.out.size _⟩

set_option maxRecDepth 100000 in
set_option maxHeartbeats 6400000 in
theorem fall_c (s : Nat → Addr) (A : Option Addr) (c : Nat) (L : List Spt) (needs : List V4) (An : Option Addr) (cn : Nat) (w : World) (hs : Sent s w) (h : LiesE encSpt w (.slice A L.length c) L) (hN : ReadsE encV16 w An needs) (hn : L.length ≤ 1000000) (hn2 : needs.length ≤ 1000000) :
    Calls Tryd.prog 10 #[.slice A L.length c, .slice An needs.length cn] w fun e w' => Below w.heap.size w w' ∧ ∃ v', e = .returned (.tuple #[v', .int .i64 (allS L needs [] 0).2]) ∧ OwnE encI 3 w' w.heap.size v' (allS L needs [] 0).1 := by
  obtain ⟨iI, hiI, hI0, hI1, hI2⟩ := info_parts Tryd.infoI16
  have HN := Lib.hid hN
  have HII := Lib.hid hiI
  have HS := Lib.hid hs
  have HC := Lib.hid (clone16_c _ L w h hn)
  clear h hN hiI hs
  go_enter Tryd.func10, Tryd.ntmps10
  go_upto_region 1 with fail
  go_upto_region 2 with (refine HC.out.mono ?_; rintro e w1 ⟨v1, rfl, hv, b1⟩)
  have HB1 := Lib.hid b1
  obtain ⟨Am, cap, rfl⟩ := hv.form
  have HV1 := Lib.hid hv
  clear hv b1 HC
  go_upto_region 4 with fail
  go_loopg [6, 15] needs.length (fun gk s6 s15 wr => ∃ (i : Nat) (m : List Spt) (out : List Int) (Bo : Option Addr) (co : Nat), s15 = .int .i64 i ∧ s6 = .slice Bo i co ∧ i ≤ needs.length ∧ needs.length - i ≤ gk ∧ Aside (m.length = L.length ∧ out.length = i ∧ allS m (needs.drop i) out i = allS L needs [] 0 ∧ OwnE encSpt 40 wr w.heap.size (.slice Am L.length cap) m ∧ OwnE encI 3 wr w.heap.size (.slice Bo i co) out ∧ Below w.heap.size w wr))
  case atStart => exact ⟨0, L, [], _, _, rfl, rfl, Nat.zero_le _, Nat.le_refl _, rfl, rfl, rfl, HV1.out, OwnE.nil .., HB1.out⟩
  case round =>
    obtain ⟨i, m, out, Bo, co, rfl, rfl, hi, hgk, IN⟩ := hrel
    have HML := Lib.hid IN.out.1
    have HOL := Lib.hid IN.out.2.1
    have HAS := Lib.hid IN.out.2.2.1
    have HO := Lib.hid IN.out.2.2.2.1
    have HU := Lib.hid IN.out.2.2.2.2.1
    have HB := Lib.hid IN.out.2.2.2.2.2
    clear IN
    by_cases hlt : i < needs.length
    · obtain ⟨x, hx⟩ : ∃ x, needs[i]? = some x := ⟨_, List.getElem?_eq_getElem hlt⟩
      obtain ⟨ad2, p2, rfl, had2, hg2, hv2⟩ := HN.out i x hx
      have hst := (allS_step (m := m) (out := out) hx).symm.trans HAS.out
      have HST := Lib.hid hst
      have hz2 : (i : Int) < (needs.length : Int) := by omega
      have v0 := (HB.out.cell (p := p2) hg2).trans ((congrArg w.cell? (add_zeroE p2).symm).trans (hv2 0 _ rfl))
      have v1 := (HB.out.cell (p := ⟨p2.block, p2.off + 1, none⟩) hg2).trans (hv2 1 _ rfl)
      have v2 := (HB.out.cell (p := ⟨p2.block, p2.off + 2, none⟩) hg2).trans (hv2 2 _ rfl)
      have v3 := (HB.out.cell (p := ⟨p2.block, p2.off + 3, none⟩) hg2).trans (hv2 3 _ rfl)
      have hpl2 : p2.block < wr.heap.size := Nat.lt_of_lt_of_le hg2 HB.out.size
      have HRA : Hid (∀ W, Below wr.heap.size wr W → Calls Tryd.prog 17 #[.slice Am L.length cap, .agg #[.int .i64 x.a, .int .i64 x.b, .int .i64 x.c, .int .i64 x.d]] W fun e w' => e = .returned (.tuple #[.int .i64 (placeS (bestS x m)), .agg #[.int .i64 (remB x (bestS x m)).a, .int .i64 (remB x (bestS x m)).b, .int .i64 (remB x (bestS x m)).c, .int .i64 (remB x (bestS x m)).d]]) ∧ Below W.heap.size W w') := Lib.hid fun W hb => by
        have := best_c s Am cap m x W (HS.out.below (HB.out.trans (hb.mono HB.out.size)) (Nat.le_refl _)) ((own_reads HO.out).on hb) (by have := HML.out; omega)
        rwa [HML.out] at this
      have HB5 : Hid (Below wr.heap.size wr (wr.alloc (.cells #[.int .i64 x.a, .int .i64 x.b, .int .i64 x.c, .int .i64 x.d] 31))) := Lib.hid ((Below.refl _ _).alloc (Nat.le_refl _) _)
      clear hx hg2 hv2 hst
      go_wp2_with fail
      refine (HRA.out _ HB5.out).mono ?_
      rintro e w2 ⟨rfl, b2⟩
      have HB2 : Hid (Below wr.heap.size wr w2) := Lib.hid (HB5.out.trans (b2.mono HB5.out.size))
      clear b2 v0 v1 v2 v3 had2 HRA hpl2
      generalize hbe : bestS x m = be at HST
      cases be with
      | none =>
        have HST' : Hid (([], (i : Int)) = allS L needs [] 0) := Lib.hid HST.out
        rw [show placeS none = -1 from rfl]
        clear hbe
        have hb0 : Below w.heap.size w w2 := HB.out.trans (HB2.out.mono HB.out.size)
        have HB0 := Lib.hid hb0
        clear hb0
        go_wp2_with fail
        exact bodyPost_ret (v := .tuple #[.slice none 0 0, .int .i64 (i : Int)]) (by simp [results, Tryd.results10, go_sem]) rfl ⟨HB0.out.alloc HB0.out.size _, _, by rw [← HST'.out], by rw [← HST'.out]; exact OwnE.nil ..⟩
      | some p =>
        obtain ⟨a, t⟩ := p
        have hat := bestS_get hbe
        have HAT := Lib.hid hat
        have hal : (a : Int) < (L.length : Int) := by have := (List.getElem?_eq_some_iff.1 hat).1; have := HML.out; omega
        have han : ¬ ((a : Int) < 0) := by omega
        rw [show placeS (some (a, t)) = (a : Int) from rfl, show remB x (some (a, t)) = remS t x from rfl]
        obtain ⟨W2, hW2⟩ : ∃ W2, w2.alloc (.cells #[.int .i64 (remS t x).a, .int .i64 (remS t x).b, .int .i64 (remS t x).c, .int .i64 (remS t x).d] 31) = W2 := ⟨_, rfl⟩
        have hbW : Below wr.heap.size wr W2 := by rw [← hW2]; exact HB2.out.alloc HB2.out.size _
        have HBW := Lib.hid hbW
        have HY2 : Hid (Vk W2 w2.heap.size (remS t x)) := Lib.hid (by rw [← hW2]; exact heap_alloc_new w2 _)
        have HO2 := Lib.hid (HO.out.on hbW)
        have HU2 := Lib.hid (HU.out.on hbW)
        have E2 := Lib.hid hW2
        obtain ⟨ad, ga, rfl, hadd, hsp, _⟩ := own_spt HO2.out hat
        have HADD := Lib.hid (hadd a (by have := HML.out; omega))
        have HSP := Lib.hid hsp
        have HB02 : Hid (Below w.heap.size w W2) := Lib.hid (HB.out.trans (hbW.mono HB.out.size))
        clear hbe hat hadd hsp hW2 hbW
        go_upto_region 9 with fail
        rw [E2.out]
        obtain ⟨y0, y1, y2, y3, yl, _⟩ := HY2.out.cells
        obtain ⟨s0, s1, s2, s3, s4, sl, sf⟩ := HSP.out
        have had := HADD.out
        go_upto_region 10 with fail
        obtain ⟨w3, hw3⟩ : ∃ w3, w3 = ((((W2.setCell ⟨ga, a * 5 + 1, none⟩ (.int .i64 (remS t x).a)).setCell ⟨ga, a * 5 + 1 + 1, none⟩ (.int .i64 (remS t x).b)).setCell ⟨ga, a * 5 + 1 + 2, none⟩ (.int .i64 (remS t x).c)).setCell ⟨ga, a * 5 + 1 + 3, none⟩ (.int .i64 (remS t x).d)) := ⟨_, rfl⟩
        rw [← hw3]
        have hO3 : OwnE encSpt 40 w3 w.heap.size (.slice (some ad) L.length cap) (m.set a (cutS t x)) := by rw [hw3]; exact own_cut' HO2.out HAT.out HADD.out HML.out (remS t x)
        have hUa : OwnE encI 3 W2 w.heap.size (.slice Bo i co) out := HU2.out
        have hU3 : OwnE encI 3 w3 w.heap.size (.slice Bo i co) out := hUa.same fun k hk => by
          rw [hw3]
          refine heap_set4 (fun e => ?_) _ _ _ _ _ _ _ _
          subst e
          obtain ⟨rfl, _⟩ := own_block HO2.out HAT.out HADD.out
          exact own_apart hUa HO2.out (by decide) k hk rfl
        have hB3 : Below w.heap.size w w3 := by rw [hw3]; exact below_set4 HB02.out (own_low HO2.out HAT.out HADD.out) _ _ _ _
        have hci : w3.cell? ⟨ga, a * 5, none⟩ = some (.int .i64 t.id) := by
          have hlen := (List.getElem?_eq_some_iff.1 HAT.out).1
          obtain ⟨ad', ga', e, h1, h2, _⟩ := own_spt hO3 (List.getElem?_set_self hlen)
          cases e
          have e2 := (h1 a (by rw [List.length_set]; exact hlen)).symm.trans HADD.out
          simp only [Addr.mk.injEq, and_true] at e2
          rw [← e2]
          exact h2.1
        have had := HADD.out
        have A1 : Hid (OwnE encI 3 (w3.alloc (.cells #[.int .i64 t.id] 3)) w.heap.size (.slice Bo i co) out) := Lib.hid (hU3.on ((Below.refl _ _).alloc (Nat.le_refl _) _))
        have A2 : Hid (LiesE encI (w3.alloc (.cells #[.int .i64 t.id] 3)) (.slice (some ⟨w3.heap.size, 0, none⟩) 1 1) [t.id]) := lies_one16 (heap_alloc_new w3 _)
        have A3 : Hid (out.length + [t.id].length ≤ maxLen) := by have := HOL.out; simp only [Hid, List.length_cons, List.length_nil, maxLen]; omega
        have A4 : Hid ((out.length + [t.id].length) * 8 ≤ 140737488355328) := by have := HOL.out; simp only [Hid, List.length_cons, List.length_nil]; omega
        have A5 : Hid (w.heap.size ≤ (w3.alloc (.cells #[.int .i64 t.id] 3)).heap.size) := by have := hB3.size; simp only [Hid, World.size_alloc]; omega
        have HO3 : Hid (OwnE encSpt 40 (w3.alloc (.cells #[.int .i64 t.id] 3)) w.heap.size (.slice (some ad) L.length cap) (m.set a (cutS t x))) := Lib.hid (hO3.on ((Below.refl _ _).alloc (Nat.le_refl _) _))
        have HB3 : Hid (Below w.heap.size w (w3.alloc (.cells #[.int .i64 t.id] 3))) := Lib.hid (hB3.alloc hB3.size _)
        clear hw3 hO3 hUa hU3 hB3 y0 y1 y2 y3 yl s0 s1 s2 s3 s4 sl sf
        go_wp2_with (at_builtin; refine wpList_append_E rfl _ _ 24 rfl iI _ 8 Tryd.underlying24 HII.out hI0 hI1 hI2 rfl (by decide) rfl A1.out rfl A2.out A3.out A4.out A5.out ?_; intro v' w' hv hgr hown; obtain ⟨B', c', e'⟩ := hv.form; rw [List.length_append, HOL.out, show [t.id].length = 1 from rfl] at e'; subst e'; have HV := Lib.hid hv; have HGR := Lib.hid hgr; clear hv hgr hown)
        go_roundg (needs.length - (i + 1))
        case measure => omega
        case rel =>
          refine ⟨i + 1, m.set a (cutS t x), out ++ [t.id], B', c', by go_num, rfl, by omega, Nat.le_refl _, by rw [List.length_set]; exact HML.out, by rw [List.length_append, HOL.out]; rfl, HST.out, ?_, HV.out, HB3.out.grown HGR.out (HB3.out.size) fun j hj => (A1.out.lt j hj).1⟩
          exact HO3.out.same fun k hk => HGR.out.block k (HO3.out.lt k hk).2 fun e => own_apart A1.out HO3.out (by decide) k e.symm hk
    · obtain rfl : i = needs.length := by omega
      have he : (out, (-1 : Int)) = allS L needs [] 0 := by have := HAS.out; rw [List.drop_eq_nil_of_le (Nat.le_refl _)] at this; exact this
      have HE := Lib.hid he
      have hz1 : ¬ (needs.length : Int) < (needs.length : Int) := by omega
      clear he
      go_wp2_with fail
      exact bodyPost_ret (v := .tuple #[.slice Bo needs.length co, .int .i64 (-1)]) (by simp [results, Tryd.results10, go_sem]) rfl ⟨HB.out, _, by rw [← HE.out], by rw [← HE.out]; exact HU.out⟩

end Go.Proofs.YtejaljcgcmdlgaaDoor
