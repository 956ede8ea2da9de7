/- The law FitExact, walked by contracts. Conditions: the program's functions keep their contracts (FitC); the arguments lie in memory. -/
import Derived.Test.YtejaljcgcmdlgaaDoorFtEa
import Derived.Test.YtejaljcgcmdlgaaDoorFtQ
import Derived.Test.YtejaljcgcmdlgaaDoorFtN
import Derived.Test.YtejaljcgcmdlgaaDoorFtY
import Derived.Test.YtejaljcgcmdlgaaDoorFtL
namespace Go.Proofs.YtejaljcgcmdlgaaDoor
open Go Go.RowKit

theorem restS_len : ∀ (needs : List V4) (m : List Spt) (ids : List Int), (restS m needs ids).length = m.length
  | [], m, ids => by cases ids <;> rfl
  | x :: r, m, [] => rfl
  | x :: r, m, d :: q => by rw [restS, restS_len r, subS_len]

set_option maxRecDepth 100000 in
set_option maxHeartbeats 6400000 in
theorem fitExact_any (s : Nat → Addr) (F : FitC s) (A : Option Addr) (c : Nat) (L : List Spt) (An : Option Addr) (cn : Nat) (needs : List V4) (Ai : Option Addr) (ci : Nat) (ids : List Int) (w : World) (hs : Sent s w) (hL : LiesE encSpt w (.slice A L.length c) L) (hN : ReadsE encV16 w An needs) (hI : ReadsE encI w Ai ids) :
    Calls Tryd.prog 3 #[.slice A L.length c, .slice An needs.length cn, .slice Ai ids.length ci] w fun e w' => e = .returned (.bool true) ∧ Below w.heap.size w w' := by
  have HF := Lib.hid F
  have HL := Lib.hid hL
  have HLR := Lib.hid (lies_reads (by decide) hL)
  have HN := Lib.hid hN
  have HI := Lib.hid hI
  have HS := Lib.hid hs
  have HAW := Lib.hid (awake16_c s F w hs)
  clear F hL hN hI hs
  go_enter Tryd.func3, Tryd.ntmps3
  go_wp2_with fail
  refine HAW.out.mono ?_
  rintro e w1 ⟨rfl, b1⟩
  have HB1 := Lib.hid b1
  clear b1 HAW
  by_cases h1 : 20 < L.length
  · have d1 : (20 : Int) < (L.length : Int) := by omega
    clear h1
    go_wp2_with fail
    go_ret
    exact ⟨rfl, HB1.out⟩
  by_cases h2 : 20 < needs.length
  · have d1 : ¬ (20 : Int) < (L.length : Int) := by omega
    have d2 : (20 : Int) < (needs.length : Int) := by omega
    clear h1 h2
    go_wp2_with fail
    go_ret
    exact ⟨rfl, HB1.out⟩
  by_cases h3 : 20 < ids.length
  · have d1 : ¬ (20 : Int) < (L.length : Int) := by omega
    have d2 : ¬ (20 : Int) < (needs.length : Int) := by omega
    have d3 : (20 : Int) < (ids.length : Int) := by omega
    clear h1 h2 h3
    go_wp2_with fail
    go_ret
    exact ⟨rfl, HB1.out⟩
  have d1 : ¬ (20 : Int) < (L.length : Int) := by omega
  have d2 : ¬ (20 : Int) < (needs.length : Int) := by omega
  have d3 : ¬ (20 : Int) < (ids.length : Int) := by omega
  have HLL : Hid (L.length ≤ 20) := Lib.hid (by omega)
  have HNL : Hid (needs.length ≤ 20) := Lib.hid (by omega)
  have HIL : Hid (ids.length ≤ 20) := Lib.hid (by omega)
  have HFO := Lib.hid (form_c A c L w1 (HLR.out.on HB1.out) (by omega))
  clear h1 h2 h3
  go_wp2_with fail
  refine HFO.out.mono ?_
  rintro e w2 ⟨b2, u, rfl, ou⟩
  have HB2 : Hid (Below w.heap.size w w2) := Lib.hid (HB1.out.trans (b2.mono HB1.out.size))
  obtain ⟨Bu, cu, rfl⟩ := ou.form
  have HU := Lib.hid ou
  clear b2 ou HFO d1 d2 d3
  have hnl : needs.length ≤ 20 := HNL.out
  go_upto_region 7 with fail
  go_loopg [8] needs.length (fun gk s8 wr => ∃ (i : Nat), s8 = .int .i64 i ∧ i ≤ needs.length ∧ needs.length - i ≤ gk ∧ Aside (Below w2.heap.size w2 wr))
  case atStart => exact ⟨0, rfl, Nat.zero_le _, Nat.le_refl _, Below.refl _ _⟩
  case round =>
    obtain ⟨i, rfl, hi, hgk, IN⟩ := hrel
    have HB := Lib.hid IN.out
    have HB0 : Hid (Below w.heap.size w wr) := Lib.hid (HB2.out.trans (IN.out.mono HB2.out.size))
    clear IN
    by_cases hlt : i < needs.length
    · have hltz : (i : Int) < (needs.length : Int) := by omega
      obtain ⟨x, hx⟩ : ∃ x, needs[i]? = some x := ⟨_, List.getElem?_eq_getElem hlt⟩
      obtain ⟨ad2, p2, rfl, had2, hg2, hv2⟩ := HN.out i x hx
      have v0 := (HB0.out.cell (p := p2) hg2).trans ((congrArg w.cell? (add_zeroE p2).symm).trans (hv2 0 _ rfl))
      have v1 := (HB0.out.cell (p := ⟨p2.block, p2.off + 1, none⟩) hg2).trans (hv2 1 _ rfl)
      have v2 := (HB0.out.cell (p := ⟨p2.block, p2.off + 2, none⟩) hg2).trans (hv2 2 _ rfl)
      have v3 := (HB0.out.cell (p := ⟨p2.block, p2.off + 3, none⟩) hg2).trans (hv2 3 _ rfl)
      have HV2 := Lib.hid hv2
      have HG2 := Lib.hid hg2
      have HBE := Lib.hid (HF.out.best A c L x wr (HS.out.below HB0.out (Nat.le_refl _)) (HL.out.onB HB0.out) (by have := HLL.out; omega))
      have HBG : Hid (∀ a t, bestS x L = some (a, t) → L[a]? = some t) := Lib.hid fun a t h => bestS_get h
      clear hx hg2 hv2
      go_upto_region 9 with fail
      go_wp2_with fail
      refine HBE.out.mono ?_
      rintro e w3 ⟨rfl, b3⟩
      have HB3 : Hid (Below w2.heap.size w2 w3) := Lib.hid (HB.out.trans (b3.mono HB.out.size))
      have HB03 : Hid (Below w.heap.size w w3) := Lib.hid (HB2.out.trans (HB3.out.mono HB2.out.size))
      clear b3 v0 v1 v2 v3 HBE
      have v0 := (HB03.out.cell (p := p2) HG2.out).trans ((congrArg w.cell? (add_zeroE p2).symm).trans (HV2.out 0 _ rfl))
      have v1 := (HB03.out.cell (p := ⟨p2.block, p2.off + 1, none⟩) HG2.out).trans (HV2.out 1 _ rfl)
      have v2 := (HB03.out.cell (p := ⟨p2.block, p2.off + 2, none⟩) HG2.out).trans (HV2.out 2 _ rfl)
      have v3 := (HB03.out.cell (p := ⟨p2.block, p2.off + 3, none⟩) HG2.out).trans (HV2.out 3 _ rfl)
      have HAT := Lib.hid (rat_c x _ _ L w3 (HU.out.on HB3.out) (by have := HLL.out; omega))
      go_wp2_with fail
      refine HAT.out.mono ?_
      rintro e w4 ⟨rfl, b4⟩
      have HB4 : Hid (Below w2.heap.size w2 w4) := Lib.hid (HB3.out.trans (b4.mono HB3.out.size))
      clear b4 v0 v1 v2 v3 HAT
      generalize bestS x L = be at HBG
      cases be with
      | none =>
        rw [show placeS none = -1 from rfl, show idS none = 0 from rfl]
        go_wp2_with fail
        go_roundg (needs.length - (i + 1))
        case measure => omega
        case rel => exact ⟨i + 1, by go_num, by omega, Nat.le_refl _, HB4.out⟩
      | some q =>
        obtain ⟨a, t⟩ := q
        rw [show placeS (some (a, t)) = (a : Int) from rfl, show idS (some (a, t)) = t.id from rfl]
        have hat := HBG.out a t rfl
        have hal : (a : Int) < (L.length : Int) := by have := (List.getElem?_eq_some_iff.1 hat).1; omega
        have ha0 : (0 : Int) ≤ (a : Int) := by omega
        obtain ⟨adu, gu, rfl, hadd, hsp, _⟩ := own_spt (HU.out.on HB4.out) hat
        have had := hadd a (by have := (List.getElem?_eq_some_iff.1 hat).1; omega)
        obtain ⟨c0, _, _, _, _, cl, _⟩ := hsp
        clear hadd hat
        go_wp2_with fail
        go_roundg (needs.length - (i + 1))
        case measure => omega
        case rel => exact ⟨i + 1, by go_num, by omega, Nat.le_refl _, HB4.out⟩
    · obtain rfl : i = needs.length := by omega
      have hlz : ¬ ((needs.length : Int) < (needs.length : Int)) := by omega
      have HAL := Lib.hid (HF.out.all A c L An cn needs wr (HS.out.below HB0.out (Nat.le_refl _)) (HL.out.onB HB0.out) (HN.out.on HB0.out) (by have := HLL.out; omega) (by omega))
      go_upto_region 13 with fail
      go_wp2_with fail
      refine HAL.out.mono ?_
      rintro e w3 ⟨b3, B3, c3, rfl, o3⟩
      have HB3 : Hid (Below w2.heap.size w2 w3) := Lib.hid (HB.out.trans (b3.mono HB.out.size))
      have HB03 : Hid (Below w.heap.size w w3) := Lib.hid (HB2.out.trans (HB3.out.mono HB2.out.size))
      have HO3 := Lib.hid o3
      have HRA := Lib.hid (rall_c _ _ L needs An cn w3 (HU.out.on HB3.out) (HN.out.on HB03.out) (by have := HLL.out; omega) (by omega))
      clear b3 o3 HAL
      go_wp2_with fail
      refine HRA.out.mono ?_
      rintro e w4 ⟨b4, v4, rfl, o4⟩
      obtain ⟨B4, c4, rfl⟩ := o4.form
      have HB4 : Hid (Below w2.heap.size w2 w4) := Lib.hid (HB3.out.trans (b4.mono HB3.out.size))
      have HR3 := Lib.hid (own_reads (HO3.out.on b4))
      have HR4 := Lib.hid (own_reads o4)
      have HLE : Hid ((allS L needs [] 0).1.length ≤ 20) := Lib.hid (by
        rcases allS_cases needs L [] 0 with ⟨_, l, h2, h3⟩ | ⟨k, h1, _, _⟩
        · rw [h2, List.nil_append, h3]; exact hnl
        · rw [h1]; simp)
      generalize allS L needs [] 0 = q at *
      obtain ⟨l, z⟩ := q
      obtain ⟨m, hm⟩ : ∃ m, l.length = m := ⟨_, rfl⟩
      simp only at HLE ⊢ HR3 HR4
      rw [hm] at HLE ⊢
      have HM := Lib.hid hm
      have hm20 : m ≤ 20 := HLE.out
      clear b4 o4 HRA HO3 hm
      go_upto_region 18 with fail
      go_loopg [16] m (fun gk s16 wq => ∃ (j : Nat), s16 = .int .i64 j ∧ j ≤ m ∧ m - j ≤ gk ∧ Aside (Below w4.heap.size w4 wq))
      case atStart => exact ⟨0, rfl, Nat.zero_le _, Nat.le_refl _, Below.refl _ _⟩
      case round =>
        obtain ⟨j, rfl, hj, hgj, IN⟩ := hrel
        have HBJ := Lib.hid IN.out
        clear IN
        by_cases hjt : j < m
        · have hjz : (j : Int) < (m : Int) := by omega
          obtain ⟨d, hd⟩ : ∃ d, l[j]? = some d := ⟨_, List.getElem?_eq_getElem (by have := HM.out; omega)⟩
          obtain ⟨ad3, p3, rfl, h31, h32, h33⟩ := HR3.out j d hd
          obtain ⟨ad4, p4, rfl, h41, h42, h43⟩ := HR4.out j d hd
          rw [Nat.mul_one] at h31 h41
          have HC3 : Hid (wr.cell? p3 = some (.int .i64 d)) := Lib.hid ((HBJ.out.cell (p := p3) h32).trans ((congrArg w4.cell? (add_zeroE p3).symm).trans (h33 0 _ rfl)))
          have HC4 : Hid (wr.cell? p4 = some (.int .i64 d)) := Lib.hid ((HBJ.out.cell (p := p4) h42).trans ((congrArg w4.cell? (add_zeroE p4).symm).trans (h43 0 _ rfl)))
          have H31 := Lib.hid h31
          have H41 := Lib.hid h41
          clear hd h31 h32 h33 h41 h42 h43
          go_upto_region 20 with fail
          refine wp_reg (opsOf Tryd.f3 20) (by kernel_rfl) ?_
          refine ex_r20 _ _ _ _ _ _ _ _ _ _ _ _ _ _ _ _ _ _ _ _ _ _ _ _ _ _ _ _ _ _ _ _ _ _ _ _ _ _ _ _ _ _ _ _ _ _ _ _ _ _ _ _ _ _ _ _ _ _ _ _ _ _ _ _ _ _ _ _ _ _ _ _ _ _ _ _ _ _ _ _ _ _ _ _ _ _ _ _ _ _ _ _ _ _ _ _ _ _ _ _ _ _ _ _ _ _ _ _ _ _ _ _ _ _ _ _ _ _ _ _ _ _ _ _ _ _ _ _ _ _ _ _ _ _ _ _ _ _ _ _ _ _ _ _ _ _ _ _ _ _ _ _ _ _ _ _ _ _ _ ad3 ad4 p3 p4 m c3 c4 j d _ wr H31.out H41.out hjz HC3.out HC4.out ?_
          intro _ _ _ _ _ _ _ _ w5 b5
          have HB5 : Hid (Below w4.heap.size w4 w5) := Lib.hid (HBJ.out.trans (b5.mono HBJ.out.size))
          clear b5
          go_wp2_with fail
          go_roundg (m - (j + 1))
          case measure => omega
          case rel => exact ⟨j + 1, by go_num, by omega, Nat.le_refl _, HB5.out⟩
        · obtain rfl : j = m := by omega
          have hlz2 : ¬ ((j : Int) < (j : Int)) := by omega
          have HBR : Hid (Below w2.heap.size w2 wr) := Lib.hid (HB4.out.trans (HBJ.out.mono HB4.out.size))
          have HBR0 : Hid (Below w.heap.size w wr) := Lib.hid (HB2.out.trans (HBR.out.mono HB2.out.size))
          have HRE := Lib.hid (HF.out.rest A c L An cn needs Ai ci ids wr (HS.out.below HBR0.out (Nat.le_refl _)) (HL.out.onB HBR0.out) (HN.out.on HBR0.out) (HI.out.on HBR0.out) (by have := HLL.out; omega) (by omega) (by have := HIL.out; omega))
          go_upto_region 22 with fail
          go_wp2_with fail
          refine HRE.out.mono ?_
          rintro e w5 ⟨b5, B5, c5, rfl, o5⟩
          have HB5 : Hid (Below w2.heap.size w2 w5) := Lib.hid (HBR.out.trans (b5.mono HBR.out.size))
          have HB05 : Hid (Below w.heap.size w w5) := Lib.hid (HB2.out.trans (HB5.out.mono HB2.out.size))
          have HO5 := Lib.hid o5
          have HRR := Lib.hid (rrest_c _ _ L needs ids An Ai cn ci w5 (HU.out.on HB5.out) (HN.out.on HB05.out) (HI.out.on HB05.out) (by have := HLL.out; omega) (by omega) (by have := HIL.out; omega))
          clear b5 o5 HRE
          go_wp2_with fail
          refine HRR.out.mono ?_
          rintro e w6 ⟨b6, v6, rfl, o6⟩
          obtain ⟨B6, c6, rfl⟩ := o6.form
          have HB06 : Hid (Below w.heap.size w w6) := Lib.hid (HB05.out.trans (b6.mono HB05.out.size))
          have HO5' := Lib.hid (HO5.out.on b6)
          have HO6 := Lib.hid o6
          have HRL : Hid ((restS L needs ids).length ≤ 20) := Lib.hid (by rw [restS_len]; exact HLL.out)
          generalize restS L needs ids = M at *
          obtain ⟨n, hn⟩ : ∃ n, M.length = n := ⟨_, rfl⟩
          rw [hn] at HRL HO5' HO6 ⊢
          have HNE := Lib.hid hn
          have hn20 : n ≤ 20 := HRL.out
          clear b6 o6 HRR HO5 hn
          go_upto_region 27 with fail
          go_loopg [19] n (fun gk s19 wq => ∃ (k : Nat), s19 = .int .i64 k ∧ k ≤ n ∧ n - k ≤ gk ∧ Aside (Below w6.heap.size w6 wq))
          case atStart => exact ⟨0, rfl, Nat.zero_le _, Nat.le_refl _, Below.refl _ _⟩
          case round =>
            obtain ⟨k, rfl, hk, hgk', IN⟩ := hrel
            have HBK := Lib.hid IN.out
            clear IN
            by_cases hkt : k < n
            · have hkz : (k : Int) < (n : Int) := by omega
              obtain ⟨t, ht⟩ : ∃ t, M[k]? = some t := ⟨_, List.getElem?_eq_getElem (by have := HNE.out; omega)⟩
              obtain ⟨ad5, g5, rfl, h51, h52, _⟩ := own_spt (HO5'.out.on HBK.out) ht
              obtain ⟨ad6, g6, rfl, h61, h62, _⟩ := own_spt (HO6.out.on HBK.out) ht
              have H51 := Lib.hid (h51 k (by have := HNE.out; omega))
              have H61 := Lib.hid (h61 k (by have := HNE.out; omega))
              have H52 := Lib.hid h52
              have H62 := Lib.hid h62
              clear ht h51 h52 h61 h62
              go_upto_region 29 with fail
              refine wp_reg (opsOf Tryd.f3 29) (by kernel_rfl) ?_
              refine ex_r29 _ _ _ _ _ _ _ _ _ _ _ _ _ _ _ _ _ _ _ _ _ _ _ _ _ _ _ _ _ _ _ _ _ _ _ _ _ _ _ _ _ _ _ _ _ _ _ _ _ _ _ _ _ _ _ _ _ _ _ _ _ _ _ _ _ _ _ _ _ _ _ _ _ _ _ _ _ _ _ _ _ _ _ _ _ _ _ _ _ _ _ _ _ _ _ _ _ _ _ _ _ _ _ _ _ _ _ _ _ _ _ _ _ _ _ _ _ _ _ _ _ _ _ _ _ _ _ _ _ _ _ _ _ _ _ _ _ _ _ _ _ _ _ _ _ _ _ _ _ _ _ _ _ _ _ _ _ _ _ ad5 ad6 g5 g6 n c5 c6 k t _ wr H51.out H61.out hkz H52.out H62.out ?_
              intro _ _ _ _ _ _ _ _ _ _ _ _ _ _ _ _ _ _ _ _ _ _ _ w7 b7
              have HB7 : Hid (Below w6.heap.size w6 w7) := Lib.hid (HBK.out.trans (b7.mono HBK.out.size))
              clear b7
              go_wp2_with fail
              go_roundg (n - (k + 1))
              case measure => omega
              case rel => exact ⟨k + 1, by go_num, by omega, Nat.le_refl _, HB7.out⟩
            · obtain rfl : k = n := by omega
              have hlz3 : ¬ ((k : Int) < (k : Int)) := by omega
              go_wp2_with fail
              go_ret
              exact ⟨rfl, HB06.out.trans (HBK.out.mono HB06.out.size)⟩
end Go.Proofs.YtejaljcgcmdlgaaDoor
