/- The law FitKeeps, walked by contracts. Conditions: the program's functions keep their contracts (FitC); the arguments lie in memory. -/
import Derived.Test.YtejaljcgcmdlgaaDoorFtKb
import Derived.Test.YtejaljcgcmdlgaaDoorFtQ
import Derived.Test.YtejaljcgcmdlgaaDoorFtO
import Derived.Test.YtejaljcgcmdlgaaDoorVecAdd
import Derived.Test.YtejaljcgcmdlgaaDoorMd
namespace Go.Proofs.YtejaljcgcmdlgaaDoor
open Go Go.RowKit

theorem lies_sptP {t : TypeId} {w : World} {g : Nat} (x : Spt) (h : w.heap[g]? = some (.cells #[.int .i64 x.id, .int .i64 x.left.a, .int .i64 x.left.b, .int .i64 x.left.c, .int .i64 x.left.d] t (0, 0))) : LiesE encSpt w (.slice (some ⟨g, 0, none⟩) 1 1) [x] :=
  .inr ⟨⟨g, 0, none⟩, 1, rfl, Nat.le_refl _, fun j u hu => by
    rw [Addr.add_lit, Nat.zero_add, cell_of_heap h, ← hu, cellsE_one]
    show (encSpt.enc x).toArray[j]? = _
    exact List.getElem?_toArray⟩
theorem allS_some {m : List Spt} {x : V4} {r : List V4} {l : List Int} (h : allS m (x :: r) [] 0 = (l, -1)) : ∃ p, bestS x m = some p := by
  unfold allS at h
  cases hb : bestS x m with
  | some p => exact ⟨p, rfl⟩
  | none =>
    rw [hb] at h
    simp at h

set_option maxRecDepth 100000 in
set_option maxHeartbeats 6400000 in
theorem fitKeeps_any (s : Nat → Addr) (F : FitC s) (A : Option Addr) (c : Nat) (lefts : List V4) (An : Option Addr) (cn : Nat) (needs : List V4) (which : Int) (w : World) (hs : Sent s w) (hL : ReadsE encV16 w A lefts) (hN : ReadsE encV16 w An needs) :
    Calls Tryd.prog 4 #[.slice A lefts.length c, .slice An needs.length cn, .int .i64 which] w fun e w' => e = .returned (.bool true) ∧ Below w.heap.size w w' := by
  obtain ⟨i0, hi0, hz0, hz1, hz2⟩ := info_parts Tryd.infoPS
  have HI0 := Lib.hid hi0
  have HF := Lib.hid F
  have HL := Lib.hid hL
  have HN := Lib.hid hN
  have HS := Lib.hid hs
  have HAW := Lib.hid (awake16_c s F w hs)
  clear F hL hN hs hi0
  go_enter Tryd.func4, Tryd.ntmps4
  go_wp2_with fail
  refine HAW.out.mono ?_
  rintro e w1 ⟨rfl, b1⟩
  have HB1 := Lib.hid b1
  clear b1 HAW
  by_cases h1 : 12 < lefts.length
  · have d1 : (12 : Int) < (lefts.length : Int) := by omega
    clear h1
    go_wp2_with fail
    go_ret
    exact ⟨rfl, HB1.out⟩
  by_cases h2 : 12 < needs.length
  · have d1 : ¬ (12 : Int) < (lefts.length : Int) := by omega
    have d2 : (12 : Int) < (needs.length : Int) := by omega
    clear h1 h2
    go_wp2_with fail
    go_ret
    exact ⟨rfl, HB1.out⟩
  have d1 : ¬ (12 : Int) < (lefts.length : Int) := by omega
  have d2 : ¬ (12 : Int) < (needs.length : Int) := by omega
  by_cases h3 : lefts.length = 0
  · have d3 : ((lefts.length : Int) == 0) = true := by rw [h3]; rfl
    clear h1 h2 h3
    go_wp2_with fail
    go_ret
    exact ⟨rfl, HB1.out⟩
  have d3 : ((lefts.length : Int) == 0) = false := by rw [beq_eq_false_iff_ne]; omega
  have HLL : Hid (0 < lefts.length ∧ lefts.length ≤ 12) := Lib.hid (by omega)
  have HNL : Hid (needs.length ≤ 12) := Lib.hid (by omega)
  obtain ⟨n, hn⟩ : ∃ n, lefts.length = n := ⟨_, rfl⟩
  obtain ⟨nn, hnn⟩ : ∃ nn, needs.length = nn := ⟨_, rfl⟩
  rw [hn] at d1 d3 HLL ⊢
  rw [hnn] at d2 HNL ⊢
  have HLE := Lib.hid hn
  have HNE := Lib.hid hnn
  have HO1 : Hid (OwnE encSpt 40 (w1.alloc (.cells #[] 40)) w.heap.size (.slice (some ⟨w1.heap.size, 0, none⟩) 0 0) []) := Lib.hid (OwnE.none w1 HB1.out.size)
  have hn12 : n ≤ 12 := by omega
  clear h1 h2 h3 hn hnn
  go_upto_region 7 with fail
  clear d1 d2 d3
  go_loopg [7, 8] n (fun gk s7 s8 wr => ∃ (i : Nat) (B : Option Addr) (c' : Nat), s8 = .int .i64 i ∧ s7 = .slice B i c' ∧ i ≤ n ∧ n - i ≤ gk ∧ Aside (OwnE encSpt 40 wr w.heap.size (.slice B i c') (mkS (lefts.take i)) ∧ (∀ v ∈ lefts.take i, goodV v = true) ∧ Below w.heap.size w wr))
  case atStart => exact ⟨0, _, _, rfl, rfl, Nat.zero_le _, Nat.le_refl _, HO1.out, (fun v hv => absurd hv (by simp)), HB1.out.alloc HB1.out.size _⟩
  case round =>
    obtain ⟨i, B, c', rfl, rfl, hi, hgk, IN⟩ := hrel
    have HO := Lib.hid IN.out.1
    have HG := Lib.hid IN.out.2.1
    have HB := Lib.hid IN.out.2.2
    clear IN
    by_cases hlt : i < n
    · have hltz : (i : Int) < (n : Int) := by omega
      obtain ⟨v, hv⟩ : ∃ v, lefts[i]? = some v := ⟨_, List.getElem?_eq_getElem (by have := HLE.out; omega)⟩
      have HTK := Lib.hid (mkS_take hv)
      have HTV : Hid (lefts.take (i + 1) = lefts.take i ++ [v]) := Lib.hid (by rw [List.take_add_one, hv]; rfl)
      have HKL : Hid ((mkS (lefts.take i)).length = i) := Lib.hid (by rw [mkS_len, List.length_take]; have := HLE.out; omega)
      obtain ⟨ad, p, rfl, hadd, hp, hc⟩ := HL.out i v hv
      have HC := Lib.hid hc
      have HP := Lib.hid hp
      have v0 := (HB.out.cell (p := p) hp).trans ((congrArg w.cell? (add_zeroE p).symm).trans (hc 0 _ rfl))
      have v1 := (HB.out.cell (p := ⟨p.block, p.off + 1, none⟩) hp).trans (hc 1 _ rfl)
      have v2 := (HB.out.cell (p := ⟨p.block, p.off + 2, none⟩) hp).trans (hc 2 _ rfl)
      have v3 := (HB.out.cell (p := ⟨p.block, p.off + 3, none⟩) hp).trans (hc 3 _ rfl)
      clear hv hc hp
      go_wp2_with fail
      refine (good_c v wr).mono ?_
      rintro e w2 ⟨rfl, b2⟩
      have HB2 := Lib.hid b2
      have HB02 : Hid (Below w.heap.size w w2) := Lib.hid (HB.out.trans (b2.mono HB.out.size))
      clear b2 v0 v1 v2 v3
      cases hgv : goodV v with
      | false =>
        clear hgv
        go_wp2_with fail
        go_ret
        exact ⟨rfl, HB02.out⟩
      | true =>
        have HGV := Lib.hid hgv
        clear hgv
        have v0 := (HB02.out.cell (p := p) HP.out).trans ((congrArg w.cell? (add_zeroE p).symm).trans (HC.out 0 _ rfl))
        have v1 := (HB02.out.cell (p := ⟨p.block, p.off + 1, none⟩) HP.out).trans (HC.out 1 _ rfl)
        have v2 := (HB02.out.cell (p := ⟨p.block, p.off + 2, none⟩) HP.out).trans (HC.out 2 _ rfl)
        have v3 := (HB02.out.cell (p := ⟨p.block, p.off + 3, none⟩) HP.out).trans (HC.out 3 _ rfl)
        have A1 : Hid (OwnE encSpt 40 (w2.alloc (.cells #[.int .i64 ((i : Int) + 1), .int .i64 v.a, .int .i64 v.b, .int .i64 v.c, .int .i64 v.d] 40)) w.heap.size (.slice B i c') (mkS (lefts.take i))) := Lib.hid ((HO.out.on HB2.out).on ((Below.refl _ _).alloc (Nat.le_refl _) _))
        have A2 : Hid (LiesE encSpt (w2.alloc (.cells #[.int .i64 ((i : Int) + 1), .int .i64 v.a, .int .i64 v.b, .int .i64 v.c, .int .i64 v.d] 40)) (.slice (some ⟨w2.heap.size, 0, none⟩) 1 1) [(⟨(i : Int) + 1, v⟩ : Spt)]) := Lib.hid (lies_sptP ⟨(i : Int) + 1, v⟩ (heap_alloc_new w2 _))
        have A3 : Hid ((mkS (lefts.take i)).length + [(⟨(i : Int) + 1, v⟩ : Spt)].length ≤ maxLen) := by have := HKL.out; simp only [Hid, List.length_cons, List.length_nil, maxLen]; omega
        have A4 : Hid (((mkS (lefts.take i)).length + [(⟨(i : Int) + 1, v⟩ : Spt)].length) * 40 ≤ 140737488355328) := by have := HKL.out; simp only [Hid, List.length_cons, List.length_nil]; omega
        have A5 : Hid (w.heap.size ≤ (w2.alloc (.cells #[.int .i64 ((i : Int) + 1), .int .i64 v.a, .int .i64 v.b, .int .i64 v.c, .int .i64 v.d] 40)).heap.size) := by have := HB02.out.size; simp only [Hid, World.size_alloc]; omega
        have HB3 : Hid (Below w.heap.size w (w2.alloc (.cells #[.int .i64 ((i : Int) + 1), .int .i64 v.a, .int .i64 v.b, .int .i64 v.c, .int .i64 v.d] 40))) := Lib.hid (HB02.out.alloc HB02.out.size _)
        go_wp2_with (at_builtin; refine wpList_append_E rfl _ _ 22 rfl i0 _ 40 Tryd.underlying22 HI0.out hz0 hz1 hz2 rfl (by decide) rfl A1.out rfl A2.out A3.out A4.out A5.out ?_; intro v' w' hv hgr hown; obtain ⟨B', c'', e'⟩ := hv.form; rw [List.length_append, HKL.out, show [(⟨(i : Int) + 1, v⟩ : Spt)].length = 1 from rfl] at e'; subst e'; have HV := Lib.hid hv; have HGR := Lib.hid hgr; clear hv hgr hown)
        have HV2 : Hid (OwnE encSpt 40 w' w.heap.size (.slice B' (i + 1) c'') (mkS (lefts.take (i + 1)))) := Lib.hid (by rw [HTK.out]; exact HV.out)
        have HG2 : Hid (∀ x ∈ lefts.take (i + 1), goodV x = true) := Lib.hid fun x hx => by
          rw [HTV.out] at hx
          rcases List.mem_append.1 hx with hx | hx
          · exact HG.out x hx
          · rw [List.mem_singleton.1 hx]; exact HGV.out
        go_roundg (n - (i + 1))
        case measure => omega
        case rel => exact ⟨i + 1, B', c'', by go_num, rfl, by omega, Nat.le_refl _, HV2.out, HG2.out, HB3.out.grown HGR.out (HB3.out.size) fun j hj => (A1.out.lt j hj).1⟩
    · obtain rfl : i = n := by omega
      have hlz : ¬ ((i : Int) < (i : Int)) := by omega
      have hMS : (mkS lefts).length = i := by rw [mkS_len]; exact HLE.out
      have HMS := Lib.hid hMS
      have HOS : Hid (OwnE encSpt 40 wr w.heap.size (.slice B i c') (mkS lefts)) := Lib.hid (by have := HO.out; rwa [List.take_of_length_le (Nat.le_of_eq HLE.out)] at this)
      have HGA : Hid (∀ v ∈ lefts, goodV v = true) := Lib.hid (by have := HG.out; rwa [List.take_of_length_le (Nat.le_of_eq HLE.out)] at this)
      have HALL : Hid (Calls Tryd.prog 10 #[.slice B i c', .slice An nn cn] wr fun e w' => Below wr.heap.size wr w' ∧ ∃ B c', e = .returned (.tuple #[.slice B (allS (mkS lefts) needs [] 0).1.length c', .int .i64 (allS (mkS lefts) needs [] 0).2]) ∧ OwnE encI 3 w' wr.heap.size (.slice B (allS (mkS lefts) needs [] 0).1.length c') (allS (mkS lefts) needs [] 0).1) := Lib.hid (by
        have := HF.out.all B c' (mkS lefts) An cn needs wr (HS.out.below HB.out (Nat.le_refl _)) (by rw [hMS]; exact HOS.out.lies) (HN.out.on HB.out) (by omega) (by have := HNL.out; have := HNE.out; omega)
        rwa [hMS, HNE.out] at this)
      clear hMS HO HG HO1
      go_upto_region 12 with fail
      rcases allS_cases needs (mkS lefts) [] 0 with ⟨h1, l, h2, h3⟩ | ⟨k, h1, _, h3⟩
      · have h4 : allS (mkS lefts) needs [] 0 = (l, -1) := by rw [← h1]; exact Prod.ext (by rw [h2]; rfl) rfl
        rw [h4] at HALL
        rw [HNE.out] at h3
        have HA := Lib.hid h4
        have HLN := Lib.hid h3
        rw [h3] at HALL
        clear h1 h2 h3 h4
        go_wp2_with fail
        refine HALL.out.mono ?_
        rintro e w2 ⟨b2, B2, c2, rfl, o2⟩
        have HB2 : Hid (Below w.heap.size w w2) := Lib.hid (HB.out.trans (b2.mono HB.out.size))
        have HOS2 := Lib.hid (HOS.out.on b2)
        have HRE := Lib.hid (HF.out.rest B c' (mkS lefts) An cn needs B2 c2 l w2 (HS.out.below HB2.out (Nat.le_refl _)) (by rw [HMS.out]; exact HOS2.out.lies) (HN.out.on HB2.out) (by have := own_reads o2; exact this) (by have := HMS.out; omega) (by have := HNL.out; have := HNE.out; omega) (by have := HNL.out; have := HLN.out; omega))
        rw [HMS.out, HNE.out, HLN.out] at HRE
        have HK : Hid (∀ k, Kept k (mkS lefts) (restS (mkS lefts) needs l) needs) := Lib.hid fun k => keepS k needs (mkS lefts) [] l 0 (mkS_ids lefts) (mkS_good HGA.out) HA.out
        have hKL : (restS (mkS lefts) needs l).length = i := by rw [(HK.out 0).len]; exact HMS.out
        rw [hKL] at HRE
        clear b2 o2 HALL hKL
        go_wp2_with fail
        refine HRE.out.mono ?_
        rintro e w3 ⟨b3, Bm, c3, rfl, om⟩
        have HB3 : Hid (Below w.heap.size w w3) := Lib.hid (HB2.out.trans (b3.mono HB2.out.size))
        have HOS3 := Lib.hid (HOS2.out.on b3)
        have HRM := Lib.hid (own_reads om)
        have HIL : Hid (0 < i) := Lib.hid HLL.out.1
        obtain ⟨adl, rfl⟩ : ∃ adl, A = some adl := by
          obtain ⟨ad', _, e, _⟩ := HL.out 0 _ (List.getElem?_eq_getElem (by have := HLE.out; have := HIL.out; omega))
          exact ⟨ad', e⟩
        obtain ⟨adm, rfl⟩ : ∃ adm, Bm = some adm := by
          obtain ⟨ad', _, e, _⟩ := HRM.out 0 _ (List.getElem?_eq_getElem (by have := (HK.out 0).len; have := HMS.out; have := HIL.out; omega))
          exact ⟨ad', e⟩
        clear b3 om HRE
        go_upto_region 19 with fail
        go_loopg [12] 4 (fun gk s12 wq => ∃ (k : Nat), s12 = .int .i64 k ∧ k ≤ 4 ∧ 4 - k ≤ gk ∧ Aside (Below w3.heap.size w3 wq))
        case atStart => exact ⟨0, rfl, Nat.zero_le _, Nat.le_refl _, Below.refl _ _⟩
        case round =>
          obtain ⟨k, rfl, hk, hgk', IN⟩ := hrel
          have HBK := Lib.hid IN.out
          have HBK0 : Hid (Below w.heap.size w wr) := Lib.hid (HB3.out.trans (HBK.out.mono HB3.out.size))
          clear IN
          by_cases hkt : k < 4
          · have hktz : (k : Int) < 4 := by omega
            have HKT := Lib.hid hkt
            go_upto_block 3 with fail
            refine wp_blk (bodyOf Tryd.f4 3) (by kernel_rfl) ?_
            refine keep_b3 _ _ _ _ _ _ _ _ _ _ _ _ _ _ _ _ _ _ _ _ _ _ _ _ _ _ _ _ _ _ _ _ _ _ _ _ _ _ _ _ _ _ _ _ _ _ _ _ _ _ _ _ _ _ _ _ _ _ _ _ _ _ _ _ _ _ _ _ _ _ _ _ _ _ _ _ _ _ _ _ _ _ _ _ _ _ _ _ _ _ _ _ _ _ _ _ _ _ _ _ _ _ _ _ _ _ _ _ _ _ _ _ _ _ _ _ _ _ _ _ _ _ _ _ _ _ _ _ _ _ _ _ _ _ _ _ _ _ _ _ _ _ _ _ _ _ _ _ _ _ _ _ _ _ _ _ _ _ _ _ _ _ _ _ _ _ _ _ _ _ _ _ _ _ _ _ _ _ _ _ _ _ _ adl adm An i c c3 nn cn k lefts needs (restS (mkS lefts) needs l) _ wr (HL.out.on HBK0.out) (HN.out.on HBK0.out) (HRM.out.on HBK.out) (HK.out k) HLE.out HNE.out hkt HLL.out.2 HNL.out ?_
            intro _ _ _ _ _ _ _ _ _ _ _ _ _ _ _ _ _ _ _ _ _ _ _ _ _ _ _ _ _ _ _ _ _ _ _ _ _ _ _ _ _ _ _ _ _ _ _ _ _ _ _ _ _ _ _ _ _ _ _ _ _ _ _ _ _ _ w5 b5
            have HB5 : Hid (Below w3.heap.size w3 w5) := Lib.hid (HBK.out.trans (b5.mono HBK.out.size))
            clear b5
            go_wp2_with fail
            go_roundg (4 - (k + 1))
            case measure => omega
            case rel => exact ⟨k + 1, by go_num, by omega, Nat.le_refl _, HB5.out⟩
          · obtain rfl : k = 4 := by omega
            cases hNN : needs with
            | nil =>
              have hz : nn = 0 := by rw [← HNE.out, hNN]; rfl
              subst hz
              clear hNN
              go_wp2_with fail
              go_ret
              exact ⟨rfl, HBK0.out⟩
            | cons x r =>
              have hA := HA.out
              rw [hNN] at hA
              obtain ⟨pb, hpb⟩ := allS_some hA
              have HPB := Lib.hid hpb
              have hnx : needs[0]? = some x := by rw [hNN]; rfl
              obtain ⟨ad2, p2, rfl, had2, hg2, hv2⟩ := HN.out 0 x hnx
              have e2 : ad2 = p2 := by rw [← had2, Nat.zero_mul]; exact (add_zeroE ad2).symm
              subst e2
              have hn0 : 0 < nn := by rw [← HNE.out, hNN]; simp
              have d5 : ((nn : Int) == 0) = false := by rw [beq_eq_false_iff_ne]; omega
              have hn0z : (0 : Int) < (nn : Int) := by omega
              obtain ⟨m, hm, hmod⟩ := mod_pos which i HIL.out (by have := HLL.out; omega)
              have hu := u64_nat i (by have := HLL.out; omega)
              have hmz : (m : Int) < (i : Int) := by omega
              have hm0 : (0 : Int) ≤ (m : Int) := by omega
              have hi0' : ((i : Int) == 0) = false := by rw [beq_eq_false_iff_ne]; omega
              obtain ⟨v, hv⟩ : ∃ v, lefts[m]? = some v := ⟨_, List.getElem?_eq_getElem (by have := HLE.out; omega)⟩
              have hvs : (mkS lefts)[m]? = some ⟨(m : Int) + 1, v⟩ := by rw [mkS_get, hv]; rfl
              have HVS := Lib.hid hvs
              have HOW := Lib.hid (HOS3.out.on HBK.out)
              obtain ⟨ads, ga, rfl, hadd, hsp, _⟩ := own_spt HOW.out hvs
              have HADD := Lib.hid (hadd m (by have := HMS.out; omega))
              have HSP := Lib.hid hsp
              obtain ⟨c0, c1, c2', c3', c4, cl, cf⟩ := hsp
              have had := HADD.out
              have HV2 := Lib.hid hv2
              have HG2 := Lib.hid hg2
              clear hNN hA hpb hnx had2 hg2 hv2 hv hvs hadd hm hn0
              go_wp2_with fail
              refine (add_c s v ⟨1, 1, 1, 1⟩ wr (HS.out.below HBK0.out (Nat.le_refl _))).mono ?_
              rintro e w5 ⟨rfl, b5⟩
              have HB5 := Lib.hid b5
              have HB05 : Hid (Below w.heap.size w w5) := Lib.hid (HBK0.out.trans (b5.mono HBK0.out.size))
              clear b5 c0 c1 c2' c3' c4 cl cf
              obtain ⟨q, hq⟩ : ∃ q, addR v ⟨1, 1, 1, 1⟩ = q := ⟨_, rfl⟩
              rw [hq]
              obtain ⟨y, e⟩ := q
              have HQ := Lib.hid hq
              clear hq
              by_cases he : e = 0
              · subst he
                rw [show errV s 0 = .nilIface from rfl]
                obtain ⟨gy, hgy⟩ : ∃ gy, w5.heap.size = gy := ⟨_, rfl⟩
                obtain ⟨W6, hW6⟩ : ∃ W6, w5.alloc (.cells #[.int .i64 y.a, .int .i64 y.b, .int .i64 y.c, .int .i64 y.d] 31) = W6 := ⟨_, rfl⟩
                have hb6 : Below wr.heap.size wr W6 := by rw [← hW6]; exact HB5.out.alloc HB5.out.size _
                have HB6 := Lib.hid hb6
                have HY6 : Hid (Vk W6 gy y) := Lib.hid (by rw [← hW6]; exact Vk.new_at hgy.symm y)
                have HB06 : Hid (Below w.heap.size w W6) := Lib.hid (HBK0.out.trans (hb6.mono HBK0.out.size))
                have E6 := Lib.hid hW6
                have E7 := Lib.hid hgy
                clear hW6 hgy hb6
                go_upto_region 38 with fail
                rw [E6.out, E7.out]
                obtain ⟨y0, y1, y2, y3, yl, _⟩ := HY6.out.cells
                obtain ⟨c0, c1, c2', c3', c4, cl, cf⟩ := HSP.out.on HB6.out
                have HO6 := Lib.hid (HOW.out.on HB6.out)
                go_upto_region 41 with fail
                obtain ⟨w7, hw7⟩ : ∃ w7, w7 = ((((W6.setCell ⟨ga, m * 5 + 1, none⟩ (.int .i64 y.a)).setCell ⟨ga, m * 5 + 1 + 1, none⟩ (.int .i64 y.b)).setCell ⟨ga, m * 5 + 1 + 2, none⟩ (.int .i64 y.c)).setCell ⟨ga, m * 5 + 1 + 3, none⟩ (.int .i64 y.d)) := ⟨_, rfl⟩
                rw [← hw7]
                have hO7 : OwnE encSpt 40 w7 w.heap.size (.slice (some ads) i c') ((mkS lefts).set m ⟨(m : Int) + 1, y⟩) := by rw [hw7]; exact own_cut' HO6.out HVS.out HADD.out HMS.out y
                have HB7 : Hid (Below w.heap.size w w7) := Lib.hid (by rw [hw7]; exact below_set4 HB06.out (own_low HO6.out HVS.out HADD.out) _ _ _ _)
                have HBE : Hid (Calls Tryd.prog 8 #[.slice (some ads) i c', .agg #[.int .i64 x.a, .int .i64 x.b, .int .i64 x.c, .int .i64 x.d]] w7 fun e w' => e = .returned (.tuple #[.int .i64 (idS (bestS x ((mkS lefts).set m ⟨(m : Int) + 1, y⟩))), .bool (bestS x ((mkS lefts).set m ⟨(m : Int) + 1, y⟩)).isSome]) ∧ Below w7.heap.size w7 w') := Lib.hid (by
                  have hl : ((mkS lefts).set m (⟨(m : Int) + 1, y⟩ : Spt)).length = i := by rw [List.length_set]; exact HMS.out
                  have := HF.out.best (some ads) c' ((mkS lefts).set m ⟨(m : Int) + 1, y⟩) x w7 (HS.out.below HB7.out (Nat.le_refl _)) (by rw [hl]; exact hO7.lies) (by rw [hl]; have := HLL.out; omega)
                  rwa [hl] at this)
                rw [best_more HPB.out HVS.out HQ.out] at HBE
                have v0 := (HB7.out.cell (p := ad2) HG2.out).trans ((congrArg w.cell? (add_zeroE ad2).symm).trans (HV2.out 0 _ rfl))
                have v1 := (HB7.out.cell (p := ⟨ad2.block, ad2.off + 1, none⟩) HG2.out).trans (HV2.out 1 _ rfl)
                have v2 := (HB7.out.cell (p := ⟨ad2.block, ad2.off + 2, none⟩) HG2.out).trans (HV2.out 2 _ rfl)
                have v3 := (HB7.out.cell (p := ⟨ad2.block, ad2.off + 3, none⟩) HG2.out).trans (HV2.out 3 _ rfl)
                have hz := add_zeroE ad2
                clear hw7 hO7 y0 y1 y2 y3 yl c0 c1 c2' c3' c4 cl cf
                go_wp2_with fail
                refine HBE.out.mono ?_
                rintro e w8 ⟨rfl, b8⟩
                have HB8 : Hid (Below w.heap.size w w8) := Lib.hid (HB7.out.trans (b8.mono HB7.out.size))
                clear b8 v0 v1 v2 v3
                go_wp2_with fail
                go_ret
                exact ⟨rfl, HB8.out⟩
              · obtain ⟨u, hu'⟩ : ∃ u, errV s e = .iface 61 u := ⟨_, by unfold errV; rw [if_neg he]⟩
                rw [hu']
                clear hu' he
                go_wp2_with fail
                go_ret
                exact ⟨rfl, HB05.out.alloc HB05.out.size _⟩
      · rw [h1] at HALL
        rw [HNE.out, Nat.zero_add] at h3
        have hk0 : (0 : Int) ≤ (k : Int) := by omega
        have hk1 : (k : Int) < (nn : Int) := by omega
        simp only [List.length_nil] at HALL
        clear h1 h3
        go_wp2_with fail
        refine HALL.out.mono ?_
        rintro e w2 ⟨b2, B2, c2, rfl, _⟩
        have HB2 : Hid (Below w.heap.size w w2) := Lib.hid (HB.out.trans (b2.mono HB.out.size))
        clear b2 HALL
        go_wp2_with fail
        go_ret
        exact ⟨rfl, HB2.out⟩
end Go.Proofs.YtejaljcgcmdlgaaDoor
