/- The walk of the law BookCuts: whatever the arguments, it returns true. Condition: the sentinels lie as the program's text lays them. -/
import Derived.Test.YtcbhilaecaccpaaDoorBkA
import Derived.Test.YtcbhilaecaccpaaDoorBkU
import Derived.Test.YtcbhilaecaccpaaDoorMd
import Derived.Test.YtcbhilaecaccpaaDoorInts
import Derived.Deep.DeepCutAuto
import Derived.Deep.CutBlock
import Derived.Deep.RegionHeld3
namespace Go.Proofs.YtcbhilaecaccpaaDoor
open Go Go.RowKit

/-- What a round of cuts begins with. -/
structure CuS (w : World) (q R g B N c : Nat) (A : Option Addr) (b : RB) (p : Nat) (o : Od) (L : List Od) (K : Nat) (W : World) : Prop where
  bk : BkAt w W q R (bkC b p o (K : Int))
  own : OwnE encOd 31 W B (.slice A N c) L
  blk : BOdBlk W g o
theorem CuS.on {w : World} {q R g B N c : Nat} {A : Option Addr} {b : RB} {p : Nat} {o : Od} {L : List Od} {K : Nat} {W W' : World} (h : CuS w q R g B N c A b p o L K W) (hb : Below W.heap.size W W') : CuS w q R g B N c A b p o L K W' :=
  ⟨h.bk.on hb, h.own.on hb, h.blk.on hb⟩
theorem CuS.chg {w : World} {q R g B N c : Nat} {A : Option Addr} {b : RB} {p : Nat} {o : Od} {L : List Od} {K K' : Nat} {W W' : World} (h : CuS w q R g B N c A b p o L K W) (hB : q < B ∧ R < B ∧ B ≤ g) (h1 : BkAt w W' q R (bkC b p o (K' : Int))) (hC : Chg q R W W') : CuS w q R g B N c A b p o L K' W' :=
  ⟨h1, h.own.same fun k hk => hC.block k (h.own.lt k hk).2 (by have := (h.own.lt k hk).1; omega) (by have := (h.own.lt k hk).1; omega), hC.row h.blk (by omega) (by omega)⟩
theorem CuS.drewN {w : World} {q R g B N c : Nat} {A : Option Addr} {b : RB} {p : Nat} {o : Od} {L : List Od} {K : Nat} {W : World} (h : CuS w q R g B N c A b p o L K W) (n : Nat) : CuS w q R g B N c A b p o L K (W.drewN n) := h.on (below_drewN (Below.refl _ _) n)

set_option maxHeartbeats 6400000 in
set_option maxRecDepth 100000 in
theorem cuts_any (s : Nat → Addr) (A : Option Addr) (c : Nat) (X : List Od) (which : Int) (cv : Value) (C : List Int) (w : World) (hs : Sent s w) (hX : BOdRow w w.heap.size A X) (_hl : X.length ≤ 9223372036854775807) (hC : RI w cv C) (_hcl : C.length ≤ 9223372036854775807) :
    Calls Tryd.prog 5 #[.slice A X.length c, .int .i64 which, cv] w fun e w' => e = .returned (.bool true) ∧ Below w.heap.size w w' := by
  have HS := Lib.hid hs
  have HX := Lib.hid hX
  have HCC := Lib.hid hC
  obtain ⟨ca, cc, rfl, hcx⟩ := hC
  clear hs hX hcx
  go_enter Tryd.func5, Tryd.ntmps5
  go_wp2_with fail
  refine (awake_c s w HS.out).mono ?_
  rintro e w1 ⟨rfl, hb1⟩
  have B1 := Lib.hid hb1
  clear hb1
  go_wp2_with fail
  refine (new_c w1).mono ?_
  rintro e w2 ⟨rfl, t2, b2⟩
  generalize hq : w1.heap.size = q at t2 ⊢
  have K2 : Hid (BkAt w w2 q q (bkA X 0)) := Lib.hid ⟨t2, B1.out.trans (b2.mono B1.out.size), by rw [← hq]; exact B1.out.size⟩
  clear t2 b2 hq B1
  go_upto_block 0 with fail
  go_cut [] (fun wx => ∃ (i R : Nat), BkAt w wx q R (bkA X i))
  case first =>
    go_wp2_with fail
    go_loopw [8] (fun u wr => ∃ (i R : Nat), i ≤ X.length ∧ i ≤ 30 ∧ u = .int .i64 (i : Int) ∧ BkAt w wr q R (bkA X i)) (fun u _ => 30 - (intOf u).toNat)
    case atStart => exact ⟨0, q, Nat.zero_le _, by omega, rfl, K2.out⟩
    case round =>
      obtain ⟨i, R, hi, hi30, rfl, hK⟩ := hrel
      have HK := Lib.hid hK
      clear hK K2
      by_cases hlt : i < X.length ∧ i < 30
      · obtain ⟨hi1, hi2⟩ := hlt
        obtain ⟨x, hx⟩ : ∃ x, X[i]? = some x := ⟨_, List.getElem?_eq_getElem hi1⟩
        obtain ⟨ad, hA, c0, c1, c2, c3, c4, c5⟩ := HX.out.cells HK.out.below hx
        subst hA
        have hi0 : (0 : Int) ≤ (i : Int) := by omega
        have hj1 : (i : Int) < (X.length : Int) := by omega
        have hd1 : decide ((i : Int) < (X.length : Int)) = true := decide_eq_true hj1
        have hd2 : decide ((i : Int) < 30) = true := decide_eq_true (by omega)
        obtain ⟨hg, hcame⟩ := bkA_gb X i
        have HA := Lib.hid (HK.out.add HS.out hg (by omega) x)
        rw [← bkA_snoc hx] at HA
        clear hx hg hcame
        go_wp2_with fail
        refine HA.out.mono ?_
        rintro e w3 ⟨rfl, R3, t3, g3⟩
        have HK3 := Lib.hid t3
        clear t3 g3 HA HK c0 c1 c2 c3 c4 c5
        go_wp2_with fail
        go_roundw
        case rel => exact ⟨i + 1, R3, by omega, by omega, by go_num, HK3.out⟩
        case measure => simp [intOf]; omega
      · have hdd : ¬ ((i : Int) < (X.length : Int)) ∨ ((i : Int) < (X.length : Int) ∧ ¬ (i : Int) < 30) := by omega
        clear hlt
        rcases hdd with hd | ⟨hd, hd30⟩
        · have hd1 : decide ((i : Int) < (X.length : Int)) = false := decide_eq_false hd
          go_wp2_with fail
          go_meet
          exact ⟨i, R, HK.out⟩
        · have hd1 : decide ((i : Int) < (X.length : Int)) = true := decide_eq_true hd
          have hd2 : decide ((i : Int) < 30) = false := decide_eq_false hd30
          go_wp2_with fail
          go_meet
          exact ⟨i, R, HK.out⟩
  case rest =>
  obtain ⟨i, R, hK⟩ := hcut
  have HK := Lib.hid hK
  clear hK K2
  obtain ⟨hg, _⟩ := bkA_gb X i
  generalize bkA X i = b at HK hg
  obtain ⟨B, hB⟩ : ∃ B, wc.heap.size = B := ⟨_, rfl⟩
  have HWR : Hid (q < B ∧ R < B ∧ w.heap.size ≤ B) := Lib.hid (by rw [← hB]; exact ⟨HK.out.book.lt.1, HK.out.book.lt.2.1, HK.out.below.size⟩)
  have HG := Lib.hid hg
  have HL1 := Lib.hid (HK.out.list hg true)
  rw [hB] at HL1
  have HL2 := Lib.hid (fun (W : World) (hW : BkAt w W q R b) => hW.list hg false)
  obtain ⟨T, hT⟩ : ∃ T, listR13 b.L true = T := ⟨_, rfl⟩
  obtain ⟨F, hF⟩ : ∃ F, listR13 b.L false = F := ⟨_, rfl⟩
  have hTl : T.length ≤ 32 := by rw [← hT]; exact Nat.le_trans (listR13_le _ _) hg.len
  have hFl : F.length ≤ 32 := by rw [← hF]; exact Nat.le_trans (listR13_le _ _) hg.len
  rw [hT] at HL1
  rw [hF] at HL2
  have HP : Hid ((T ++ F).Perm b.L) := Lib.hid (by rw [← hT, ← hF]; exact sides_perm hg.seq)
  clear hT hF hg
  go_upto_region 8 with fail
  go_cut [9] (fun v wx => ∃ (A6 : Option Addr) (c6 : Nat) (L : List Od), v = .slice A6 L.length c6 ∧ L.Perm b.L ∧ L.length ≤ 64 ∧ OwnE encOd 31 wx B v L ∧ BkAt w wx q R b ∧ B ≤ wx.heap.size)
  case first =>
    go_wp2_with fail
    refine HL1.out.mono ?_
    rintro e w3 ⟨v1, rfl, ho1, t3, b3⟩
    have HBB : Hid (B ≤ w3.heap.size) := Lib.hid (by rw [← hB]; exact b3.size)
    obtain ⟨A1, c1, rfl⟩ := ho1.form
    have HO1 := Lib.hid ho1
    have HK3 := Lib.hid t3
    clear ho1 t3 b3 HL1 HK hB
    go_wp2_with fail
    refine (HL2.out _ HK3.out).mono ?_
    rintro e w4 ⟨v2, rfl, ho2, t4, b4⟩
    obtain ⟨A2, c2, rfl⟩ := ho2.form
    have HO2 := Lib.hid (HO1.out.on b4)
    have HO3 := Lib.hid ho2.lies
    have HK4 := Lib.hid t4
    obtain ⟨i0, hi9, hz0, hz1, hz2⟩ := info_parts Tryd.infoBO
    have A3 : Hid (T.length + F.length ≤ maxLen) := Lib.hid (by simp only [maxLen]; omega)
    have A4 : Hid ((T.length + F.length) * 48 ≤ 140737488355328) := Lib.hid (by omega)
    have A5 : Hid (B ≤ w4.heap.size) := Lib.hid (Nat.le_trans HBB.out b4.size)
    clear ho2 t4 b4 HO1 HK3 HL2
    go_wp2_with (first
      | (at_builtin
         refine wpList_append_E rfl _ _ 54 rfl i0 _ 48 Tryd.underlying54 hi9 hz0 hz1 hz2 rfl (by decide) rfl HO2.out rfl HO3.out A3.out A4.out A5.out ?_
         intro v3 w5 own5 gr5 lo5
         have HK5 : Hid (BkAt w w5 q R b) := Lib.hid (HK4.out.grown gr5 (fun k hk => by have := (HO2.out.lt k hk).1; have := HWR.out; omega))
         have HO5 := Lib.hid own5
         have HB5 : Hid (B ≤ w5.heap.size) := Lib.hid (Nat.le_trans A5.out gr5.size)
         clear own5 gr5 lo5 HO2 HO3 HK4 A3 A4 A5 hi9 hz0 hz1 hz2 HBB))
    go_meet
    obtain ⟨A6, c6, rfl⟩ := HO5.out.form
    exact ⟨A6, c6, T ++ F, rfl, HP.out, by rw [List.length_append]; omega, HO5.out, HK5.out, HB5.out⟩
  case rest =>
  obtain ⟨A6, c6, L, rfl, hpl, hl64, ho5, hk5, hb5⟩ := hcut
  have HPL := Lib.hid hpl
  have HK5 := Lib.hid hk5
  have HB5 := Lib.hid hb5
  obtain ⟨N, hN⟩ : ∃ N, L.length = N := ⟨_, rfl⟩
  rw [hN] at ho5 hl64 ⊢
  have HO5 := Lib.hid ho5
  have HN := Lib.hid hN
  clear hpl hk5 hb5 hN ho5 HP HL1 HL2 HK hB hTl hFl
  by_cases hN0 : N = 0
  · subst hN0
    go_wp2_with fail
    go_ret
    exact ⟨rfl, HK5.out.below⟩
  · have hneb : ((N : Int) == 0) = false := by simpa using (show ¬ (N : Int) = 0 by omega)
    obtain ⟨k, hk, hmod⟩ := mod_pos which N (by omega) (by omega)
    have hu := u64_nat N (by omega)
    obtain ⟨o, ho⟩ : ∃ o, L[k]? = some o := ⟨_, List.getElem?_eq_getElem (by have := HN.out; omega)⟩
    obtain ⟨ad, g0, rfl, ea, _, gl, _, hc1⟩ := HO5.out.at ho
    have x0 := hc1 0 _ rfl
    have x1 := hc1 1 _ rfl
    have x2 := hc1 2 _ rfl
    have x3 := hc1 3 _ rfl
    have x4 := hc1 4 _ rfl
    have x5 := hc1 5 _ rfl
    simp only [Nat.add_zero] at x0
    have hk0 : (0 : Int) ≤ (k : Int) := by omega
    have hk1 : (k : Int) < (N : Int) := by omega
    have hob : o ∈ b.L := HPL.out.mem_iff.1 (List.mem_of_getElem? ho)
    obtain ⟨p, hp⟩ := List.getElem?_of_mem hob
    have hcu : CutO b p o := ⟨HG.out, hp⟩
    have hlots := HG.out.lots o hob
    obtain ⟨K0, hK0⟩ : ∃ K0 : Nat, o.lots = (K0 : Int) := ⟨o.lots.toNat, by omega⟩
    have hK1 : K0 ≤ 1000 := by omega
    have HOK := Lib.hid ho
    have HCU := Lib.hid hcu
    have HL0 := Lib.hid hK0
    clear ho hc1 hob hp hcu hlots hK0 hN0
    go_upto_region 12 with fail
    obtain ⟨g, hg⟩ : ∃ g, wc.heap.size = g := ⟨_, rfl⟩
    obtain ⟨W0, hW0⟩ : ∃ W0, wc.alloc (.cells #[.int .i64 o.id, .int .i64 o.tn, .bool o.sell, .int .i64 o.price, .int .i64 o.lots, .int .i64 o.seq] 31) = W0 := ⟨_, rfl⟩
    have hb0 : Below wc.heap.size wc W0 := by rw [← hW0]; exact (Below.refl _ _).alloc (Nat.le_refl _) _
    have hgb : BOdBlk W0 g o := by rw [← hW0, ← hg]; exact BOdBlk.new wc o
    have HQB : Hid (q < B ∧ R < B ∧ B ≤ g) := Lib.hid ⟨HWR.out.1, HWR.out.2.1, by rw [← hg]; exact HB5.out⟩
    have HC0 : Hid (CuS w q R g B N c6 (some ad) b p o L K0 W0) := Lib.hid ⟨by rw [← HL0.out, HCU.out.start]; exact HK5.out.on hb0, HO5.out.on hb0, hgb⟩
    rw [hW0, hg]
    have z4 : W0.cell? ⟨g, 4, none⟩ = some (.int .i64 (K0 : Int)) := by rw [← HL0.out]; exact hgb.cells.2.2.2.2.1
    clear hgb hb0 hW0 hg HK5 HB5 HO5 x0 x1 x2 x3 x4 x5 ea gl hmod hu hk0 hk1
    go_upto_block 2 with fail
    clear z4
    go_cut [11] (fun v wx => ∃ K : Nat, K ≤ 1000 ∧ v = .int .i64 (K : Int) ∧ CuS w q R g B N c6 (some ad) b p o L K wx)
    case first =>
      go_wp2_with fail
      go_loopw [11, 12] (fun v u wr => ∃ (K j : Nat), K ≤ 1000 ∧ j ≤ C.length ∧ v = .int .i64 (K : Int) ∧ u = .int .i64 (j : Int) ∧ CuS w q R g B N c6 (some ad) b p o L K wr) (fun _ u _ => C.length - (intOf u).toNat)
      case atStart => exact ⟨K0, 0, hK1, Nat.zero_le _, rfl, rfl, HC0.out⟩
      case round =>
        obtain ⟨K, j, hK, hj, rfl, rfl, hc⟩ := hrel
        have HC := Lib.hid hc
        clear hc HC0
        have hj0 : (0 : Int) ≤ (j : Int) := by omega
        by_cases h1 : (j : Int) < (C.length : Int)
        · have d1 : decide ((j : Int) < (C.length : Int)) = true := decide_eq_true h1
          by_cases h2 : (j : Int) < 40
          · have d2 : decide ((j : Int) < 40) = true := decide_eq_true h2
            by_cases h3 : (0 : Int) < (K : Int)
            · have d3 : decide ((0 : Int) < (K : Int)) = true := decide_eq_true h3
              obtain ⟨z, hz⟩ : ∃ z, C[j]? = some z := ⟨_, List.getElem?_eq_getElem (by omega)⟩
              obtain ⟨_, _, e1, k1⟩ := HCC.out.on HC.out.bk.below
              obtain ⟨ac, hca, cj⟩ := k1 j z hz
              cases e1
              subst hca
              obtain ⟨m, hm, hmod⟩ := mod_pos z K (by omega) (by omega)
              have hu := u64_nat K (by omega)
              have hn1 : wrap64 (1 + wrap64 ((IntKind.u64.wrap z).tmod (K : Int))) = (m : Int) + 1 := by rw [hmod]; unfold wrap64; omega
              obtain ⟨K2, hK2⟩ : ∃ K2 : Nat, (K : Int) - ((m : Int) + 1) = (K2 : Int) := ⟨K - (m + 1), by omega⟩
              have hsub : wrap64 ((K : Int) - ((m : Int) + 1)) = (K2 : Int) := by unfold wrap64; omega
              have hsub2 : IntKind.i64.wrap ((K : Int) - ((m : Int) + 1)) = (K2 : Int) := by rw [IntWalk.i64_in _ (by omega)]; exact hK2
              have hgK := HCU.out.good (K : Int) (by omega) (by omega)
              have HM := Lib.hid (HCU.out.more (n := (K : Int)) (by omega) (by omega))
              have HCT := Lib.hid (HCU.out.cut (n := (K : Int)) (m := (m : Int) + 1) (by omega) (by omega) (by omega))
              rw [hK2] at HCT
              have HC1 := Lib.hid (HC.out.bk.cut HS.out hgK o.id ((K : Int) + 1))
              rw [HM.out] at HC1
              have HC2 := Lib.hid (fun (W : World) (hW : BkAt w W q R (bkC b p o (K : Int))) => hW.cut HS.out hgK o.id ((m : Int) + 1))
              rw [HCT.out, show errV s ((bkC b p o (K2 : Int), 0) : RB × Nat).2 = .nilIface from rfl] at HC2
              have hGK2 := Lib.hid (HCU.out.good (K2 : Int) (by omega) (by omega))
              have HSF := Lib.hid (HCU.out.self (n := (K2 : Int)) (by omega) (by omega))
              obtain ⟨o0, o1, o2, o3, o4, o5, ol⟩ := HC.out.blk.cells
              have hKK : K2 ≤ 1000 := by omega
              clear hz k1 hgK HM HCT hmod
              go_wp2_with fail
              refine HC1.out.mono ?_
              rintro e w3 ⟨rfl, t3, g3⟩
              have H3 := Lib.hid (HC.out.chg HQB.out t3 g3)
              clear t3 g3 o0 o1 o2 o3 o4 o5 ol HC HC1 cj
              go_wp2_with fail
              refine (kind_errV s 1 _ (H3.out.bk.sent HS.out) (by omega)).mono ?_
              rintro e w4 ⟨rfl, b4⟩
              have H4 := Lib.hid (H3.out.on b4)
              clear H3 b4
              obtain ⟨o0, o1, o2, o3, o4, o5, ol⟩ := H4.out.blk.cells
              go_wp2_with fail
              refine (HC2.out _ H4.out.bk).mono ?_
              rintro e w5 ⟨rfl, t5, g5⟩
              have H5 := Lib.hid (H4.out.chg HQB.out t5 g5)
              clear t5 g5 o0 o1 o2 o3 o4 o5 ol H4 HC2
              obtain ⟨o0, o1, o2, o3, o4, o5, ol⟩ := H5.out.blk.cells
              have HOF := Lib.hid (H5.out.bk.of hGK2.out o.id)
              go_wp2_with fail
              by_cases hz2 : K2 = 0
              · have hOF := HSF.out.2 (by omega)
                have HOE : Hid (∀ v, Ending.returned (.tuple #[v, .bool (decide (pos (bkC b p o (K2 : Int)).L o.id < (bkC b p o (K2 : Int)).L.length))]) = .returned (.tuple #[v, .bool false])) := Lib.hid fun v => by rw [decide_eq_false hOF]
                have hk2 : (K2 : Int) = 0 := by omega
                have d4 : decide ((0 : Int) < (K2 : Int)) = false := decide_eq_false (by omega)
                clear hOF
                refine HOF.out.mono ?_
                rintro e w6 ⟨he, t6, b6⟩
                replace he := he.trans (HOE.out _)
                subst he
                have H6 := Lib.hid (H5.out.on b6)
                clear t6 b6 HOF HOE H5 HSF o0 o1 o2 o3 o4 o5 ol
                obtain ⟨x, hx⟩ : ∃ x, ((bkC b p o (K2 : Int)).L[pos (bkC b p o (K2 : Int)).L o.id]?).getD od0 = x := ⟨_, rfl⟩
                rw [hx]
                clear hx
                go_wp2_with fail
                go_roundw
                case rel => exact ⟨K2, j + 1, hKK, by omega, by rw [hk2], by go_num, H6.out.on ((Below.refl _ _).alloc (Nat.le_refl _) _)⟩
                case measure => simp [intOf]; omega
              · have hOF := HSF.out.1 (by omega)
                have HOE : Hid (Ending.returned (.tuple #[.agg #[.int .i64 (((bkC b p o (K2 : Int)).L[pos (bkC b p o (K2 : Int)).L o.id]?).getD od0).id, .int .i64 (((bkC b p o (K2 : Int)).L[pos (bkC b p o (K2 : Int)).L o.id]?).getD od0).tn, .bool (((bkC b p o (K2 : Int)).L[pos (bkC b p o (K2 : Int)).L o.id]?).getD od0).sell, .int .i64 (((bkC b p o (K2 : Int)).L[pos (bkC b p o (K2 : Int)).L o.id]?).getD od0).price, .int .i64 (((bkC b p o (K2 : Int)).L[pos (bkC b p o (K2 : Int)).L o.id]?).getD od0).lots, .int .i64 (((bkC b p o (K2 : Int)).L[pos (bkC b p o (K2 : Int)).L o.id]?).getD od0).seq], .bool (decide (pos (bkC b p o (K2 : Int)).L o.id < (bkC b p o (K2 : Int)).L.length))]) = .returned (.tuple #[.agg #[.int .i64 o.id, .int .i64 o.tn, .bool o.sell, .int .i64 o.price, .int .i64 (K2 : Int), .int .i64 o.seq], .bool true])) := Lib.hid (by rw [hOF.2, decide_eq_true hOF.1])
                have hk2 : (0 : Int) < (K2 : Int) := by omega
                have d4 : decide ((0 : Int) < (K2 : Int)) = true := decide_eq_true hk2
                clear hOF
                refine HOF.out.mono ?_
                rintro e w6 ⟨he, t6, b6⟩
                replace he := he.trans HOE.out
                subst he
                have H6 := Lib.hid (H5.out.on b6)
                clear t6 b6 HOF HOE H5 HSF o0 o1 o2 o3 o4 o5 ol
                go_wp2_with fail
                go_roundw
                case rel => exact ⟨K2, j + 1, hKK, by omega, rfl, by go_num, H6.out.on ((Below.refl _ _).alloc (Nat.le_refl _) _)⟩
                case measure => simp [intOf]; omega
            · have d3 : decide ((0 : Int) < (K : Int)) = false := decide_eq_false h3
              go_wp2_with fail
              go_meet
              exact ⟨K, hK, by (first | rfl | (simp; done) | kernel_rfl), HC.out⟩
          · have d2 : decide ((j : Int) < 40) = false := decide_eq_false h2
            go_wp2_with fail
            go_meet
            exact ⟨K, hK, by (first | rfl | (simp; done) | kernel_rfl), HC.out⟩
        · have d1 : decide ((j : Int) < (C.length : Int)) = false := decide_eq_false h1
          go_wp2_with fail
          go_meet
          exact ⟨K, hK, by (first | rfl | (simp; done) | kernel_rfl), HC.out⟩
    case rest =>
    obtain ⟨K, hK, rfl, hc⟩ := hcut
    have HC := Lib.hid hc
    obtain ⟨D, hD⟩ : ∃ D, (bkC b p o (K : Int)).L.length = D := ⟨_, rfl⟩
    have hbl : b.L.length = N := by rw [← HPL.out.length_eq]; exact HN.out
    have hsz := HCU.out.size (K : Int)
    rw [hD, hbl] at hsz
    have HDD := Lib.hid hD
    have hgK := Lib.hid (HCU.out.good (K : Int) (by omega) (by omega))
    clear hc hD hbl HC0
    go_upto_if 125 with fail
    go_cut [16] (fun v wx => v = .int .i64 (D : Int) ∧ CuS w q R g B N c6 (some ad) b p o L K wx)
    case first =>
      by_cases hk0 : K = 0
      · have e0 : ((K : Int) == 0) = true := by rw [hk0]; rfl
        have hn1 : (N : Int) - 1 = (D : Int) := by have := hsz.2 (by omega); omega
        have hn2 : wrap64 ((N : Int) - 1) = (D : Int) := by unfold wrap64; omega
        have hn3 : IntKind.i64.wrap ((N : Int) - 1) = (D : Int) := by rw [IntWalk.i64_in _ (by omega)]; exact hn1
        clear hk0 hsz
        go_wp2_with fail
        go_meet
        exact ⟨rfl, HC.out⟩
      · have e0 : ((K : Int) == 0) = false := by simpa using (show ¬ (K : Int) = 0 by omega)
        have hn1 : D = N := hsz.1 (by omega)
        clear hk0 hsz
        go_wp2_with fail
        go_meet
        exact ⟨by rw [hn1], HC.out⟩
    case rest =>
    obtain ⟨rfl, hc⟩ := hcut
    have HC1 := Lib.hid hc
    clear hc HC hsz hneb
    go_wp2_with fail
    go_loopw [17] (fun u wr => ∃ j : Nat, u = .int .i64 (j : Int) ∧ CuS w q R g B N c6 (some ad) b p o L K wr) (fun u _ => N - (intOf u).toNat)
    case atStart => exact ⟨0, rfl, HC1.out⟩
    case round =>
      obtain ⟨j, rfl, hc⟩ := hrel
      have HC := Lib.hid hc
      clear hc HC1
      by_cases hjN : j < N
      · obtain ⟨z, hz⟩ : ∃ z, L[j]? = some z := ⟨_, List.getElem?_eq_getElem (by have := HN.out; omega)⟩
        obtain ⟨ad2, g2, e2, ea, _, gl, _, hc1⟩ := HC.out.own.at hz
        cases e2
        have HZC := Lib.hid hc1
        have z0 := hc1 0 _ rfl
        simp only [Nat.add_zero] at z0
        have hj0 : (0 : Int) ≤ (j : Int) := by omega
        have hj1 : (j : Int) < (N : Int) := by omega
        have hzb : z ∈ b.L := HPL.out.mem_iff.1 (List.mem_of_getElem? hz)
        have HOF := Lib.hid (HC.out.bk.of hgK.out z.id)
        by_cases hid : z.id = o.id
        · obtain ⟨x, hx⟩ : ∃ x, ((bkC b p o (K : Int)).L[pos (bkC b p o (K : Int)).L z.id]?).getD od0 = x := ⟨_, rfl⟩
          obtain ⟨bb, hbb⟩ : ∃ bb, decide (pos (bkC b p o (K : Int)).L z.id < (bkC b p o (K : Int)).L.length) = bb := ⟨_, rfl⟩
          rw [hx, hbb] at HOF
          have hne : (z.id != o.id) = false := by rw [hid]; simp
          clear hx hbb hz hc1 hzb hid
          go_wp2_with fail
          refine HOF.out.mono ?_
          rintro e w6 ⟨rfl, t6, b6⟩
          have H6 := Lib.hid (HC.out.on b6)
          have HZ6 : Hid (∀ W : World, Below w6.heap.size w6 W → W.cell? ⟨g2, j * 6, none⟩ = some (.int .i64 z.id)) := Lib.hid fun W hb => (hb.cell (p := ⟨g2, j * 6, none⟩) (Nat.lt_of_lt_of_le gl b6.size)).trans ((b6.cell (p := ⟨g2, j * 6, none⟩) gl).trans z0)
          clear t6 b6 HOF HC z0
          go_wp2_with fail
          obtain ⟨W7, hW7⟩ : ∃ W7, w6.alloc (.cells #[.int .i64 x.id, .int .i64 x.tn, .bool x.sell, .int .i64 x.price, .int .i64 x.lots, .int .i64 x.seq] 31) = W7 := ⟨_, rfl⟩
          have hB7 : Below w6.heap.size w6 W7 := by rw [← hW7]; exact (Below.refl _ _).alloc (Nat.le_refl _) _
          rw [hW7]
          have H7 := Lib.hid (H6.out.on hB7)
          have z0 := HZ6.out W7 hB7
          obtain ⟨o0, o1, o2, o3, o4, o5, ol⟩ := H7.out.blk.cells
          clear hW7 hB7 H6
          go_quiet (fail)
          go_wp2_with fail
          go_roundw
          case rel => exact ⟨j + 1, by go_num, H7.out.drewN _⟩
          case measure => simp [intOf]; omega
        · obtain ⟨k1, k2⟩ := HCU.out.other (n := (K : Int)) (by omega) (by omega) hzb hid
          rw [k2, decide_eq_true k1] at HOF
          have hne : (z.id != o.id) = true := by simpa using hid
          have hE : ∀ W : World, (Op.equalIn 10000 31 (.agg #[.int .i64 z.id, .int .i64 z.tn, .bool z.sell, .int .i64 z.price, .int .i64 z.lots, .int .i64 z.seq]) (.agg #[.int .i64 z.id, .int .i64 z.tn, .bool z.sell, .int .i64 z.price, .int .i64 z.lots, .int .i64 z.seq])).run Tryd.prog W = .ok true W := fun W => (eqBO z z W).trans (by rw [decide_eq_true rfl])
          clear hz hc1 hzb hid k1 k2
          go_wp2_with fail
          refine HOF.out.mono ?_
          rintro e w6 ⟨rfl, t6, b6⟩
          have H6 := Lib.hid (HC.out.on b6)
          have HZ6 : Hid (∀ W : World, Below w6.heap.size w6 W → W.cell? ⟨g2, j * 6, none⟩ = some (.int .i64 z.id) ∧ W.cell? ⟨g2, j * 6 + 1, none⟩ = some (.int .i64 z.tn) ∧ W.cell? ⟨g2, j * 6 + 2, none⟩ = some (.bool z.sell) ∧ W.cell? ⟨g2, j * 6 + 3, none⟩ = some (.int .i64 z.price) ∧ W.cell? ⟨g2, j * 6 + 4, none⟩ = some (.int .i64 z.lots) ∧ W.cell? ⟨g2, j * 6 + 5, none⟩ = some (.int .i64 z.seq)) := Lib.hid fun W hb =>
            ⟨(hb.cell (p := ⟨g2, j * 6, none⟩) (Nat.lt_of_lt_of_le gl b6.size)).trans ((b6.cell (p := ⟨g2, j * 6, none⟩) gl).trans (HZC.out 0 _ rfl)), (hb.cell (p := ⟨g2, j * 6 + 1, none⟩) (Nat.lt_of_lt_of_le gl b6.size)).trans ((b6.cell (p := ⟨g2, j * 6 + 1, none⟩) gl).trans (HZC.out 1 _ rfl)), (hb.cell (p := ⟨g2, j * 6 + 2, none⟩) (Nat.lt_of_lt_of_le gl b6.size)).trans ((b6.cell (p := ⟨g2, j * 6 + 2, none⟩) gl).trans (HZC.out 2 _ rfl)), (hb.cell (p := ⟨g2, j * 6 + 3, none⟩) (Nat.lt_of_lt_of_le gl b6.size)).trans ((b6.cell (p := ⟨g2, j * 6 + 3, none⟩) gl).trans (HZC.out 3 _ rfl)), (hb.cell (p := ⟨g2, j * 6 + 4, none⟩) (Nat.lt_of_lt_of_le gl b6.size)).trans ((b6.cell (p := ⟨g2, j * 6 + 4, none⟩) gl).trans (HZC.out 4 _ rfl)), (hb.cell (p := ⟨g2, j * 6 + 5, none⟩) (Nat.lt_of_lt_of_le gl b6.size)).trans ((b6.cell (p := ⟨g2, j * 6 + 5, none⟩) gl).trans (HZC.out 5 _ rfl))⟩
          clear t6 b6 HOF HC z0
          go_wp2_with fail
          obtain ⟨W7, hW7⟩ : ∃ W7, w6.alloc (.cells #[.int .i64 z.id, .int .i64 z.tn, .bool z.sell, .int .i64 z.price, .int .i64 z.lots, .int .i64 z.seq] 31) = W7 := ⟨_, rfl⟩
          have hB7 : Below w6.heap.size w6 W7 := by rw [← hW7]; exact (Below.refl _ _).alloc (Nat.le_refl _) _
          have hy7 : BOdBlk W7 w6.heap.size z := by rw [← hW7]; exact BOdBlk.new _ _
          rw [hW7]
          have H7 := Lib.hid (H6.out.on hB7)
          obtain ⟨z0, z1, z2, z3, z4, z5⟩ := HZ6.out W7 hB7
          obtain ⟨y0, y1, y2, y3, y4, y5, yl⟩ := hy7.cells
          obtain ⟨o0, o1, o2, o3, o4, o5, ol⟩ := H7.out.blk.cells
          clear hW7 hB7 H6 hy7
          go_quiet (fail)
          go_wp2_with fail
          go_roundw
          case rel => exact ⟨j + 1, by go_num, H7.out.drewN _⟩
          case measure => simp [intOf]; omega
      · have hj2 : ¬ (j : Int) < (N : Int) := by omega
        have HLN := Lib.hid HC.out.bk.size
        rw [HDD.out] at HLN
        go_wp2_with fail
        refine HLN.out.mono ?_
        rintro e w6 ⟨rfl, rfl⟩
        go_wp2_with fail
        go_ret
        exact ⟨by first | rfl | (simp; done), HC.out.bk.below⟩
end Go.Proofs.YtcbhilaecaccpaaDoor
