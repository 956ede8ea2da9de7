/- The walk of the law ShotKeeps: whatever the arguments, it returns true. Condition: the sentinels lie as the program's text lays them. -/
import Derived.Test.YtmfchjbpbfkgiaaGreatDoorShF
import Derived.Test.YtmfchjbpbfkgiaaGreatDoorShV
import Derived.Test.YtmfchjbpbfkgiaaGreatDoorOwn7
import Derived.Test.YtmfchjbpbfkgiaaGreatDoorFrSz
import Derived.Test.YtmfchjbpbfkgiaaGreatDoorOpenL
import Derived.Deep.DeepCutAuto
import Derived.Deep.CutBlock
namespace Go.Proofs.YtmfchjbpbfkgiaaGreatDoor
open Go Go.RowKit

theorem app_list (X Y : ByteArray) : (X ++ Y).data.toList = X.data.toList ++ Y.data.toList := by
  have h := bst_cat X.data.toList Y.data.toList
  rw [← bst_of, ← bst_of] at h
  rw [h]; rfl
/-- What a life begins with. -/
def HoRel7 (w : World) (p g cap : Nat) (L : List (List ByteArray)) (sv sure ki : Value) (wr : World) : Prop :=
  ∃ (k u q N nx : Nat) (T : List UInt8) (SS : ByteArray) (v : Value) (rs : List (List UInt8)) (d : DS), sv = .pointer (some ⟨u, 0, none⟩) ∧ sure = .string SS ∧ ki = .int .i64 (k : Int) ∧ k ≤ L.length ∧ AlS wr w.heap.size u q p g cap N nx T SS.data.toList v rs d (11 * k) (3000 * k + 200) ∧ Below w.heap.size w wr
/-- What a round within a life begins with. -/
def HiRel7 (w : World) (u q p g cap k n : Nat) (sure la ii : Value) (wr : World) : Prop :=
  ∃ (j N nx : Nat) (T : List UInt8) (SS : ByteArray) (v : Value) (rs : List (List UInt8)) (d : DS), sure = .string SS ∧ la = .string ⟨#[]⟩ ∧ ii = .int .i64 (j : Int) ∧ j ≤ n ∧ j ≤ 10 ∧ AlS wr w.heap.size u q p g cap N nx T SS.data.toList v rs d (11 * k + j) (3000 * k + 200 + 120 * j) ∧ Below w.heap.size w wr
/-- What a life ends with: the store has power, or what its disk holds comes to what was answered, and at most the record at work. -/
def MidRel7 (w : World) (u q p g cap k : Nat) (sure la : Value) (wr : World) : Prop :=
  ∃ SS LL : ByteArray, sure = .string SS ∧ la = .string LL ∧ LL.size ≤ 8 ∧ SS.size ≤ 400 ∧ Below w.heap.size w wr ∧ ((∃ N nx T v rs d, AlS wr w.heap.size u q p g cap N nx T SS.data.toList v rs d (11 * k + 10) (3000 * k + 1400)) ∨
    ∃ S' d, (S' = SS.data.toList ∨ S' = SS.data.toList ++ LL.data.toList) ∧ OfS wr w.heap.size p g cap S' (11 * k + 10) (3000 * k + 1400) false d)
/-- The disk of a store that lost its power. -/
def OffRel7 (w : World) (p g cap k : Nat) (SS LL : ByteArray) (on : Bool) (wr : World) : Prop :=
  Below w.heap.size w wr ∧ ∃ S' d, (S' = SS.data.toList ∨ S' = SS.data.toList ++ LL.data.toList) ∧ OfS wr w.heap.size p g cap S' (11 * k + 11) (3000 * k + 1600) on d
/-- The store that was opened. -/
def BackRel7 (w : World) (p g cap k : Nat) (SS LL : ByteArray) (sv : Value) (wr : World) : Prop :=
  Below w.heap.size w wr ∧ ∃ u q N nx T v rs d S', sv = .pointer (some ⟨u, 0, none⟩) ∧ (S' = SS.data.toList ∨ S' = SS.data.toList ++ LL.data.toList) ∧ AlS wr w.heap.size u q p g cap N nx T S' v rs d (11 * k + 11) (3000 * k + 2000)

set_option maxHeartbeats 3200000 in
set_option maxRecDepth 100000 in
theorem skeeps_any (s : Nat → Addr) (A : Option Addr) (c : Nat) (L : List (List ByteArray)) (Af : Option Addr) (cf : Nat) (fs : List Int) (At : Option Addr) (ct : Nat) (ts : List Int) (w : World) (hs : Sent s w) (hA : SSRow w w.heap.size A L) (_hl : L.length ≤ 9223372036854775807)
    (hF : IntRow w w.heap.size Af fs) (_hlf : fs.length ≤ 9223372036854775807) (hT : IntRow w w.heap.size At ts) (_hlt : ts.length ≤ 9223372036854775807) :
    Calls Tryz.prog 5 #[.slice A L.length c, .slice Af fs.length cf, .slice At ts.length ct] w fun e w' => e = .returned (.bool true) ∧ Below w.heap.size w w' := by
  have HA := Lib.hid hA; have HF := Lib.hid hF; have HT := Lib.hid hT
  clear hA hF hT
  by_cases h4 : 4 < L.length
  · have h4i : (4 : Int) < (L.length : Int) := by omega
    go_enter Tryz.func5, Tryz.ntmps5
    go_wp2_with fail
    refine (awake7_c s _ hs).mono ?_
    rintro e w1 ⟨rfl, b1⟩
    go_wp2_with fail
    go_ret
    exact ⟨rfl, b1⟩
  have h4i : ¬ (4 : Int) < (L.length : Int) := by omega
  obtain ⟨YY, hYY⟩ : ∃ T : ByteArray, T = ⟨#[121]⟩ := ⟨_, rfl⟩
  have hYs : YY.size = 1 := by rw [hYY]; rfl
  go_enter Tryz.func5, Tryz.ntmps5
  go_wp2_with fail
  refine (awake7_c s _ hs).mono ?_
  rintro e w1 ⟨rfl, b1⟩
  have B1 := Lib.hid b1; clear b1
  go_wp2_with fail
  refine (fresh_c 80 80 _ rfl (by omega)).mono ?_
  rintro e w2 ⟨p, g, cap, d, rfl, hd, b2, hg⟩
  have hb2 : Below w.heap.size w w2 := B1.out.trans (b2.mono B1.out.size)
  have hgw : w.heap.size ≤ g := Nat.le_trans B1.out.size hg
  have hop := of_open s w p g cap [] d 0 0 w2 hs hb2 (fresh_of hd hgw) (by omega) (by omega)
  have hdf := hd.fuse
  have HOP := Lib.hid hop
  clear hop hd b2 hb2
  go_wp2_with fail
  refine (HOP.out).mono ?_
  rintro e w3 ⟨hb3, ⟨u, q, N, nx, T, v, rs, d3, rfl, hl3⟩ | ⟨hbad, _⟩⟩
  case inr => omega
  have HST : Hid (HoRel7 w p g cap L (.pointer (some ⟨u, 0, none⟩)) (.string ⟨#[]⟩) (.int .i64 0) w3) := Lib.hid ⟨0, u, q, N, nx, T, ⟨#[]⟩, v, rs, d3, rfl, rfl, rfl, Nat.zero_le _, hl3.le (by omega) (by omega), hb3⟩
  clear hl3 hb3 HOP
  go_wp2_with fail
  go_loopw [8, 10, 11] (fun sv sure ki wr => HoRel7 w p g cap L sv sure ki wr) (fun _ _ ki _ => L.length - (intOf ki).toNat)
  case atStart => exact HST.out
  case round =>
    obtain ⟨k, u, q, N, nx, T, SS, v, rs, d, rfl, rfl, rfl, hk, hal, hb⟩ := hrel
    clear HST
    by_cases hkl : k < L.length
    case neg =>
      have hge : ¬ (k : Int) < (L.length : Int) := by omega
      have HB := Lib.hid hb
      clear hal hb
      go_wp2_with fail
      go_ret
      exact ⟨rfl, HB.out⟩
    obtain ⟨zs, hz⟩ : ∃ zs, L[k]? = some zs := ⟨_, List.getElem?_eq_getElem hkl⟩
    obtain ⟨aL, rfl, A2, c2, caL, hzc, hzr, hzl⟩ := HA.out.cell hb hz
    have k0 : (0 : Int) ≤ (k : Int) := by omega
    have k1 : (k : Int) < (L.length : Int) := by omega
    have HZ : Hid (∀ W, Below w.heap.size w W → W.cell? (aL.add k) = some (.slice A2 zs.length c2) ∧ SRow W w.heap.size A2 zs) := Lib.hid fun W hW => by
      obtain ⟨aL', e', A3, c3, ca3, _, hr3, _⟩ := HA.out.cell hW hz
      obtain rfl := Option.some.inj e'
      obtain ⟨a0, e0, hbl0, hc0⟩ := HA.out (Nat.lt_of_le_of_lt (Nat.zero_le _) hkl)
      obtain rfl := Option.some.inj e0
      obtain ⟨A4, c4, h41, _, h43, _⟩ := hc0 k zs hz
      have hlow : (aL.add k).block < w.heap.size := by rw [block_addS]; exact hbl0
      have hw1 := (hb.cell (p := aL.add k) hlow).trans h41
      rw [caL] at hw1
      simp only [Option.some.injEq, Value.slice.injEq, true_and] at hw1
      obtain ⟨rfl, rfl⟩ := hw1
      exact ⟨(hW.cell (p := aL.add k) hlow).trans h41, h43.below hW (Nat.le_refl _)⟩
    clear hzr
    go_upto_region 13 with fail
    go_cut [46] (fun cc wx => ∃ bb : Bool, cc = .bool bb ∧ (bb = true → k < fs.length ∧ k < ts.length) ∧ wr = wx)
    case first => as_aux_lemma =>
      by_cases hkf : k < fs.length
      · have kf1 : (k : Int) < (fs.length : Int) := by omega
        by_cases hkt : k < ts.length
        · have kt1 : (k : Int) < (ts.length : Int) := by omega
          go_wp2_with fail
          go_meet
          exact ⟨true, rfl, fun _ => ⟨hkf, hkt⟩, rfl⟩
        · have kt1 : ¬ (k : Int) < (ts.length : Int) := by omega
          go_wp2_with fail
          go_meet
          exact ⟨false, rfl, (fun h => by cases h), rfl⟩
      · have kf1 : ¬ (k : Int) < (fs.length : Int) := by omega
        go_wp2_with fail
        go_meet
        exact ⟨false, rfl, (fun h => by cases h), rfl⟩
    case rest =>
    obtain ⟨bb, rfl, hbb, rfl⟩ := hcut
    have HAL := Lib.hid hal; have HB := Lib.hid hb
    clear hal hb
    go_upto_if 46 with fail
    go_cut [] (fun wx => HiRel7 w u q p g cap k zs.length (.string SS) (.string ⟨#[]⟩) (.int .i64 0) wx)
    case first => as_aux_lemma =>
      cases bb with
      | false =>
        clear caL
        go_wp2_with fail
        go_meet
        exact ⟨0, N, nx, T, SS, v, rs, d, rfl, rfl, rfl, Nat.zero_le _, by omega, HAL.out.le (by omega) (by omega), HB.out⟩
      | true =>
        obtain ⟨hkf, hkt⟩ := hbb rfl
        obtain ⟨fz, hfz⟩ : ∃ fz, fs[k]? = some fz := ⟨_, List.getElem?_eq_getElem hkf⟩
        obtain ⟨tz, htz⟩ : ∃ tz, ts[k]? = some tz := ⟨_, List.getElem?_eq_getElem hkt⟩
        obtain ⟨aF, rfl, caF⟩ := HF.out.cell HB.out hfz
        obtain ⟨aT, rfl, caT⟩ := HT.out.cell HB.out htz
        obtain ⟨F, hF, eF⟩ := mod_pos fz 60 (by omega) (by omega)
        obtain ⟨TT, hT, eT⟩ := mod_pos tz 65 (by omega) (by omega)
        have kf1 : (k : Int) < (fs.length : Int) := by omega
        have kt1 : (k : Int) < (ts.length : Int) := by omega
        have HSS : Hid (∀ W, Below w.heap.size w W → (W.cell? (aF.add k) = some (.int .i64 fz) ∧ W.cell? (aT.add k) = some (.int .i64 tz))) := Lib.hid fun W hW => by
          obtain ⟨aF', eF2, caF5⟩ := HF.out.cell hW hfz
          obtain ⟨aT', eT2, caT5⟩ := HT.out.cell hW htz
          obtain rfl := Option.some.inj eF2
          obtain rfl := Option.some.inj eT2
          exact ⟨caF5, caT5⟩
        have HFU : Hid (∀ W, Same wr W → Calls Tryz.prog 37 #[.pointer (some ⟨p, 0, none⟩), .int .i64 (IntKind.i64.wrap ((IntKind.u64.wrap fz).tmod 60)), .int .i64 (IntKind.i64.wrap ((IntKind.u64.wrap tz).tmod 65))] W fun e w' => e = .returned (.tuple #[]) ∧ HiRel7 w u q p g cap k zs.length (.string SS) (.string ⟨#[]⟩) (.int .i64 0) w' ∧ w'.cell? (aF.add k) = some (.int .i64 fz) ∧ w'.cell? (aT.add k) = some (.int .i64 tz)) := Lib.hid fun W hW => by
          rw [show IntKind.i64.wrap ((IntKind.u64.wrap fz).tmod 60) = (F : Int) by rw [IntWalk.i64_left]; exact eF, show IntKind.i64.wrap ((IntKind.u64.wrap tz).tmod 65) = (TT : Int) by rw [IntWalk.i64_left]; exact eT]
          refine (al_fuse w u q p g cap N nx T SS.data.toList v rs d (11 * k) (3000 * k + 200) (F : Int) (TT : Int) W (HB.out.trans (hW.below _)) (HAL.out.same hW) (by omega) (by omega) (by omega) (by omega)).mono ?_
          rintro e w5 ⟨rfl, hb5, hal5⟩
          exact ⟨rfl, ⟨0, N, nx, T, SS, v, rs, _, rfl, rfl, rfl, Nat.zero_le _, by omega, hal5.le (by omega) (by omega), hb5⟩, HSS.out w5 hb5⟩
        have HS2 : Hid (∀ W, Same wr W → (W.cell? (aF.add k) = some (.int .i64 fz) ∧ W.cell? (aT.add k) = some (.int .i64 tz))) := Lib.hid fun W hW => HSS.out W (HB.out.trans (hW.below _))
        clear eF eT
        go_wp2_with fail
        go_region_held3 (fun W => W.cell? (aF.add k) = some (.int .i64 fz) ∧ W.cell? (aT.add k) = some (.int .i64 tz))
          (first | assumption | exact HS2.out _ ⟨rfl, rfl, rfl, rfl, fun _ => rfl⟩)
          (first
            | (go_at_call 37; (refine (HFU.out _ ?_).mono ?_; exact ⟨rfl, rfl, rfl, rfl, fun _ => rfl⟩); rintro e w5 ⟨rfl, hi5, s5⟩; have HI : Hid (HiRel7 w u q p g cap k zs.length (.string SS) (.string ⟨#[]⟩) (.int .i64 0) w5) := Lib.hid hi5; clear hi5))
        all_goals go_wp2_with fail
        all_goals go_meet
        all_goals exact HI.out
    case rest =>
    have HI := Lib.hid hcut
    have hk4 : k < 4 := by omega
    clear hbb HAL HB hcut caL
    go_upto_block 2 with fail
    go_cut [10, 12] (fun sure la wx => MidRel7 w u q p g cap k sure la wx)
    case first => as_aux_lemma =>
      go_wp2_with fail
      go_loopw [10, 12, 13] (fun sure la ii wr => HiRel7 w u q p g cap k zs.length sure la ii wr) (fun _ _ ii _ => 10 - (intOf ii).toNat)
      case atStart => exact HI.out
      case round =>
        obtain ⟨j, N, nx, T, SS, v, rs, d, rfl, rfl, rfl, hj, hj10, hal, hb⟩ := hrel
        clear HI
        obtain ⟨caL, hzr⟩ := HZ.out _ hb
        have j0 : (0 : Int) ≤ (j : Int) := by omega
        have hSl : SS.size ≤ 400 := by have := hal.len; rw [size_len] at this; omega
        by_cases hgo : j < zs.length ∧ j < 10
        case neg =>
          have HM : Hid (∀ W, Same wr W → MidRel7 w u q p g cap k (.string SS) (.string ⟨#[]⟩) W) := Lib.hid fun W hW => ⟨SS, ⟨#[]⟩, rfl, rfl, by decide, hSl, hb.trans (hW.below _), .inl ⟨N, nx, T, v, rs, d, (hal.same hW).le (by omega) (by omega)⟩⟩
          have HMD := HM
          clear hal hb hzr
          by_cases hjl : j < zs.length
          · have j1 : (j : Int) < (zs.length : Int) := by omega
            have j2 : ¬ (j : Int) < 10 := by omega
            go_wp2_with fail
            go_meet
            exact HMD.out _ (Same.refl _)
          · have j1 : ¬ (j : Int) < (zs.length : Int) := by omega
            go_wp2_with fail
            go_meet
            exact HMD.out _ (Same.refl _)
        obtain ⟨hjl, hj1⟩ := hgo
        obtain ⟨z, hzj⟩ : ∃ z, zs[j]? = some z := ⟨_, List.getElem?_eq_getElem hjl⟩
        obtain ⟨aZ, rfl, _, caZ⟩ := hzr.cell hzj
        have j1 : (j : Int) < (zs.length : Int) := by omega
        have j2 : (j : Int) < 10 := by omega
        clear hzr
        by_cases hbig : 8 < z.size
        · have hbi : (8 : Int) < (z.size : Int) := by omega
          have HB := Lib.hid hb
          clear hal hb
          go_wp2_with fail
          go_ret
          exact ⟨rfl, HB.out⟩
        have hbi : ¬ (8 : Int) < (z.size : Int) := by omega
        by_cases hz0 : z = ⟨#[]⟩
        · have hke := al_keep s w u q p g cap N nx T SS.data.toList v rs d (11 * k + j) (3000 * k + 200 + 120 * j) _ hs hb hal (by omega) (by omega)
          rw [← bst_of] at hke
          simp only [errV_pos] at hke
          have HKE := Lib.hid hke
          subst hz0
          clear hke hal hb
          go_wp2_with fail
          refine (HKE.out).mono ?_
          rintro e w6 ⟨hb6, ⟨rfl, N', nx', d', h6⟩ | ⟨rfl, d', h6⟩⟩
          · have HN : Hid (HiRel7 w u q p g cap k zs.length (.string SS) (.string ⟨#[]⟩) (.int .i64 ((j : Int) + 1)) w6) := Lib.hid ⟨j + 1, N', nx', _, SS, _, [], d', rfl, rfl, ret_v (by omega), by omega, by omega, h6.le (by omega) (by omega), hb6⟩
            clear h6 hb6 HKE
            go_wp2_with fail
            go_roundw
            case rel => exact HN.out
            case measure => simp [intOf]; omega
          · have hk1 := kind_errV s 14 w6 (hs.below hb6 (Nat.le_refl _)) (by omega)
            simp only [errV_pos] at hk1
            have HK := Lib.hid hk1; have HB6 := Lib.hid hb6; have H6 := Lib.hid h6
            clear hk1 hb6 h6 HKE
            go_wp2_with fail
            refine (HK.out).mono ?_
            rintro e w7 ⟨rfl, b7⟩
            have HM : Hid (MidRel7 w u q p g cap k (.string SS) (.string ⟨#[]⟩) w7) := Lib.hid ⟨SS, ⟨#[]⟩, rfl, rfl, by decide, hSl, HB6.out.trans (b7.mono HB6.out.size), .inr ⟨_, d', .inl rfl, (H6.out.below b7 (Nat.le_refl _)).le (by omega) (by omega)⟩⟩
            clear b7
            go_wp2_with fail
            go_meet
            exact HM.out
        have hzne : (z.toList == []) = false := by
          rw [toList_is]
          cases hl : z.data.toList with
          | nil => exact absurd (by rw [bst_of z, hl]; rfl) hz0
          | cons x r => rfl
        have had := al_add s w u q p g cap N nx T SS.data.toList v rs d (11 * k + j) (3000 * k + 200 + 120 * j) z _ hs hb hal (by omega) (by omega) (by omega)
        simp only [errV_pos] at had
        have HAD := Lib.hid had
        clear had hal hb
        go_wp2_with fail
        refine (HAD.out).mono ?_
        rintro e w6 ⟨hb6, hway, _⟩
        rcases hway with ⟨rfl, v', d', h6⟩ | ⟨rfl, d', h6⟩
        · have HB6 := Lib.hid hb6; have H6 := Lib.hid h6
          have hcat : ¬ (9223372036854775807 < SS.size + z.size) := by omega
          clear hb6 h6 HAD
          go_wp2_with fail
          refine (kind_nil _).mono ?_
          rintro e w7 ⟨rfl, b7⟩
          have HN : Hid (HiRel7 w u q p g cap k zs.length (.string (SS ++ z)) (.string ⟨#[]⟩) (.int .i64 ((j : Int) + 1)) w7) := Lib.hid ⟨j + 1, N, nx, T, SS ++ z, v', _, d', rfl, rfl, ret_v (by omega), by omega, by omega, by rw [app_list]; exact (H6.out.below b7 (Nat.le_refl _)).le (by omega) (by omega), HB6.out.trans (b7.mono HB6.out.size)⟩
          clear b7 H6 HB6
          go_wp2_with fail
          go_roundw
          case rel => exact HN.out
          case measure => simp [intOf]; omega
        · have hk1 := fun W (hW : Below w.heap.size w W) => kind_errV s 14 W (hs.below hW (Nat.le_refl _)) (by omega)
          simp only [errV_pos] at hk1
          have HK := Lib.hid hk1; have HB6 := Lib.hid hb6; have H6 := Lib.hid h6
          clear hk1 hb6 h6 HAD
          go_wp2_with fail
          refine (HK.out _ HB6.out).mono ?_
          rintro e w7 ⟨rfl, b7⟩
          have HB7 : Hid (Below w.heap.size w w7) := Lib.hid (HB6.out.trans (b7.mono HB6.out.size))
          have B7 := Lib.hid b7
          clear b7
          go_wp2_with fail
          refine (HK.out _ HB7.out).mono ?_
          rintro e w8 ⟨rfl, b8⟩
          have HM : Hid (MidRel7 w u q p g cap k (.string SS) (.string z) w8) := Lib.hid ⟨SS, z, rfl, rfl, by omega, hSl, HB7.out.trans (b8.mono HB7.out.size), .inr (by
            have hb68 := B7.out.trans (b8.mono B7.out.size)
            rcases H6.out with h6 | ⟨_, h6⟩
            · exact ⟨_, d', .inl rfl, (h6.below hb68 (Nat.le_refl _)).le (by omega) (by omega)⟩
            · exact ⟨_, d', .inr rfl, (h6.below hb68 (Nat.le_refl _)).le (by omega) (by omega)⟩)⟩
          clear b8
          go_wp2_with fail
          go_meet
          exact HM.out
    case rest =>
    obtain ⟨SS2, LL, rfl, rfl, hLL, hSS, hb, hway⟩ := hcut
    clear HZ
    go_upto_region 34 with fail
    go_cut [116] (fun cc wx => ∃ bb : Bool, cc = .bool bb ∧ Below w.heap.size w wx ∧ (bb = true → ∃ N nx T v rs d, AlS wx w.heap.size u q p g cap N nx T SS2.data.toList v rs d (11 * k + 10) (3000 * k + 1400)) ∧
      (bb = false → ∃ S' d, (S' = SS2.data.toList ∨ S' = SS2.data.toList ++ LL.data.toList) ∧ OfS wx w.heap.size p g cap S' (11 * k + 10) (3000 * k + 1400) false d))
    case first => as_aux_lemma =>
      rcases hway with ⟨N, nx, T, v, rs, d, hal⟩ | ⟨S', d, hS', hof⟩
      · have HIS := Lib.hid (ison_c p g cap d _ hal.mem.log.disk)
        have hon := hal.on
        have HAL := Lib.hid hal; have HB := Lib.hid hb
        clear hal hb
        go_wp2_with fail
        refine (HIS.out).mono ?_
        rintro e w9 ⟨rfl, rfl⟩
        rw [hon]
        go_wp2_with fail
        go_meet
        exact ⟨true, rfl, HB.out, fun _ => ⟨N, nx, T, v, rs, d, HAL.out⟩, fun h => by cases h⟩
      · have HIS := Lib.hid (ison_c p g cap d _ hof.1)
        have hon := hof.2.2.1
        have HOF := Lib.hid hof; have HB := Lib.hid hb
        clear hof hb
        go_wp2_with fail
        refine (HIS.out).mono ?_
        rintro e w9 ⟨rfl, rfl⟩
        rw [hon]
        go_wp2_with fail
        go_meet
        exact ⟨false, rfl, HB.out, (fun h => by cases h), fun _ => ⟨S', d, hS', HOF.out⟩⟩
    case rest =>
    obtain ⟨bb2, rfl, hb, hal, hof⟩ := hcut
    clear hway
    go_upto_if 116 with fail
    go_cut [] (fun wx => OffRel7 w p g cap k SS2 LL false wx)
    case first => as_aux_lemma =>
      cases bb2 with
      | false =>
        obtain ⟨S', d, hS', hof⟩ := hof rfl
        have HF : Hid (OffRel7 w p g cap k SS2 LL false _) := Lib.hid ⟨hb, S', d, hS', hof.le (by omega) (by omega)⟩
        clear hal hof hb
        go_wp2_with fail
        go_meet
        exact HF.out
      | true =>
        obtain ⟨N, nx, T, v, rs, d, hal⟩ := hal rfl
        have HFU := Lib.hid (al_fuse w u q p g cap N nx T SS2.data.toList v rs d _ _ 0 0 _ hb hal (by omega) (by omega) (by omega) (by omega))
        have hon := hal.on
        obtain ⟨_, _, _, hf0, ht0⟩ := setFuse_on (d := d) 0 0 hon
        clear hof hal hb
        go_wp2_with fail
        refine (HFU.out).mono ?_
        rintro e w9 ⟨rfl, hb9, hal9⟩
        have hrest := al_rest s w u q p g cap N nx T SS2.data.toList v rs _ _ _ YY w9 hs hb9 hal9 (by omega) (by omega) (by omega) hf0 (by rw [ht0]; rfl)
        rw [hYY] at hrest
        have HRE := Lib.hid hrest
        clear hrest hal9 hb9 HFU
        go_wp2_with fail
        refine (HRE.out).mono ?_
        rintro e w10 ⟨rfl, hb10, d10, hof10⟩
        have HF : Hid (OffRel7 w p g cap k SS2 LL false w10) := Lib.hid ⟨hb10, _, d10, .inl rfl, hof10.le (by omega) (by omega)⟩
        clear hb10 hof10 HRE
        go_wp2_with fail
        go_meet
        exact HF.out
    case rest =>
    obtain ⟨hb, S', d, hS', hof⟩ := hcut
    clear hal
    have HCM := Lib.hid (of_come w p g cap S' d _ _ _ hb hof)
    clear hof hb
    go_wp2_with fail
    refine (HCM.out).mono ?_
    rintro e w11 ⟨rfl, hb11, hof11, _⟩
    have HB11 := Lib.hid hb11; have HO11 := Lib.hid hof11
    clear hb11 hof11 HCM
    go_upto_if 126 with fail
    go_cut [] (fun wx => ∃ d, Below w.heap.size w wx ∧ OfS wx w.heap.size p g cap S' (11 * k + 11) (3000 * k + 1600) true d)
    case first => as_aux_lemma =>
      by_cases hkt : k < ts.length
      · obtain ⟨tz, htz⟩ : ∃ tz, ts[k]? = some tz := ⟨_, List.getElem?_eq_getElem hkt⟩
        obtain ⟨aT, rfl, caT⟩ := HT.out.cell HB11.out htz
        obtain ⟨F, hF, eF⟩ := mod_pos tz 3 (by omega) (by omega)
        obtain ⟨TT, hT, eT⟩ := mod_pos tz 65 (by omega) (by omega)
        have kt1 : (k : Int) < (ts.length : Int) := by omega
        have HSS : Hid (∀ W, Below w.heap.size w W → W.cell? (aT.add k) = some (.int .i64 tz)) := Lib.hid fun W hW => by
          obtain ⟨aT', eT2, caT5⟩ := HT.out.cell hW htz
          obtain rfl := Option.some.inj eT2
          exact caT5
        have HFU : Hid (∀ W, Same w11 W → Calls Tryz.prog 37 #[.pointer (some ⟨p, 0, none⟩), .int .i64 (IntKind.i64.wrap ((IntKind.u64.wrap tz).tmod 3)), .int .i64 (IntKind.i64.wrap ((IntKind.u64.wrap tz).tmod 65))] W fun e w' => e = .returned (.tuple #[]) ∧ (∃ d, Below w.heap.size w w' ∧ OfS w' w.heap.size p g cap S' (11 * k + 11) (3000 * k + 1600) true d) ∧ w'.cell? (aT.add k) = some (.int .i64 tz)) := Lib.hid fun W hW => by
          rw [show IntKind.i64.wrap ((IntKind.u64.wrap tz).tmod 3) = (F : Int) by rw [IntWalk.i64_left]; exact eF, show IntKind.i64.wrap ((IntKind.u64.wrap tz).tmod 65) = (TT : Int) by rw [IntWalk.i64_left]; exact eT]
          refine (of_fuse w p g cap S' _ _ _ (F : Int) (TT : Int) W (HB11.out.trans (hW.below _)) (HO11.out.below (hW.below w11.heap.size) (Nat.le_refl _)) (by omega) (by omega) (by omega) (by omega)).mono ?_
          rintro e w5 ⟨rfl, hb5, hof5⟩
          exact ⟨rfl, ⟨_, hb5, hof5⟩, HSS.out w5 hb5⟩
        have HS2 : Hid (∀ W, Same w11 W → W.cell? (aT.add k) = some (.int .i64 tz)) := Lib.hid fun W hW => HSS.out W (HB11.out.trans (hW.below _))
        clear eF eT
        go_wp2_with fail
        go_region_held3 (fun W => W.cell? (aT.add k) = some (.int .i64 tz))
          (first | assumption | exact HS2.out _ ⟨rfl, rfl, rfl, rfl, fun _ => rfl⟩)
          (first
            | (go_at_call 37; (refine (HFU.out _ ?_).mono ?_; exact ⟨rfl, rfl, rfl, rfl, fun _ => rfl⟩); rintro e w5 ⟨rfl, hi5, s5⟩; have HI := Lib.hid hi5; clear hi5))
        all_goals go_wp2_with fail
        all_goals go_meet
        all_goals exact HI.out
      · have kt1 : ¬ (k : Int) < (ts.length : Int) := by omega
        go_wp2_with fail
        go_meet
        exact ⟨_, HB11.out, HO11.out⟩
    case rest =>
    obtain ⟨d12, hb12, hof12⟩ := hcut
    have HOP := Lib.hid (of_open s w p g cap S' d12 _ _ _ hs hb12 hof12 (by omega) (by omega))
    clear hb12 hof12 HB11 HO11
    go_upto_region 40 with fail
    go_cut [8, 9] (fun sv ev wx => Below w.heap.size w wx ∧ ((ev = .nilIface ∧ ∃ u q N nx T v rs d, sv = .pointer (some ⟨u, 0, none⟩) ∧ AlS wx w.heap.size u q p g cap N nx T S' v rs d (11 * k + 11) (3000 * k + 1664)) ∨
      (ev = .iface 163 (.pointer (some (s 13))) ∧ sv = .pointer none ∧ ∃ d, OfS wx w.heap.size p g cap S' (11 * k + 11) (3000 * k + 1664) false d)))
    case first => as_aux_lemma =>
      go_wp2_with fail
      refine (HOP.out).mono ?_
      rintro e w13 ⟨hb13, ⟨u3, q3, N3, nx3, T3, v3, rs3, d3, rfl, hal3⟩ | ⟨_, rfl, d3, hof3⟩⟩
      · have HF := Lib.hid (And.intro hb13 hal3)
        clear hb13 hal3 HOP
        go_wp2_with fail
        go_meet
        exact ⟨HF.out.1, .inl ⟨rfl, u3, q3, N3, nx3, T3, v3, rs3, d3, rfl, HF.out.2.le (by omega) (by omega)⟩⟩
      · have HF := Lib.hid (And.intro hb13 hof3)
        clear hb13 hof3 HOP
        simp only [errV_pos]
        go_wp2_with fail
        go_meet
        exact ⟨HF.out.1, .inr ⟨rfl, rfl, d3, HF.out.2.le (by omega) (by omega)⟩⟩
    case rest =>
    obtain ⟨hb13, hway⟩ := hcut
    clear HOP
    rcases hway with ⟨rfl, u4, q4, N4, nx4, T4, v4, rs4, d4, rfl, hal4⟩ | ⟨rfl, rfl, d4, hof4⟩
    · as_aux_lemma =>
        have HFU := Lib.hid (al_fuse w u4 q4 p g cap N4 nx4 T4 S' v4 rs4 d4 _ _ (-1) 0 _ hb13 hal4 (by omega) (by omega) (by omega) (by omega))
        clear hal4 hb13
        go_wp2_with fail
        refine (HFU.out).mono ?_
        rintro e w14 ⟨rfl, hb5, hal5⟩
        obtain ⟨u5, q5, N5, nx5, T5, v5, rs5, hv5⟩ : ∃ u5 q5 N5 nx5 T5 v5 rs5, u5 = u4 ∧ q5 = q4 ∧ N5 = N4 ∧ nx5 = nx4 ∧ T5 = T4 ∧ v5 = v4 ∧ rs5 = rs4 := ⟨_, _, _, _, _, _, _, rfl, rfl, rfl, rfl, rfl, rfl, rfl⟩
        obtain ⟨h1, h2, h3, h4, h5, h6, h7⟩ := hv5
        rw [← h1, ← h2, ← h3, ← h4, ← h5, ← h6, ← h7] at hal5
        rw [← h1]
        clear h1 h2 h3 h4 h5 h6 h7 HFU
        have HALX := Lib.hid hal5; have HBX := Lib.hid hb5
        clear hal5 hb5
        obtain ⟨TT, hTT⟩ : ∃ TT, bst T5 = TT := ⟨_, rfl⟩
        obtain ⟨JJ, hJJ⟩ : ∃ JJ, bst rs5.flatten = JJ := ⟨_, rfl⟩
        have hTl : TT.data.toList = T5 := by rw [← hTT]; rfl
        have hJl : JJ.data.toList = rs5.flatten := by rw [← hJJ]; rfl
        have hGl : (TT ++ JJ).data.toList = S' := by rw [app_list, hTl, hJl]; exact HALX.out.sum
        have hlen := HALX.out.len
        have hTs : TT.size ≤ 1000 := by
          rw [← size_len, hTl]
          have := congrArg List.length HALX.out.sum
          rw [List.length_append] at this; omega
        have hJs : JJ.size ≤ 1000 := by
          rw [← size_len, hJl]
          have := congrArg List.length HALX.out.sum
          rw [List.length_append] at this; omega
        have z1 : ¬ 9223372036854775807 < TT.size + JJ.size := by omega
        have z2 : ¬ 9223372036854775807 < SS2.size + LL.size := by omega
        have HGL := Lib.hid hGl
        have HTT := Lib.hid hTT; have HJJ := Lib.hid hJJ
        clear hTT hJJ hTl hJl hGl
        go_wp2_with fail
        refine (state_c _ u5 q5 p g cap _ 8 64 N5 nx5 _ v5 rs5 false false _ HALX.out.mem).mono ?_
        rintro e y1 ⟨rfl, rfl⟩
        rw [HTT.out]
        go_wp2_with fail
        refine (srecs_c _ u5 q5 p g cap _ 8 64 N5 nx5 _ v5 rs5 false false _ HALX.out.mem).mono ?_
        rintro e y2 ⟨⟨vr, rfl, orr⟩, br⟩
        have HRd := Lib.hid (own_reads orr)
        have HALY := Lib.hid (HALX.out.below br (Nat.le_refl _))
        have HBY : Hid (Below w.heap.size w y2) := Lib.hid (HBX.out.trans (br.mono HBX.out.size))
        have hjn := joined_le vr rs5 y2 HRd.out (fun x hx => by have := HALX.out.small x hx; omega) (by have := HALX.out.cnt; omega)
        rw [HJJ.out] at hjn
        have HJN := Lib.hid hjn
        clear orr br hjn HALX HBX
        go_wp2_with fail
        refine (HJN.out).mono ?_
        rintro e y3 ⟨rfl, rfl⟩
        by_cases hEq : TT ++ JJ = SS2 ++ LL
        · have hE1 : ((TT ++ JJ).toList == (SS2 ++ LL).toList) = true := by rw [str_beqK]; exact decide_eq_true hEq
          have HN : Hid (HoRel7 w p g cap L (.pointer (some ⟨u5, 0, none⟩)) (.string (TT ++ JJ)) (.int .i64 ((k : Int) + 1)) y3) := Lib.hid ⟨k + 1, u5, q5, N5, nx5, T5, TT ++ JJ, v5, rs5, _, rfl, rfl, ret_v (by omega), by omega, by rw [HGL.out]; exact HALY.out.le (by omega) (by omega), HBY.out⟩
          clear HALY HBY HRd HJN hEq
          go_wp2_with fail
          go_roundw
          case rel => exact HN.out
          case measure => simp [intOf]; omega
        · have hE1 : ((TT ++ JJ).toList == (SS2 ++ LL).toList) = false := by rw [str_beqK]; exact decide_eq_false hEq
          have hS2 : TT ++ JJ = SS2 := by
            rcases hS' with h | h
            · exact bst_ext (HGL.out.trans h)
            · exact absurd (bst_ext (by rw [HGL.out, h, app_list])) hEq
          have hE2 : ((TT ++ JJ).toList == SS2.toList) = true := by rw [str_beqK]; exact decide_eq_true hS2
          have hE3 : ((TT ++ JJ).toList != SS2.toList) = false := by unfold bne; rw [hE2]; rfl
          have HN : Hid (HoRel7 w p g cap L (.pointer (some ⟨u5, 0, none⟩)) (.string SS2) (.int .i64 ((k : Int) + 1)) y3) := Lib.hid ⟨k + 1, u5, q5, N5, nx5, T5, SS2, v5, rs5, _, rfl, rfl, ret_v (by omega), by omega, by rw [← hS2, HGL.out]; exact HALY.out.le (by omega) (by omega), HBY.out⟩
          clear HALY HBY HRd HJN hEq hS2
          go_wp2_with fail
          go_roundw
          case rel => exact HN.out
          case measure => simp [intOf]; omega
    · as_aux_lemma =>
        have hk1 := kind_errV s 14 _ (hs.below hb13 (Nat.le_refl _)) (by omega)
        simp only [errV_pos] at hk1
        have HK := Lib.hid hk1; have HB13 := Lib.hid hb13; have HO4 := Lib.hid hof4
        clear hk1 hb13 hof4
        go_wp2_with fail
        refine (HK.out).mono ?_
        rintro e w14 ⟨rfl, b14⟩
        have HCM := Lib.hid (of_come w p g cap S' d4 _ _ w14 (HB13.out.trans (b14.mono HB13.out.size)) (HO4.out.below b14 (Nat.le_refl _)))
        clear b14 HK HB13 HO4
        go_wp2_with fail
        refine (HCM.out).mono ?_
        rintro e w15 ⟨rfl, hb15, hof15, hfz⟩
        have HOP := Lib.hid (of_open s w p g cap S' _ _ _ w15 hs hb15 hof15 (by omega) (by omega))
        clear hb15 hof15 HCM
        go_wp2_with fail
        refine (HOP.out).mono ?_
        rintro e w16 ⟨hb5, ⟨u5, q5, N5, nx5, T5, v5, rs5, d5, rfl, hal5⟩ | ⟨hbad, _⟩⟩
        case inr => omega
        clear HOP
        have HALX := Lib.hid hal5; have HBX := Lib.hid hb5
        clear hal5 hb5
        obtain ⟨TT, hTT⟩ : ∃ TT, bst T5 = TT := ⟨_, rfl⟩
        obtain ⟨JJ, hJJ⟩ : ∃ JJ, bst rs5.flatten = JJ := ⟨_, rfl⟩
        have hTl : TT.data.toList = T5 := by rw [← hTT]; rfl
        have hJl : JJ.data.toList = rs5.flatten := by rw [← hJJ]; rfl
        have hGl : (TT ++ JJ).data.toList = S' := by rw [app_list, hTl, hJl]; exact HALX.out.sum
        have hlen := HALX.out.len
        have hTs : TT.size ≤ 1000 := by
          rw [← size_len, hTl]
          have := congrArg List.length HALX.out.sum
          rw [List.length_append] at this; omega
        have hJs : JJ.size ≤ 1000 := by
          rw [← size_len, hJl]
          have := congrArg List.length HALX.out.sum
          rw [List.length_append] at this; omega
        have z1 : ¬ 9223372036854775807 < TT.size + JJ.size := by omega
        have z2 : ¬ 9223372036854775807 < SS2.size + LL.size := by omega
        have HGL := Lib.hid hGl
        have HTT := Lib.hid hTT; have HJJ := Lib.hid hJJ
        clear hTT hJJ hTl hJl hGl
        go_wp2_with fail
        refine (state_c _ u5 q5 p g cap _ 8 64 N5 nx5 _ v5 rs5 false false _ HALX.out.mem).mono ?_
        rintro e y1 ⟨rfl, rfl⟩
        rw [HTT.out]
        go_wp2_with fail
        refine (srecs_c _ u5 q5 p g cap _ 8 64 N5 nx5 _ v5 rs5 false false _ HALX.out.mem).mono ?_
        rintro e y2 ⟨⟨vr, rfl, orr⟩, br⟩
        have HRd := Lib.hid (own_reads orr)
        have HALY := Lib.hid (HALX.out.below br (Nat.le_refl _))
        have HBY : Hid (Below w.heap.size w y2) := Lib.hid (HBX.out.trans (br.mono HBX.out.size))
        have hjn := joined_le vr rs5 y2 HRd.out (fun x hx => by have := HALX.out.small x hx; omega) (by have := HALX.out.cnt; omega)
        rw [HJJ.out] at hjn
        have HJN := Lib.hid hjn
        clear orr br hjn HALX HBX
        go_wp2_with fail
        refine (HJN.out).mono ?_
        rintro e y3 ⟨rfl, rfl⟩
        by_cases hEq : TT ++ JJ = SS2 ++ LL
        · have hE1 : ((TT ++ JJ).toList == (SS2 ++ LL).toList) = true := by rw [str_beqK]; exact decide_eq_true hEq
          have HN : Hid (HoRel7 w p g cap L (.pointer (some ⟨u5, 0, none⟩)) (.string (TT ++ JJ)) (.int .i64 ((k : Int) + 1)) y3) := Lib.hid ⟨k + 1, u5, q5, N5, nx5, T5, TT ++ JJ, v5, rs5, _, rfl, rfl, ret_v (by omega), by omega, by rw [HGL.out]; exact HALY.out.le (by omega) (by omega), HBY.out⟩
          clear HALY HBY HRd HJN hEq
          go_wp2_with fail
          go_roundw
          case rel => exact HN.out
          case measure => simp [intOf]; omega
        · have hE1 : ((TT ++ JJ).toList == (SS2 ++ LL).toList) = false := by rw [str_beqK]; exact decide_eq_false hEq
          have hS2 : TT ++ JJ = SS2 := by
            rcases hS' with h | h
            · exact bst_ext (HGL.out.trans h)
            · exact absurd (bst_ext (by rw [HGL.out, h, app_list])) hEq
          have hE2 : ((TT ++ JJ).toList == SS2.toList) = true := by rw [str_beqK]; exact decide_eq_true hS2
          have hE3 : ((TT ++ JJ).toList != SS2.toList) = false := by unfold bne; rw [hE2]; rfl
          have HN : Hid (HoRel7 w p g cap L (.pointer (some ⟨u5, 0, none⟩)) (.string SS2) (.int .i64 ((k : Int) + 1)) y3) := Lib.hid ⟨k + 1, u5, q5, N5, nx5, T5, SS2, v5, rs5, _, rfl, rfl, ret_v (by omega), by omega, by rw [← hS2, HGL.out]; exact HALY.out.le (by omega) (by omega), HBY.out⟩
          clear HALY HBY HRd HJN hEq hS2
          go_wp2_with fail
          go_roundw
          case rel => exact HN.out
          case measure => simp [intOf]; omega
end Go.Proofs.YtmfchjbpbfkgiaaGreatDoor
