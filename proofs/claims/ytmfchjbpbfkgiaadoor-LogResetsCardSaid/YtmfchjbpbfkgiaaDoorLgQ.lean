/- The walk of the law LogResets: whatever the arguments, it returns true. Condition: the sentinels lie as the program's text lays them. -/
import Derived.Test.YtmfchjbpbfkgiaaDoorLgF
namespace Go.Proofs.YtmfchjbpbfkgiaaDoor
open Go Go.RowKit

theorem dirty_zero {d : DS} : ∀ m a, (∀ i, i < m → d.blk (a + i) = zeroF) → d.dirty a m = 0
  | 0, _, _ => rfl
  | m + 1, a, h => by
    have h0 := h 0 (by omega)
    rw [Nat.add_zero] at h0
    rw [DS.dirty, if_pos h0, dirty_zero m (a + 1) fun i hi => by
      have := h (i + 1) (by omega)
      rwa [show a + (i + 1) = a + 1 + i by omega] at this]
theorem empty_follows {d : DS} {a m b c : Nat} (h : LogAt d a m b []) (hc : c ≤ 2147483647) : Follows (rowsD d a m) c [] := by
  have hr := h.rows
  simp only [layR, List.length_nil, Nat.sub_zero, List.nil_append] at hr
  rw [hr]
  have := follows_zeros (b := c) (m := m) (rs := []) (by simp) (by simpa using hc)
  simpa [layR] using this
theorem empty_wipe {d : DS} {a m b : Nat} (h : LogAt d a m b []) (ho : d.on = true) (hf : d.fuse < 0 ∨ 0 ≤ d.fuse) : ∃ e, d.wipe a m = (0, e) := by
  have hz : d.dirty a m = 0 := dirty_zero m a fun i hi => h.up (by simp [layR]) hi
  obtain ⟨e, he, _⟩ := wipe_ok m d a h.fits ho (by rw [hz]; omega)
  exact ⟨e, he⟩
theorem rows_snoc (zs : List ByteArray) (j : Nat) (z : ByteArray) (h : zs[j]? = some z) : rows (zs.take (j + 1)) = rows (zs.take j) ++ [z.data.toList] := by
  rw [List.take_add_one, h]; simp [rows]
theorem layR_small {b : Nat} : ∀ {rs : List (List UInt8)}, (∀ x ∈ rs, x.length ≤ 200) → (layR b rs).length ≤ 4 * rs.length
  | [], _ => by simp [layR]
  | x :: r, h => by
    have h1 := layR_small (b := b + 1) (rs := r) fun y hy => h y (by simp [hy])
    have h2 := h x (by simp)
    rw [layR, List.length_append, framesF_len, List.length_cons]
    have : nblk x.length ≤ 4 := by unfold nblk; omega
    omega

/-- What a round of the loop begins with. -/
def QuRel (w : World) (q p g cap : Nat) (zs : List ByteArray) (i : Value) (wr : World) : Prop :=
  ∃ (j : Nat) (v : Value) (d : DS), i = .int .i64 (j : Int) ∧ j ≤ zs.length ∧ (∀ x ∈ rows (zs.take j), x.length ≤ 200) ∧ Live wr w.heap.size q p g cap 0 60 3 v (rows (zs.take j)) (100 + 108 * j) d ∧ Below w.heap.size w wr
theorem QuRel.drew {w wr : World} {q p g cap : Nat} {zs : List ByteArray} {i : Value} (h : QuRel w q p g cap zs i wr) : QuRel w q p g cap zs i wr.drew := by
  obtain ⟨j, v, d, h1, h2, h3, h4, h5⟩ := h
  exact ⟨j, v, d, h1, h2, h3, h4.same ⟨rfl, rfl, rfl, rfl, fun _ => rfl⟩, h5.drew⟩

set_option maxHeartbeats 6400000 in
set_option maxRecDepth 100000 in
theorem resets_any (s : Nat → Addr) (A : Option Addr) (c : Nat) (zs : List ByteArray) (fz tz : Int) (w : World) (hs : Sent s w) (hA : SRow w w.heap.size A zs) (_hl : zs.length ≤ 9223372036854775807) (hcz : zs.length ≤ c) :
    Calls Tryd.prog 4 #[.slice A zs.length c, .int .i64 fz, .int .i64 tz] w fun e w' => e = .returned (.bool true) ∧ Below w.heap.size w w' := by
  have HA := Lib.hid hA
  clear hA
  by_cases h8 : 8 < zs.length
  · have h8i : (8 : Int) < (zs.length : Int) := by omega
    go_enter Tryd.func4, Tryd.ntmps4
    go_wp2_with fail
    refine (awake_c s _ hs).mono ?_
    rintro e w1 ⟨rfl, b1⟩
    go_wp2_with fail
    go_ret
    exact ⟨rfl, b1⟩
  have h8i : ¬ (8 : Int) < (zs.length : Int) := by omega
  go_enter Tryd.func4, Tryd.ntmps4
  go_wp2_with fail
  refine (awake_c s _ hs).mono ?_
  rintro e w1 ⟨rfl, b1⟩
  have B1 := Lib.hid b1; clear b1
  go_wp2_with fail
  refine (fresh_c 60 60 _ rfl (by omega)).mono ?_
  rintro e w2 ⟨p, g, cap, d, rfl, hd, b2, hg⟩
  have hb2 : Below w.heap.size w w2 := B1.out.trans (b2.mono B1.out.size)
  have hop := live_open s w p g cap d 0 60 3 0 [] 0 60 3 w2 hs hb2 hd.at_ (Nat.le_trans B1.out.size hg) rfl rfl rfl (by omega) (by have := hd.n_; omega) (by omega) hd.on hd.fuse (by have := hd.wr; omega) (by omega) (fresh_follows hd (by omega) (by omega))
  have HOP := Lib.hid hop
  clear hop hd b2 hb2
  go_wp2_with fail
  refine (HOP.out).mono ?_
  rintro e w3 ⟨q, v, d3, rfl, hl3, hc3, hq3, hv3, hn3, _, hb3⟩
  have hlt3 := hl3.mem.lt
  have HST : Hid (QuRel w q p g cap zs (.int .i64 0) w3) := Lib.hid ⟨0, v, d3, rfl, Nat.zero_le _, by simp [rows], by simpa [rows] using hl3.le (by omega), hb3⟩
  clear hl3 hc3 hv3 hb3 HOP
  go_wp2_with fail
  go_loopw [10] (fun i wr => QuRel w q p g cap zs i wr) (fun i _ => zs.length - (intOf i).toNat)
  case atStart => exact HST.out
  case round =>
    obtain ⟨j, v, d, rfl, hj, hsm, hlv, hb⟩ := hrel
    clear HST
    by_cases hjl : j < zs.length
    · obtain ⟨z, hz⟩ : ∃ z, zs[j]? = some z := ⟨_, List.getElem?_eq_getElem hjl⟩
      obtain ⟨a, rfl, hab, ca⟩ := (HA.out.below hb (Nat.le_refl _)).cell hz
      have j0 : (0 : Int) ≤ (j : Int) := by omega
      have j1 : (j : Int) < (zs.length : Int) := by omega
      by_cases hbig : 200 < z.size
      · have hbi : (200 : Int) < (z.size : Int) := by omega
        have HB := Lib.hid hb
        clear hlv hb hsm
        go_wp2_with fail
        go_ret
        exact ⟨rfl, HB.out⟩
      · have hbi : ¬ (200 : Int) < (z.size : Int) := by omega
        have hlen : (layR 3 (rows (zs.take j))).length ≤ 4 * j := by
          have := layR_small (b := 3) hsm
          rw [rows_len, List.length_take] at this; omega
        have hrl : (rows (zs.take j)).length ≤ j := by rw [rows_len, List.length_take]; omega
        have hac := live_add s w q p g cap 0 60 3 (100 + 108 * j) v _ d z wr hs hb hlv (by omega) (by unfold nblk; omega) (by omega) (by omega)
        rw [← rows_snoc zs j z hz] at hac
        have hsm' : ∀ x ∈ rows (zs.take (j + 1)), x.length ≤ 200 := fun x hx => by
          rw [rows_snoc zs j z hz] at hx
          rcases List.mem_append.1 hx with h | h
          · exact hsm x h
          · rw [List.mem_singleton.1 h, size_len]; omega
        have HAC := Lib.hid hac; have HSM := Lib.hid hsm'
        clear hac hlv hb hsm hsm' hz
        go_wp2_with fail
        refine (HAC.out).mono ?_
        rintro e w6 ⟨rfl, v6, d6, hlv6, hc6, hv6, _, _, hb6⟩
        have HN : Hid (QuRel w q p g cap zs (.int .i64 ((j : Int) + 1)) w6) := Lib.hid ⟨j + 1, v6, d6, ret_v (by omega), by omega, HSM.out, hlv6.le (by omega), hb6⟩
        clear hlv6 hc6 hv6 hb6 HAC
        go_wp2_with fail
        go_roundw
        case rel => exact HN.out
        case measure => simp [intOf]; omega
    · obtain rfl : j = zs.length := by omega
      rw [List.take_of_length_le (Nat.le_refl _)] at hsm hlv
      obtain ⟨F, hF, eF⟩ := mod_pos fz 40 (by omega) (by omega)
      obtain ⟨T, hT, eT⟩ := mod_pos tz 65 (by omega) (by omega)
      have eF' : wrap64 ((IntKind.u64.wrap fz).tmod 40) = (F : Int) := eF
      have eT' : wrap64 ((IntKind.u64.wrap tz).tmod 65) = (T : Int) := eT
      have hge : ¬ ((zs.length : Int) < (zs.length : Int)) := by omega
      obtain ⟨D, hD⟩ : ∃ D, d.setFuse (F : Int) (T : Int) = D := ⟨_, rfl⟩
      have hD1 : D.bs = d.bs ∧ D.on = true ∧ D.fuse = (F : Int) ∧ D.torn = T ∧ D.wr = d.wr := by
        rw [← hD]; unfold DS.setFuse; rw [if_pos hlv.on]
        exact ⟨rfl, hlv.on, rfl, by show clampI (T : Int) 64 = T; unfold clampI; omega, rfl⟩
      obtain ⟨hDb, hDo, hDf, hDt, hDw⟩ := hD1
      have hDn : D.n = d.n := by unfold DS.n; rw [hDb]
      have hatD : LogAt D 0 60 3 (rows zs) := hlv.at_.same hDn fun i _ => by unfold DS.blk; rw [hDb]
      have hfu := fuse_c p g cap d (F : Int) (T : Int) wr hlv.mem.disk (by omega) (by omega) (by omega) (by omega)
      rw [hD] at hfu
      have hwr := hlv.wr
      have hrl : (rows zs).length = zs.length := rows_len zs
      have HFU := Lib.hid hfu; have HLV := Lib.hid hlv; have HB := Lib.hid hb; have HATD := Lib.hid hatD; have HSM := Lib.hid hsm
      have HDB := Lib.hid hDb; have HDF := Lib.hid hDf; have HDT := Lib.hid hDt; have HDW := Lib.hid hDw
      clear hfu hlv hb hatD hsm hD hDb hDf hDt hDw eF eT
      go_wp2_with fail
      refine (writes_c p g cap d _ HLV.out.mem.disk).mono ?_
      rintro e w4 ⟨rfl, rfl⟩
      go_wp2_with fail
      refine (HFU.out).mono ?_
      rintro e w5 ⟨rfl, hd5, hc5⟩
      have hcs5 : ChgS (fun k => k = p ∨ k = g) wr w5 := ChgS.of_chg hc5 (.inl rfl) (.inr rfl)
      have hlt := HLV.out.mem.lt
      have hm5 := HLV.out.mem.other hcs5 (by rintro (h | h) <;> omega) (fun k hk hS => by obtain ⟨h1, h2, h3⟩ := HLV.out.mem.apart k hk; rcases hS with h | h <;> contradiction) hd5 hDn
      have hb5 : Below w.heap.size w w5 := HB.out.trans (hcs5.below (fun k hk => by omega) HB.out.size)
      have hre := reset_c s w q p g cap D 0 60 3 v (rows zs) 50 50 w5 hs hb5 hm5 rfl (by omega) hDo (by have := HDW.out; omega)
      have HRE := Lib.hid hre; have HB5 := Lib.hid hb5
      clear hre hb5 hm5 hcs5 hc5 hd5 HFU HLV HB
      by_cases hdirty : D.dirty 0 60 ≤ F
      · obtain ⟨E, hE, hatE, hlikeE, honE, hfuE, hwrE, _⟩ := reset_ok HATD.out (c := 50) (by omega) hDo (.inr (by rw [HDF.out]; omega))
        have hE0 := empty_wipe hatE honE (by omega)
        obtain ⟨E2, hE2⟩ := hE0
        have hfol := empty_follows (c := 3) hatE (by omega)
        rw [hE] at HRE
        have HE2 := Lib.hid hE2; have HFOL := Lib.hid hfol; have HWE := Lib.hid hwrE
        have hEn : E.n = D.n := hlikeE.n
        clear hE hatE hlikeE hfuE hE2 hfol hwrE
        go_wp2_with fail
        refine (HRE.out).mono ?_
        rintro e w6 (⟨_, rfl, hm6, hc6⟩ | ⟨h6, _⟩)
        case inr => cases h6
        have hb6 : Below w.heap.size w w6 := HB5.out.trans (hc6.below hm6.lo3 HB5.out.size)
        have hf6 := hm6.fits
        have hop := open_c s w p g cap E 0 60 3 [] 0 60 3 w6 hs hb6 hm6.disk hm6.lo rfl rfl rfl (by omega) hf6 (by omega) honE (by have := HWE.out; have := HDW.out; omega) HFOL.out (by simpa [layR] using congrArg Prod.fst HE2.out)
        have HOP := Lib.hid hop; have HM6 := Lib.hid hm6; have HB6 := Lib.hid hb6
        clear hop hm6 hc6 hb6 HRE hf6
        go_wp2_with fail
        refine (writes_c p g cap E _ HM6.out.disk).mono ?_
        rintro e w7 ⟨rfl, rfl⟩
        go_wp2_with fail
        refine (ison_c p g cap E _ HM6.out.disk).mono ?_
        rintro e w7 ⟨rfl, rfl⟩
        rw [honE]
        go_wp2_with fail
        refine (HOP.out).mono ?_
        rintro e w8 ⟨q8, v8, rfl, hm8, hc8, _, _⟩
        have hb8 : Below w.heap.size w w8 := (HB6.out).trans (hc8.below (fun k hk => by omega) HB6.out.size)
        have HM8 := Lib.hid hm8; have HB8 := Lib.hid hb8
        clear hm8 hc8 hb8 HOP HM6 HB6
        go_wp2_with fail
        refine (records_c w.heap.size q8 p g cap _ 0 60 3 v8 [] false _ HM8.out).mono ?_
        rintro e w9 ⟨⟨v9, rfl, o9⟩, b9⟩
        obtain ⟨A9, c9, rfl⟩ := own_form o9
        have HB9 : Hid (Below w.heap.size w w9) := Lib.hid (HB8.out.trans (b9.mono HB8.out.size))
        clear o9 b9 HM8 HB8
        go_wp2_with fail
        go_ret
        exact ⟨rfl, HB9.out⟩
      · obtain ⟨E, hE, hfo, hlikeE, honE, hwrE, _⟩ := reset_cut HATD.out (by omega) HSM.out hDo (by rw [HDT.out]; omega) HDF.out (by omega)
        rw [hE] at HRE
        have HWE := Lib.hid hwrE
        have hEn : E.n = D.n := hlikeE.n
        have hcome : E.come = { E with on := true, fuse := -1 } := by unfold DS.come; rw [honE]; rfl
        have hrows : rowsD E.come 0 60 = rowsD E 0 60 := by rw [hcome]; rfl
        have hcn : E.come.n = E.n := by rw [hcome]; rfl
        have hcf : E.come.fuse < 0 := by rw [hcome]; show (-1 : Int) < 0; omega
        have hco : E.come.on = true := by rw [hcome]
        have hcw : E.come.wr = E.wr := by rw [hcome]
        have hfo' : Follows (rowsD E.come 0 60) 3 [] ∨ F = 0 ∧ zs ≠ [] ∧ Follows (rowsD E.come 0 60) 3 (rows zs) := by
          rw [hrows]
          rcases hfo with h | ⟨h1, h2⟩
          · exact .inl h
          · by_cases hz0 : zs = []
            · subst hz0; exact .inl h2
            · exact .inr ⟨h1, hz0, h2⟩
        have HFO := Lib.hid hfo'
        clear hE hlikeE hwrE hfo hfo' hcome hrows
        go_wp2_with fail
        refine (HRE.out).mono ?_
        rintro e w6 (⟨h6, _⟩ | ⟨_, rfl, hm6, hc6⟩)
        case inl => cases h6
        simp only [errV_pos]
        have hb6 : Below w.heap.size w w6 := HB5.out.trans (hc6.below hm6.lo3 HB5.out.size)
        have HM6 := Lib.hid hm6; have HB6 := Lib.hid hb6
        clear hm6 hc6 hb6 HRE HB5
        go_wp2_with fail
        refine (writes_c p g cap E _ HM6.out.disk).mono ?_
        rintro e w7 ⟨rfl, rfl⟩
        have hwv : ((E.wr : Nat) : Int) - ((d.wr : Nat) : Int) = (F : Int) := by rw [HWE.out, HDW.out]; omega
        have hwb : (E.wr : Int) ≤ 1000000 := by rw [HWE.out, HDW.out]; omega
        have hwb2 : (d.wr : Int) ≤ 1000000 := by omega
        go_wp2_with fail
        refine (ison_c p g cap E _ HM6.out.disk).mono ?_
        rintro e w7 ⟨rfl, rfl⟩
        rw [honE]
        go_wp2_with fail
        refine (come_c p g cap E _ HM6.out.disk).mono ?_
        rintro e w7 ⟨rfl, hd7, hc7⟩
        have hcs7 : ChgS (fun k => k = p ∨ k = g) w6 w7 := ChgS.of_chg hc7 (.inl rfl) (.inr rfl)
        have hb7 : Below w.heap.size w w7 := HB6.out.trans (hcs7.below (fun k hk => by omega) HB6.out.size)
        have hf6 := HM6.out.fits
        have hlo6 := HM6.out.lo
        have HD7 := Lib.hid hd7; have HB7 := Lib.hid hb7
        clear hd7 hcs7 hc7 hb7 HM6 HB6
        rcases HFO.out with hf0 | ⟨hF0, hz0, hfr⟩
        · have hop := live_open s w p g cap E.come 0 60 3 (d.wr + F) [] 0 60 3 w7 hs HB7.out HD7.out hlo6 rfl rfl rfl (by omega) (by omega) (by omega) hco hcf (by rw [hcw, HWE.out, HDW.out]; omega) (by omega) hf0
          have HOP := Lib.hid hop
          clear hop hf0 HFO HD7
          go_wp2_with fail
          refine (HOP.out).mono ?_
          rintro e w8 ⟨q8, v8, d8, rfl, hl8, _, _, _, _, _, hb8⟩
          have HL8 := Lib.hid hl8; have HB8 := Lib.hid hb8
          clear hl8 hb8 HOP HB7
          go_wp2_with fail
          refine (records_c w.heap.size q8 p g cap _ 0 60 3 v8 [] false _ HL8.out.mem).mono ?_
          rintro e w9 ⟨⟨v9, rfl, o9⟩, b9⟩
          obtain ⟨A9, c9, rfl⟩ := own_form o9
          have HB9 : Hid (Below w.heap.size w w9) := Lib.hid (HB8.out.trans (b9.mono HB8.out.size))
          clear o9 b9 HL8 HB8
          go_wp2_with fail
          refine (kind_errV s 14 _ (hs.below HB9.out (Nat.le_refl _)) (by omega)).mono ?_
          rintro e w10 ⟨rfl, b10⟩
          have HB10 : Hid (Below w.heap.size w w10) := Lib.hid (HB9.out.trans (b10.mono HB9.out.size))
          clear b10 HB9
          go_wp2_with fail
          go_ret
          exact ⟨rfl, HB10.out⟩
        · have hop := live_open s w p g cap E.come 0 60 3 (d.wr + F) (rows zs) 0 60 3 w7 hs HB7.out HD7.out hlo6 rfl rfl rfl (by omega) (by omega) (by omega) hco hcf (by rw [hcw, HWE.out, HDW.out]; omega) (by omega) hfr
          have HOP := Lib.hid hop
          have hzl : ((zs.length : Int) == 0) = false := by rw [beq_eq_false_iff_ne]; intro h; exact hz0 (List.eq_nil_of_length_eq_zero (by omega))
          have hrl' : (rows zs).length ≤ 8 := by rw [rows_len]; omega
          have hw0 : ((F : Int) == 0) = true := by rw [hF0]; rfl
          clear hop hfr HFO HD7 hz0 hF0
          go_wp2_with fail
          refine (HOP.out).mono ?_
          rintro e w8 ⟨q8, v8, d8, rfl, hl8, _, _, _, _, _, hb8⟩
          have HL8 := Lib.hid hl8; have HB8 := Lib.hid hb8
          clear hl8 hb8 HOP HB7
          go_wp2_with fail
          refine (records_c w.heap.size q8 p g cap _ 0 60 3 v8 (rows zs) false _ HL8.out.mem).mono ?_
          rintro e w9 ⟨⟨v9, rfl, o9⟩, b9⟩
          rw [hrl] at o9
          obtain ⟨A9, c9, rfl⟩ := own_form o9
          have HB9 : Hid (Below w.heap.size w w9) := Lib.hid (HB8.out.trans (b9.mono HB8.out.size))
          have HL9 := Lib.hid (HL8.out.below b9 (Nat.le_refl _))
          clear o9 b9 HL8 HB8
          go_wp2_with fail
          refine (kind_errV s 14 _ (hs.below HB9.out (Nat.le_refl _)) (by omega)).mono ?_
          rintro e w10 ⟨rfl, b10⟩
          have HB10 : Hid (Below w.heap.size w w10) := Lib.hid (HB9.out.trans (b10.mono HB9.out.size))
          have HL10 := Lib.hid (HL9.out.below b10 (Nat.le_refl _))
          clear b10 HB9 HL9
          go_wp2_with fail
          refine (records_c w.heap.size q8 p g cap _ 0 60 3 v8 (rows zs) false _ HL10.out.mem).mono ?_
          rintro e w11 ⟨⟨v11, rfl, o11⟩, b11⟩
          have HB11 : Hid (Below w.heap.size w w11) := Lib.hid (HB10.out.trans (b11.mono HB10.out.size))
          have HR := Lib.hid (own_reads o11)
          have HR2 := Lib.hid (Reads.of (HA.out.below HB11.out (Nat.le_refl _)) HB11.out.size hcz)
          clear o11 b11 HB10 HL10
          go_wp2_with fail
          refine (same_c _ _ _ _ _ HR.out HR2.out (by omega) (by omega)).mono ?_
          rintro e w12 ⟨he, h12⟩
          rw [decide_eq_true rfl] at he
          subst he
          have HB12 : Hid (Below w.heap.size w w12) := Lib.hid (HB11.out.trans (h12.below _))
          clear h12 HB11 HR HR2
          go_wp2_with fail
          go_ret
          exact ⟨rfl, HB12.out⟩
end Go.Proofs.YtmfchjbpbfkgiaaDoor
