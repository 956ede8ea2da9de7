/- The walk of the law LogFull: whatever the arguments, it returns true. Condition: the sentinels lie as the program's text lays them. -/
import Derived.Test.YtmfchjbpbfkgiaaDoorLgVa
import Derived.Test.YtmfchjbpbfkgiaaDoorLgK
import Derived.Test.YtmfchjbpbfkgiaaDoorKind
import Derived.Test.YtmfchjbpbfkgiaaDoorFrSz
namespace Go.Proofs.YtmfchjbpbfkgiaaDoor
open Go Go.RowKit

theorem mk_bytes (n : Nat) (W : World) (hn : n ≤ 1000000) : (Instr.makeSlice 45 (.int .i64 (n : Int)) (.int .i64 (n : Int))).run Tryd.prog W = .ok (.slice (some ⟨W.heap.size, 0, none⟩) n n) (W.alloc (.cells (madeCells #[.int .u8 0] n) 5)) :=
  run_make_row' _ _ _ 1 Tryd.underlying45 Tryd.infoB rfl .i64 .i64 n (by omega) (by omega) W
theorem cv_bytes (n : Nat) (W : World) : (convert 45 9 (.slice (some ⟨W.heap.size, 0, none⟩) n n)).run Tryd.prog (W.alloc (.cells (madeCells #[.int .u8 0] n) 5)) = .ok (.string (bst (List.replicate n 0))) (W.alloc (.cells (madeCells #[.int .u8 0] n) 5)) := by
  have h := conv_row (W.alloc (.cells (madeCells #[.int .u8 0] n) 5)) W.heap.size 0 n (List.replicate n 0) fun j hj => by
    rw [Nat.zero_add]; exact ((zeros_row W n).2 j hj).1
  rw [List.length_replicate] at h
  exact h

def m_room (m u : Nat) : Int := ((m - u : Nat) : Int)
/-- What a round of the loop begins with. -/
def FuRel (w : World) (q p g cap : Nat) (zs : List Int) (sure i : Value) (wr : World) : Prop :=
  ∃ (j : Nat) (rs : List (List UInt8)) (u v : Value) (d : DS), i = .int .i64 (j : Int) ∧ u = sure ∧ j ≤ 30 ∧ j ≤ zs.length ∧ rs.length ≤ j ∧ wr.ownsRow w.heap.size 9 1 u rs.length (strVs rs) ∧ Live wr w.heap.size q p g cap 1 10 0 v rs (200 + 108 * j) d ∧ Below w.heap.size w wr ∧
    ∀ k, u.ownBlock = some k → ¬ LogS q p g v k

set_option maxHeartbeats 6400000 in
set_option maxRecDepth 100000 in
theorem full_any (s : Nat → Addr) (A : Option Addr) (c : Nat) (zs : List Int) (w : World) (hs : Sent s w) (hA : IntRow w w.heap.size A zs) (_hl : zs.length ≤ 9223372036854775807) :
    Calls Tryd.prog 5 #[.slice A zs.length c] w fun e w' => e = .returned (.bool true) ∧ Below w.heap.size w w' := by
  have HA := Lib.hid hA; clear hA
  go_enter Tryd.func5, Tryd.ntmps5
  go_wp2_with fail
  refine (awake_c s _ hs).mono ?_
  rintro e w1 ⟨rfl, b1⟩
  have B1 := Lib.hid b1; clear b1
  go_wp2_with fail
  refine (fresh_c 12 12 _ rfl (by omega)).mono ?_
  rintro e w2 ⟨p, g, cap, d, rfl, hd, b2, hg⟩
  have hb2 : Below w.heap.size w w2 := B1.out.trans (b2.mono B1.out.size)
  have hop := live_open s w p g cap d 1 10 0 0 [] 1 11 0 w2 hs hb2 hd.at_ (Nat.le_trans B1.out.size hg) rfl rfl rfl (by omega) (by have := hd.n_; omega) (by omega) hd.on hd.fuse (by have := hd.wr; omega) (by omega) (fresh_follows hd (by omega) (by omega))
  have HOP := Lib.hid hop
  clear hop hd b2 hb2
  go_wp2_with fail
  refine (HOP.out).mono ?_
  rintro e w3 ⟨q, v, d3, rfl, hl3, hc3, hq3, hv3, hn3, _, hb3⟩
  have hlt3 := hl3.mem.lt
  have hown : (w3.alloc (.cells #[] 9)).ownsRow w.heap.size 9 1 (.slice (some ⟨w3.heap.size, 0, none⟩) 0 0) 0 [] := World.ownsRow_made w3 #[] 0 hb3.size (by unfold maxLen; omega) rfl
  have b4 : Below w3.heap.size w3 (w3.alloc (.cells #[] 9)) := (Below.refl _ _).alloc (Nat.le_refl _) _
  have HST : Hid (FuRel w q p g cap zs (.slice (some ⟨w3.heap.size, 0, none⟩) 0 0) (.int .i64 0) (w3.alloc (.cells #[] 9))) := Lib.hid
    ⟨0, [], _, v, d3, rfl, rfl, by omega, Nat.zero_le _, Nat.le_refl _, hown, (hl3.below b4 (Nat.le_refl _)).le (by omega), hb3.trans (b4.mono hb3.size), fun k hk hS => by
      have hk' : w3.heap.size = k := Option.some.inj hk
      have := (hl3.mem.lts k hS).2
      omega⟩
  clear hl3 hc3 hv3 hb3 hown b4 HOP
  go_wp2_with fail
  go_loopw [6, 7] (fun sure i wr => FuRel w q p g cap zs sure i wr) (fun _ i _ => 30 - (intOf i).toNat)
  case atStart => exact HST.out
  case round =>
    obtain ⟨j, rs, u, v, d, rfl, rfl, hj, hjz, hrj, hown, hlv, hb, hap⟩ := hrel
    clear HST
    by_cases hgo : j < zs.length ∧ j < 30
    · obtain ⟨hjl, hj30⟩ := hgo
      obtain ⟨z, hz⟩ : ∃ z, zs[j]? = some z := ⟨_, List.getElem?_eq_getElem hjl⟩
      obtain ⟨a, rfl, ca⟩ := HA.out.cell hb hz
      obtain ⟨n, hn, en⟩ := mod_pos z 200 (by omega) (by omega)
      have j0 : (0 : Int) ≤ (j : Int) := by omega
      have j1 : (j : Int) < (zs.length : Int) := by omega
      have j2 : (j : Int) < 30 := by omega
      have en' : wrap64 ((IntKind.u64.wrap z).tmod 200) = (n : Int) := en
      have hmk := mk_bytes n wr (by omega)
      have hcv := cv_bytes n wr
      obtain ⟨T, hT⟩ : ∃ T, bst (List.replicate n 0) = T := ⟨_, rfl⟩
      have hTs : T.size = n := by rw [← hT, bst_size, List.length_replicate]
      have hTl : T.data.toList.length = n := by rw [size_len, hTs]
      obtain ⟨X, hX⟩ : ∃ X, T.data.toList = X := ⟨_, rfl⟩
      rw [hX] at hTl
      rw [hT] at hcv
      have ba : Below wr.heap.size wr (wr.alloc (.cells (madeCells #[.int .u8 0] n) 5)) := (Below.refl _ _).alloc (Nat.le_refl _) _
      obtain ⟨W2, hW2⟩ : ∃ W2, wr.alloc (.cells (madeCells #[.int .u8 0] n) 5) = W2 := ⟨_, rfl⟩
      rw [hW2] at hcv hmk ba
      have hlv2 := hlv.below ba (Nat.le_refl _)
      have hown2 : W2.ownsRow w.heap.size 9 1 u rs.length (strVs rs) := own_same hown fun k hk => ba.block k (hown.lt k hk).2
      have hb2 : Below w.heap.size w W2 := hb.trans (ba.mono hb.size)
      have HLV := Lib.hid hlv2; have HO := Lib.hid hown2; have HB := Lib.hid hb2; have HAP := Lib.hid hap; have HX := Lib.hid hX
      obtain ⟨U, hU⟩ : ∃ U, (layR 0 rs).length = U := ⟨_, rfl⟩
      have hUm : U ≤ 10 := by rw [← hU]; exact hlv.mem.room
      have HU := Lib.hid hU
      obtain ⟨N, hN⟩ : ∃ N, nblk n = N := ⟨_, rfl⟩
      have hNv : N = (n + 8 + 55) / 56 := by rw [← hN]; unfold nblk; rfl
      clear hlv hown hb hap ba hlv2 hown2 hb2 hT hX hW2 hU
      go_wp2_with fail
      have hr3 := room_c _ q p g cap d 1 10 0 v rs false _ HLV.out.mem
      rw [HU.out] at hr3
      refine hr3.mono ?_
      rintro e w4 ⟨rfl, h4⟩
      have HLV4 := Lib.hid (HLV.out.same h4)
      have HO4 : Hid (w4.ownsRow w.heap.size 9 1 u rs.length (strVs rs)) := Lib.hid (own_same HO.out fun k _ => h4.block k)
      have HB4 : Hid (Below w.heap.size w w4) := Lib.hid (HB.out.trans (h4.below _))
      clear h4 hr3 HLV HO HB
      go_wp2_with fail
      refine (image_c p g cap d _ HLV4.out.mem.disk).mono ?_
      rintro e w5 ⟨rfl, rfl⟩
      have hquo : ((n : Int) + 8 + 55).tdiv 56 = (N : Int) := by rw [Int.tdiv_eq_ediv_of_nonneg (by omega)]; omega
      obtain ⟨IM, hIM⟩ : ∃ IM, strB d.bs = IM := ⟨_, rfl⟩
      rw [hIM]
      have HIM := Lib.hid hIM; clear hIM
      by_cases hfull : 10 - U < N
      · have hfc := add_full s w.heap.size q p g cap d 1 10 0 v rs false T w4 (hs.below HB4.out (Nat.le_refl _)) HLV4.out.mem (by omega) (.inl (by rw [HU.out, hTs, hN]; exact hfull))
        have HFC := Lib.hid hfc; clear hfc
        go_wp2_with fail
        refine (HFC.out).mono ?_
        rintro e w6 ⟨rfl, b6⟩
        have HLV6 := Lib.hid (HLV4.out.below b6 (Nat.le_refl _))
        have HO6 : Hid (w6.ownsRow w.heap.size 9 1 u rs.length (strVs rs)) := Lib.hid (own_same HO4.out fun k hk => b6.block k (HO4.out.lt k hk).2)
        have HB6 : Hid (Below w.heap.size w w6) := Lib.hid (HB4.out.trans (b6.mono HB4.out.size))
        have hlt : ((10 - U : Nat) : Int) < (N : Int) := by omega
        clear b6 HLV4 HO4 HB4 HFC
        go_wp2_with fail
        refine (kind_errV s 7 _ (hs.below HB6.out (Nat.le_refl _)) (by omega)).mono ?_
        rintro e w7 ⟨rfl, b7⟩
        have HLV7 := Lib.hid (HLV6.out.below b7 (Nat.le_refl _))
        have HO7 : Hid (w7.ownsRow w.heap.size 9 1 u rs.length (strVs rs)) := Lib.hid (own_same HO6.out fun k hk => b7.block k (HO6.out.lt k hk).2)
        have HB7 : Hid (Below w.heap.size w w7) := Lib.hid (HB6.out.trans (b7.mono HB6.out.size))
        clear b7 HLV6 HO6 HB6 hN hNv
        go_wp2_with fail
        have hr8 := room_c _ q p g cap d 1 10 0 v rs false _ HLV7.out.mem
        rw [HU.out] at hr8
        refine hr8.mono ?_
        rintro e w8 ⟨rfl, h8⟩
        have HLV8 := Lib.hid (HLV7.out.same h8)
        have HO8 : Hid (w8.ownsRow w.heap.size 9 1 u rs.length (strVs rs)) := Lib.hid (own_same HO7.out fun k _ => h8.block k)
        have HB8 : Hid (Below w.heap.size w w8) := Lib.hid (HB7.out.trans (h8.below _))
        clear h8 hr8 HLV7 HO7 HB7
        go_wp2_with fail
        refine (image_c p g cap d _ HLV8.out.mem.disk).mono ?_
        rintro e w9 ⟨rfl, rfl⟩
        rw [HIM.out]
        have HN : Hid (FuRel w q p g cap zs u (.int .i64 ((j : Int) + 1)) w8) := Lib.hid ⟨j + 1, rs, u, v, d, ret_v (by omega), rfl, by omega, by omega, by omega, HO8.out, HLV8.out.le (by omega), HB8.out, HAP.out⟩
        clear HLV8 HO8 HB8
        go_wp2_with fail
        go_roundw
        case rel => exact HN.out
        case measure => simp [intOf]; omega
      · have hac := live_add s w q p g cap 1 10 0 (200 + 108 * j) v rs d T w4 hs HB4.out HLV4.out (by omega) (by rw [HU.out, hTs, hN]; omega) (by omega) (by omega)
        have HAC := Lib.hid hac; clear hac
        have HO4' := HO4
        clear HLV4 HB4
        go_wp2_with fail
        refine (HAC.out).mono ?_
        rintro e w6 ⟨rfl, v6, d6, hlv6, hc6, hv6, _, _, hb6⟩
        rw [HX.out] at hlv6
        have hown6 : w6.ownsRow w.heap.size 9 1 u rs.length (strVs rs) := hc6.own HO4.out HAP.out
        have hroom6 : m_room 10 (layR 0 (rs ++ [X])).length = ((10 - U : Nat) : Int) - (N : Int) := by
          unfold m_room; rw [layR_one, HU.out, hTl, hN]; omega
        have HRM := Lib.hid hroom6
        have hap6 : ∀ k, u.ownBlock = some k → ¬ LogS q p g v6 k := fun k hk hS => by
          rcases hS with h | h | h | h
          · exact HAP.out k hk (.inl h)
          · exact HAP.out k hk (.inr (.inl h))
          · exact HAP.out k hk (.inr (.inr (.inl h)))
          · rcases hv6 k h with h1 | h1
            · exact HAP.out k hk (.inr (.inr (.inr h1)))
            · have := (HO4.out.lt k hk).2; omega
        have HLV6 := Lib.hid hlv6; have HO6 := Lib.hid hown6; have HB6 := Lib.hid hb6; have HAP6 := Lib.hid hap6
        have hnl : ¬ ((10 - U : Nat) : Int) < (N : Int) := by omega
        have hsz : ((n : Int) + 8 + 55) / 56 = (N : Int) := by omega
        clear hlv6 hc6 hv6 hb6 hown6 hap6 HO4 HO4' HAC hroom6 hNv hN hquo
        go_wp2_with fail
        have hr7 := room_c _ q p g cap d6 1 10 0 v6 _ false _ HLV6.out.mem
        refine hr7.mono ?_
        rintro e w7 ⟨he, h7⟩
        have he2 : e = .returned (.int .i64 (((10 - U : Nat) : Int) - (N : Int))) := by rw [he]; exact ret_i HRM.out
        subst he2
        have HLV7 := Lib.hid (HLV6.out.same h7)
        have HO7 : Hid (∀ o : Obj, (w7.alloc o).ownsRow w.heap.size 9 1 u rs.length (strVs rs)) := Lib.hid fun o => (own_same HO6.out fun k _ => h7.block k).alloc o
        have HB7 : Hid (Below w.heap.size w w7) := Lib.hid (HB6.out.trans (h7.below _))
        have hsz7 := HB7.out.size
        obtain ⟨ti, hti, hz0, hz1, hz2⟩ := Tryd.infoSt
        clear h7 hr7 he HLV6 HO6 HB6 hz
        go_wp2_with (at_builtin; refine wpList_append_own_at _ rfl _ _ 32 rfl w.heap.size 9 ti _ 1 16 Tryd.underlying32 hti hz0 hz1 hz2 rfl (by decide) _ rs.length (strVs rs) rfl (HO7.out _) ⟨_, 0, none⟩ 1 1 [.string T] rfl rfl ?c1 ?c2 ?c3 ?c4 ?c5 ?_)
        case c1 => exact cell_one_new _ _ _
        case c2 => first | rfl | (intro u hu; simp at hu; subst hu; rfl)
        case c3 => unfold maxLen; omega
        case c4 => omega
        case c5 => first | omega | (rw [World.size_alloc]; omega)
        intro u' w8 o8 g8 _ hat
        have HN : Hid (FuRel w q p g cap zs u' (.int .i64 ((j : Int) + 1)) w8) := Lib.hid (by
          have hu' := (HO7.out (.cells #[.string T] 9)).lt
          have hc8 : ChgS (fun k => u.ownBlock = some k) w7 w8 := ((ChgS.refl _ w7).alloc _).grown g8 fun k hk => .inl hk
          have hT : Value.string T = .string (bst X) := by rw [← HX.out, ← bst_of]
          refine ⟨j + 1, rs ++ [X], u', v6, d6, ret_v (by omega), rfl, by omega, by omega, by simp; omega, ?_, (HLV7.out.kept hc8 fun k hk hs => HAP6.out k hs hk).le (by omega), HB7.out.trans (hc8.below (fun k hk => (hu' k hk).1) hsz7), fun k hk hS => ?_⟩
          · rw [hT] at o8
            rw [List.length_append, List.length_singleton]
            unfold strVs at o8 ⊢
            rw [List.map_append]
            exact o8
          · rcases hat with h | h
            · exact HAP6.out k (by rw [← h]; exact hk) hS
            · rw [h] at hk
              have h1 := Option.some.inj hk
              have h2 := (HLV7.out.mem.lts k hS).2
              (try simp only [World.size_alloc] at h1)
              omega)
        clear o8 g8 hat HO7 HLV7 HB7
        go_wp2_with fail
        go_roundw
        case rel => exact HN.out
        case measure => simp [intOf]; omega
    · have hop := live_open s w p g cap d 1 10 0 (200 + 108 * j) rs 1 11 0 wr hs hb hlv.mem.disk hlv.mem.lo rfl rfl rfl (by omega) hlv.mem.fits (by omega) hlv.on hlv.fuse hlv.wr (by omega) hlv.at_.follows
      have HOP := Lib.hid hop; have HLV := Lib.hid hlv; have HO := Lib.hid hown; have HAP := Lib.hid hap; have HB := Lib.hid hb
      obtain ⟨U, hU⟩ : ∃ U, (layR 0 rs).length = U := ⟨_, rfl⟩
      have HU := Lib.hid hU
      have hlt := hlv.mem.lt
      obtain ⟨A', c', rfl⟩ := own_form hown
      clear hop hlv hown hap hb hU
      by_cases hjl : j < zs.length
      · have j1 : (j : Int) < (zs.length : Int) := by omega
        have j2 : ¬ (j : Int) < 30 := by omega
        go_wp2_with fail
        refine (HOP.out).mono ?_
        rintro e w4 ⟨q4, v4, d4, rfl, hl4, hc4, hq4, hv4, hn4, _, hb4⟩
        have hm4 := HLV.out.mem.other hc4 (by rintro (h | h) <;> omega) (fun k hk hS => by obtain ⟨h1, h2, h3⟩ := HLV.out.mem.apart k hk; rcases hS with h | h <;> contradiction) hl4.mem.disk hn4
        have ho4 : w4.ownsRow w.heap.size 9 1 (.slice A' rs.length c') rs.length (strVs rs) := hc4.own HO.out fun k hk hS => HAP.out k hk (by
          rcases hS with h | h
          · exact .inr (.inl h)
          · exact .inr (.inr (.inl h)))
        have HL4 := Lib.hid hl4; have HM4 := Lib.hid hm4; have HB4 := Lib.hid hb4; have HO4 := Lib.hid ho4
        clear hl4 hc4 hv4 hb4 hm4 ho4 HOP
        go_wp2_with fail
        refine (records_c w.heap.size q4 p g cap d4 1 10 0 v4 rs false _ HL4.out.mem).mono ?_
        rintro e w5 ⟨⟨v5, rfl, o5⟩, b5⟩
        have HL5 := Lib.hid (HL4.out.below b5 (Nat.le_refl _))
        have HM5 := Lib.hid (HM4.out.below b5 (Nat.le_refl _))
        have HB5 : Hid (Below w.heap.size w w5) := Lib.hid (HB4.out.trans (b5.mono HB4.out.size))
        have HR5 := Lib.hid (own_reads o5)
        have HU5 := Lib.hid (own_reads (own_same HO4.out fun k hk => b5.block k (HO4.out.lt k hk).2))
        clear o5 b5 HL4 HM4 HB4 HO4
        go_wp2_with fail
        refine (same_c _ _ _ _ _ HR5.out HU5.out (by omega) (by omega)).mono ?_
        rintro e w6 ⟨he, h6⟩
        rw [decide_eq_true rfl] at he
        subst he
        have HL6 := Lib.hid (HL5.out.same h6)
        have HM6 := Lib.hid (HM5.out.same h6)
        have HB6 : Hid (Below w.heap.size w w6) := Lib.hid (HB5.out.trans (h6.below _))
        clear h6 HL5 HM5 HB5 HR5 HU5
        go_wp2_with fail
        have hr8 := room_c _ q4 p g cap d4 1 10 0 v4 rs false _ HL6.out.mem
        rw [HU.out] at hr8
        refine hr8.mono ?_
        rintro e w8 ⟨rfl, h8⟩
        have HL8 := Lib.hid (HL6.out.same h8)
        have HM8 := Lib.hid (HM6.out.same h8)
        have HB8 : Hid (Below w.heap.size w w8) := Lib.hid (HB6.out.trans (h8.below _))
        clear h8 hr8 HL6 HM6 HB6
        go_wp2_with fail
        have hr9 := room_c _ q p g cap d4 1 10 0 v rs false _ HM8.out
        rw [HU.out] at hr9
        refine hr9.mono ?_
        rintro e w9 ⟨rfl, h9⟩
        have HL9 := Lib.hid (HL8.out.same h9)
        have HB9 : Hid (Below w.heap.size w w9) := Lib.hid (HB8.out.trans (h9.below _))
        clear h9 hr9 HM8 HL8 HB8
        go_wp2_with fail
        refine (next_c _ q4 p g cap d4 1 10 0 v4 rs false _ HL9.out.mem).mono ?_
        rintro e w7 ⟨he, h7⟩
        obtain ⟨NX, he2, hnx⟩ : ∃ NX : Int, e = .returned (.int .i64 NX) ∧ NX = (rs.length : Int) + 1 := ⟨_, he, by omega⟩
        subst he2
        subst hnx
        clear he
        have HB7 : Hid (Below w.heap.size w w7) := Lib.hid (HB9.out.trans (h7.below _))
        clear h7 HL9 HB9
        go_wp2_with fail
        go_ret
        exact ⟨rfl, HB7.out⟩
      · have j1 : ¬ (j : Int) < (zs.length : Int) := by omega
        go_wp2_with fail
        refine (HOP.out).mono ?_
        rintro e w4 ⟨q4, v4, d4, rfl, hl4, hc4, hq4, hv4, hn4, _, hb4⟩
        have hm4 := HLV.out.mem.other hc4 (by rintro (h | h) <;> omega) (fun k hk hS => by obtain ⟨h1, h2, h3⟩ := HLV.out.mem.apart k hk; rcases hS with h | h <;> contradiction) hl4.mem.disk hn4
        have ho4 : w4.ownsRow w.heap.size 9 1 (.slice A' rs.length c') rs.length (strVs rs) := hc4.own HO.out fun k hk hS => HAP.out k hk (by
          rcases hS with h | h
          · exact .inr (.inl h)
          · exact .inr (.inr (.inl h)))
        have HL4 := Lib.hid hl4; have HM4 := Lib.hid hm4; have HB4 := Lib.hid hb4; have HO4 := Lib.hid ho4
        clear hl4 hc4 hv4 hb4 hm4 ho4 HOP
        go_wp2_with fail
        refine (records_c w.heap.size q4 p g cap d4 1 10 0 v4 rs false _ HL4.out.mem).mono ?_
        rintro e w5 ⟨⟨v5, rfl, o5⟩, b5⟩
        have HL5 := Lib.hid (HL4.out.below b5 (Nat.le_refl _))
        have HM5 := Lib.hid (HM4.out.below b5 (Nat.le_refl _))
        have HB5 : Hid (Below w.heap.size w w5) := Lib.hid (HB4.out.trans (b5.mono HB4.out.size))
        have HR5 := Lib.hid (own_reads o5)
        have HU5 := Lib.hid (own_reads (own_same HO4.out fun k hk => b5.block k (HO4.out.lt k hk).2))
        clear o5 b5 HL4 HM4 HB4 HO4
        go_wp2_with fail
        refine (same_c _ _ _ _ _ HR5.out HU5.out (by omega) (by omega)).mono ?_
        rintro e w6 ⟨he, h6⟩
        rw [decide_eq_true rfl] at he
        subst he
        have HL6 := Lib.hid (HL5.out.same h6)
        have HM6 := Lib.hid (HM5.out.same h6)
        have HB6 : Hid (Below w.heap.size w w6) := Lib.hid (HB5.out.trans (h6.below _))
        clear h6 HL5 HM5 HB5 HR5 HU5
        go_wp2_with fail
        have hr8 := room_c _ q4 p g cap d4 1 10 0 v4 rs false _ HL6.out.mem
        rw [HU.out] at hr8
        refine hr8.mono ?_
        rintro e w8 ⟨rfl, h8⟩
        have HL8 := Lib.hid (HL6.out.same h8)
        have HM8 := Lib.hid (HM6.out.same h8)
        have HB8 : Hid (Below w.heap.size w w8) := Lib.hid (HB6.out.trans (h8.below _))
        clear h8 hr8 HL6 HM6 HB6
        go_wp2_with fail
        have hr9 := room_c _ q p g cap d4 1 10 0 v rs false _ HM8.out
        rw [HU.out] at hr9
        refine hr9.mono ?_
        rintro e w9 ⟨rfl, h9⟩
        have HL9 := Lib.hid (HL8.out.same h9)
        have HB9 : Hid (Below w.heap.size w w9) := Lib.hid (HB8.out.trans (h9.below _))
        clear h9 hr9 HM8 HL8 HB8
        go_wp2_with fail
        refine (next_c _ q4 p g cap d4 1 10 0 v4 rs false _ HL9.out.mem).mono ?_
        rintro e w7 ⟨he, h7⟩
        obtain ⟨NX, he2, hnx⟩ : ∃ NX : Int, e = .returned (.int .i64 NX) ∧ NX = (rs.length : Int) + 1 := ⟨_, he, by omega⟩
        subst he2
        subst hnx
        clear he
        have HB7 : Hid (Below w.heap.size w w7) := Lib.hid (HB9.out.trans (h7.below _))
        clear h7 HL9 HB9
        go_wp2_with fail
        go_ret
        exact ⟨rfl, HB7.out⟩
end Go.Proofs.YtmfchjbpbfkgiaaDoor
