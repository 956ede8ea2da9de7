/- The walk of the law ShotTurns: whatever the arguments, it returns true. Condition: the sentinels lie as the program's text lays them. -/
import Derived.Test.YtmfchjbpbfkgiabGreatDoorShV
import Derived.Test.YtmfchjbpbfkgiabGreatDoorFrSz
namespace Go.Proofs.YtmfchjbpbfkgiabGreatDoor
open Go Go.RowKit

/-- What a round of the keeping begins with. -/
def TuRel (w : World) (u q p g cap : Nat) (zs : List ByteArray) (last i : Value) (wr : World) : Prop :=
  ∃ (j nx : Nat) (T : ByteArray) (v : Value) (d : DS), i = .int .i64 (j : Int) ∧ last = .string T ∧ j ≤ zs.length ∧ LiveS wr w.heap.size u q p g cap 4 22 j nx T v [] (22 + 30 * j) d ∧ Below w.heap.size w wr
/-- What a round of the adding begins with. -/
def TwRel (w : World) (u q p g cap N nx : Nat) (T : ByteArray) (n : Nat) (want i : Value) (wr : World) : Prop :=
  ∃ (j : Nat) (uw v : Value) (d : DS), i = .int .i64 (j : Int) ∧ uw = want ∧ j ≤ n ∧ wr.ownsRow w.heap.size 9 1 uw j (strVs (List.replicate j [114])) ∧ LiveS wr w.heap.size u q p g cap 4 22 N nx T v (List.replicate j [114]) (400 + 108 * j) d ∧ Below w.heap.size w wr ∧ ∀ k, uw.ownBlock = some k → ¬ StoS u q p g v k
theorem lay_rep (b : Nat) : ∀ j, (layR b (List.replicate j [114])).length = j
  | 0 => rfl
  | j + 1 => by
    rw [List.replicate_succ, layR, List.length_append, framesF_len, lay_rep (b + 1) j]
    have : nblk ([114] : List UInt8).length = 1 := by decide
    omega
theorem nblk_1 : nblk 1 = 1 := by decide
theorem strVs_snoc1 (F : List (List UInt8)) (x : List UInt8) : strVs (F ++ [x]) = strVs F ++ [.string (bst x)] := by simp [strVs]

set_option maxHeartbeats 6400000 in
set_option maxRecDepth 100000 in
theorem turns_any (s : Nat → Addr) (A : Option Addr) (c : Nat) (zs : List ByteArray) (x : Int) (w : World) (hs : Sent s w) (hA : SRow w w.heap.size A zs) (_hl : zs.length ≤ 9223372036854775807) :
    Calls Tryz.prog 3 #[.slice A zs.length c, .int .i64 x] w fun e w' => e = .returned (.bool true) ∧ Below w.heap.size w w' := by
  have HA := Lib.hid hA
  clear hA
  by_cases h12 : 12 < zs.length
  · have h12i : (12 : Int) < (zs.length : Int) := by omega
    go_enter Tryz.func3, Tryz.ntmps3
    go_wp2_with fail
    refine (awake7_c s _ hs).mono ?_
    rintro e w1 ⟨rfl, b1⟩
    go_wp2_with fail
    go_ret
    exact ⟨rfl, b1⟩
  have h12i : ¬ (12 : Int) < (zs.length : Int) := by omega
  obtain ⟨n, hn5, hn⟩ := mod_pos x 5 (by omega) (by omega)
  have HN : Hid (wrap64 ((IntKind.u64.wrap x).tmod 5) = (n : Int)) := Lib.hid hn
  obtain ⟨RR, hRR⟩ : ∃ T : ByteArray, T = ⟨#[114]⟩ := ⟨_, rfl⟩
  have hRl : RR.data.toList = [114] := by rw [hRR]
  have hRs : RR.size = 1 := by rw [hRR]; rfl
  have HRL := Lib.hid hRl
  clear hn hRl
  go_enter Tryz.func3, Tryz.ntmps3
  go_wp2_with fail
  refine (awake7_c s _ hs).mono ?_
  rintro e w1 ⟨rfl, b1⟩
  have B1 := Lib.hid b1; clear b1
  go_wp2_with fail
  refine (fresh_c 30 30 _ rfl (by omega)).mono ?_
  rintro e w2 ⟨p, g, cap, d, rfl, hd, b2, hg⟩
  have hdn := hd.n_
  have hb2 : Below w.heap.size w w2 := B1.out.trans (b2.mono B1.out.size)
  have hop := lives_open s w p g cap d 4 22 0 0 0 [] [] 4 w2 hs hb2 hd.at_ (Nat.le_trans B1.out.size hg) rfl (by omega) (by omega) (by omega) (by omega) hd.on hd.fuse (fresh_tells hd (by omega) (by omega)) (by omega) (by have := hd.wr; omega) (by omega) (fresh_follows hd (by omega) (by omega))
  have HOP := Lib.hid hop
  clear hop hd b2 hb2
  go_wp2_with fail
  refine (HOP.out).mono ?_
  rintro e w3 ⟨u, q, v, d3, rfl, hl3, hc3, hu3, hv3, hn3, _, hb3⟩
  have HST : Hid (TuRel w u q p g cap zs (.string ⟨#[]⟩) (.int .i64 0) w3) := Lib.hid ⟨0, 0, _, v, d3, rfl, rfl, Nat.zero_le _, hl3, hb3⟩
  clear hl3 hc3 hb3 hv3 HOP
  go_wp2_with fail
  go_loopw [8, 9] (fun last i wr => TuRel w u q p g cap zs last i wr) (fun _ i _ => zs.length - (intOf i).toNat)
  case atStart => exact HST.out
  case round =>
    obtain ⟨j, nx, T, v4, d4, rfl, rfl, hj, hlv, hb⟩ := hrel
    clear HST
    by_cases hjl : j < zs.length
    · obtain ⟨zz, hzz⟩ : ∃ zz, zs[j]? = some zz := ⟨_, List.getElem?_eq_getElem hjl⟩
      have HCZ : Hid (∀ W, Below w.heap.size w W → ∃ aZ, A = some aZ ∧ W.cell? (aZ.add j) = some (.string zz)) := Lib.hid fun W hW => by
        obtain ⟨aZ, e, _, h⟩ := (HA.out.below hW (Nat.le_refl _)).cell hzz
        exact ⟨aZ, e, h⟩
      obtain ⟨aZ, rfl, caZ⟩ := HCZ.out wr hb
      have j0 : (0 : Int) ≤ (j : Int) := by omega
      have j1 : (j : Int) < (zs.length : Int) := by omega
      by_cases hz1 : 100 < zz.size
      · have hz1i : (100 : Int) < (zz.size : Int) := by omega
        have HB := Lib.hid hb
        clear hlv hb
        go_wp2_with fail
        go_ret
        exact ⟨rfl, HB.out⟩
      have hz1i : ¬ (100 : Int) < (zz.size : Int) := by omega
      have hke := lives_keep s w u q p g cap 4 22 j nx (22 + 30 * j) T zz v4 [] d4 wr hs hb hlv (by omega) (by unfold nblk; omega) (by simp only [List.length_nil]; omega) (by omega)
      have HKE := Lib.hid hke
      clear hke hlv hb
      go_wp2_with fail
      refine (HKE.out).mono ?_
      rintro e w5 ⟨rfl, d5, hl5, hc5, hn5', _, _, hb5⟩
      have HL5 : Hid (LiveS w5 w.heap.size u q p g cap 4 22 (j + 1) (4 - nx) zz (.slice none 0 0) [] (22 + 30 * j + 2 * 4 + 22) d5) := Lib.hid hl5
      have HB5 := Lib.hid hb5
      clear hl5 hc5 hb5 HKE
      go_wp2_with fail
      refine (seq_c _ u q p g cap d5 4 22 (j + 1) (4 - nx) zz _ [] false false w5 HL5.out.mem).mono ?_
      rintro e w6 ⟨he, h6⟩
      obtain ⟨Q, he2, hQ⟩ : ∃ Q : Int, e = .returned (.int .i64 Q) ∧ (Q != (j : Int) + 1) = false := ⟨_, he, by rw [bne_eq_false_iff_eq]; simp⟩
      subst he2
      clear he
      have HL6 := Lib.hid (HL5.out.same h6)
      have HB6 : Hid (Below w.heap.size w w6) := Lib.hid (HB5.out.trans (h6.below _))
      obtain ⟨aZ2, e2, caZ2⟩ := HCZ.out w6 HB6.out
      obtain rfl := Option.some.inj e2
      have HNX : Hid (TuRel w u q p g cap zs (.string zz) (.int .i64 ((j : Int) + 1)) w6) := Lib.hid ⟨j + 1, _, zz, _, d5, ret_v (by omega), rfl, by omega, HL6.out.le (by omega), HB6.out⟩
      clear h6 HL5 HB5
      go_wp2_with fail
      go_roundw
      case rel => exact HNX.out
      case measure => simp [intOf]; omega
    · obtain rfl : j = zs.length := by omega
      have hge : ¬ ((zs.length : Int) < (zs.length : Int)) := by omega
      obtain ⟨N, hN⟩ : ∃ N, zs.length = N := ⟨_, rfl⟩
      rw [hN] at hlv h12 h12i hj hge ⊢
      have hk : 22 + 30 * N ≤ 400 := by omega
      have hown : (wr.alloc (.cells #[] 9)).ownsRow w.heap.size 9 1 (.slice (some ⟨wr.heap.size, 0, none⟩) 0 0) 0 [] := World.ownsRow_made wr #[] 0 hb.size (by unfold maxLen; omega) rfl
      have b5 : Below wr.heap.size wr (wr.alloc (.cells #[] 9)) := (Below.refl _ _).alloc (Nat.le_refl _) _
      have HS2 : Hid (TwRel w u q p g cap N nx T n (.slice (some ⟨wr.heap.size, 0, none⟩) 0 0) (.int .i64 0) (wr.alloc (.cells #[] 9))) := Lib.hid ⟨0, _, v4, d4, rfl, rfl, Nat.zero_le _, hown, (hlv.below b5 (Nat.le_refl _)).le (by omega), hb.trans (b5.mono hb.size), fun k hk hS => by
        have hk' : wr.heap.size = k := Option.some.inj hk
        have := (hlv.mem.lts k hS).2
        omega⟩
      have HNL := Lib.hid hN
      clear hlv hb hown b5 hN
      go_wp2_with fail
      rw [HN.out]
      go_loopw [11, 12] (fun want i w5 => TwRel w u q p g cap N nx T n want i w5) (fun _ i _ => n - (intOf i).toNat)
      case atStart => exact HS2.out
      case round =>
        obtain ⟨j, uw, v6, d6, rfl, rfl, hj6, hown, hlv, hb, hap⟩ := hrel
        clear HS2
        by_cases hjn : j < n
        · have jn1 : (j : Int) < (n : Int) := by omega
          have had := lives_add s w u q p g cap 4 22 N nx (400 + 108 * j) T RR v6 (List.replicate j [114]) d6 _ hs hb hlv (by omega) (by rw [hRs, lay_rep, nblk_1]; omega) (by rw [List.length_replicate]; omega) (by omega)
          rw [HRL.out, hRR, ← List.replicate_succ'] at had
          have HAD := Lib.hid had; have HO := Lib.hid hown; have HL := Lib.hid hlv; have HAP := Lib.hid hap
          clear had hown hlv hb hap
          go_wp2_with fail
          refine (HAD.out).mono ?_
          rintro e w7 ⟨rfl, v7, d7, hl7, hc7, hv7, hn7, _, hb7⟩
          have hown7 := hc7.own HO.out fun k hk => HAP.out k hk
          have hap7 : ∀ k, uw.ownBlock = some k → ¬ StoS u q p g v7 k := fun k hk hS => by
            rcases hS with h | h | h | h | h
            · exact HAP.out k hk (.inl h)
            · exact HAP.out k hk (.inr (.inl h))
            · exact HAP.out k hk (.inr (.inr (.inl h)))
            · exact HAP.out k hk (.inr (.inr (.inr (.inl h))))
            · rcases hv7 k h with h2 | h2
              · exact HAP.out k hk (.inr (.inr (.inr (.inr h2))))
              · have := (HO.out.lt k hk).2; omega
          have HO7 : Hid (∀ o : Obj, (w7.alloc o).ownsRow w.heap.size 9 1 uw j (strVs (List.replicate j [114]))) := Lib.hid fun o => hown7.alloc o
          have HL7 := Lib.hid hl7; have HB7 := Lib.hid hb7; have HAP7 := Lib.hid hap7
          have hsz7 := hb7.size
          obtain ⟨ti, hti, hz0, hz1, hz2⟩ := Tryz.infoSt
          have hcn := fun t => cell_one_new w7 (.string RR) t
          rw [hRR] at hcn
          have HCN := Lib.hid hcn
          clear hl7 hc7 hb7 hv7 hown7 hap7 HAD HO HL HAP hcn
          go_wp2_with (at_builtin; refine wpList_append_own_at _ rfl _ _ 22 rfl w.heap.size 9 ti _ 1 16 Tryz.underlying22 hti hz0 hz1 hz2 rfl (by decide) _ j (strVs (List.replicate j [114])) rfl (HO7.out _) ⟨_, 0, none⟩ 1 1 [.string ⟨#[114]⟩] rfl rfl ?c1 ?c2 ?c3 ?c4 ?c5 ?_)
          case c1 => exact HCN.out _
          case c2 => first | rfl | (intro u hu; simp at hu; subst hu; rfl)
          case c3 => unfold maxLen; omega
          case c4 => omega
          case c5 => first | omega | (rw [World.size_alloc]; omega)
          intro uw' w8 o8 g8 _ hat
          have HNX : Hid (TwRel w u q p g cap N nx T n uw' (.int .i64 ((j : Int) + 1)) w8) := Lib.hid (by
            have hc8 : ChgS (fun k => uw.ownBlock = some k) w7 w8 := ((ChgS.refl _ w7).alloc _).grown g8 fun k hk => .inl hk
            have hbl := (HO7.out (.cells #[] 0)).lt
            refine ⟨j + 1, uw', v7, d7, ret_v (by omega), rfl, by omega, ?_, (HL7.out.kept hc8 fun k hk hu => HAP7.out k hu hk).le (by omega), HB7.out.trans (hc8.below (fun k hk => (hbl k hk).1) hsz7), fun k hk hS => ?_⟩
            · rw [List.replicate_succ', strVs_snoc1]
              exact o8
            · rcases hat with h | h
              · rw [h] at hk; exact HAP7.out k hk hS
              · rw [h] at hk
                have h1 := Option.some.inj hk
                have := (HL7.out.mem.lts k hS).2
                omega)
          clear o8 g8 hat HO7 HCN HL7 HB7 HAP7
          go_wp2_with fail
          go_roundw
          case rel => exact HNX.out
          case measure => simp [intOf]; omega
        · obtain rfl : j = n := by omega
          have hge2 : ¬ ((j : Int) < (j : Int)) := by omega
          have hop := lives_open s w p g cap d6 4 22 N nx (400 + 108 * j) T.data.toList (List.replicate j [114]) 4 _ hs hb hlv.mem.log.disk hlv.mem.log.lo rfl (by omega) (by omega) (by omega) hlv.full hlv.on hlv.fuse hlv.sel (by omega) hlv.wr (by omega) hlv.at_.follows
          rw [← bst_of] at hop
          have HOP := Lib.hid hop; have HM := Lib.hid hlv.mem; have HO := Lib.hid hown; have HAP := Lib.hid hap
          clear hop hlv hown hb hap
          go_wp2_with fail
          refine (HOP.out).mono ?_
          rintro e w9 ⟨u9, q9, v9, d9, rfl, hl9, hc9, hu9, hv9, hn9, _, hb9⟩
          have hmo := HM.out.disked hl9.mem.log.disk hc9 hn9
          have hown9 := hc9.own HO.out fun k hk h => by
            rcases h with h | h
            · exact HAP.out k hk (.inr (.inr (.inl h)))
            · exact HAP.out k hk (.inr (.inr (.inr (.inl h))))
          have HL9 := Lib.hid hl9; have HB9 := Lib.hid hb9; have HMO := Lib.hid hmo; have HO9 := Lib.hid hown9
          clear hl9 hc9 hb9 hv9 hmo hown9 HOP HM HO
          go_wp2_with fail
          refine (state_c _ u9 q9 p g cap d9 4 22 N nx T v9 _ false false _ HL9.out.mem).mono ?_
          rintro e wa ⟨rfl, rfl⟩
          have htt : (T.toList == T.toList) = true := by simp
          go_wp2_with fail
          refine (srecs_c _ u9 q9 p g cap d9 4 22 N nx T v9 _ false false _ HL9.out.mem).mono ?_
          rintro e wb ⟨⟨vb, rfl, ob⟩, bb⟩
          have HLb := Lib.hid (HL9.out.below bb (Nat.le_refl _))
          have HMb := Lib.hid (HMO.out.below bb (Nat.le_refl _))
          have HBb : Hid (Below w.heap.size w wb) := Lib.hid (HB9.out.trans (bb.mono HB9.out.size))
          have hob := own_same HO9.out fun k hk => bb.block k ((HO9.out.lt k hk).2)
          have hr2 : Reads wb uw (List.replicate j [114]) := own_reads (by rw [List.length_replicate] at *; exact hob)
          have hsm := same_c _ _ _ _ wb (own_reads ob) hr2 (by rw [List.length_replicate]; omega) (by rw [List.length_replicate]; omega)
          rw [decide_eq_true rfl] at hsm
          have HSM := Lib.hid hsm
          clear ob bb hob hr2 hsm HL9 HMO HB9 HO9
          go_wp2_with fail
          refine (HSM.out).mono ?_
          rintro e wc ⟨rfl, hc⟩
          have HLc := Lib.hid (HLb.out.same hc)
          have HMc := Lib.hid (HMb.out.same hc)
          have HBc : Hid (Below w.heap.size w wc) := Lib.hid (HBb.out.trans (hc.below _))
          clear hc HSM HLb HMb HBb
          go_wp2_with fail
          refine (seq_c _ u9 q9 p g cap d9 4 22 N nx T v9 _ false false _ HLc.out.mem).mono ?_
          rintro e wd ⟨he, hd⟩
          obtain ⟨Q, he2, hQ⟩ : ∃ Q : Int, e = .returned (.int .i64 Q) ∧ (Q == (N : Int) + (j : Int)) = true := ⟨_, he, by rw [beq_iff_eq, List.length_replicate]; omega⟩
          subst he2
          clear he
          have HMd := Lib.hid (HMc.out.same hd)
          have HBd : Hid (Below w.heap.size w wd) := Lib.hid (HBc.out.trans (hd.below _))
          clear hd
          go_wp2_with fail
          refine (state_c _ u q p g cap d9 4 22 N nx T _ _ false false _ HMd.out).mono ?_
          rintro e we ⟨rfl, rfl⟩
          go_wp2_with fail
          go_ret
          exact ⟨rfl, HBd.out⟩
end Go.Proofs.YtmfchjbpbfkgiabGreatDoor
