/- The walk of the law KinOrder: whatever the arguments, it returns true. Condition: the sentinels lie where the program's text lays them. -/
import Derived.Test.YtaibmdjcppeopaaDoorKnH
namespace Go.Proofs.YtaibmdjcppeopaaDoor
open Go Go.RowKit Go.Maps Go.Sort

theorem below_k (w0 : World) (q b : Nat) (T : Kin) (x y : Int) (w : World) (h : KinAt w0 w q b T) (_hx : 1 ≤ x ∧ x ≤ 16) :
    Calls Tryd.prog 18 #[.pointer (some ⟨q, 0, none⟩), .int .i64 x, .int .i64 y] w fun e w' => e = .returned (.bool ((way T x).contains y)) ∧ KinAt w0 w' q b T :=
  (below_c q b T x y w h.tree (by omega) (by omega)).mono fun _ _ k => ⟨k.1, h.on k.2⟩
theorem depth_k (w0 : World) (q b : Nat) (T : Kin) (x : Int) (w : World) (h : KinAt w0 w q b T) (hx : 1 ≤ x ∧ x ≤ 16) :
    Calls Tryd.prog 24 #[.pointer (some ⟨q, 0, none⟩), .int .i64 x] w fun e w' => e = .returned (.int .i64 (((way T x).length - 1 : Nat) : Int)) ∧ KinAt w0 w' q b T :=
  (depth_c q b T x w h.tree (by omega) (by omega)).mono fun _ _ k => ⟨k.1, h.on k.2⟩
theorem contains_yes {L : List Int} {x : Int} (h : x ∈ L) : L.contains x = true := by simpa using h
theorem Line.below_same {n : Nat} {T : Kin} (h : Line n T) {x y : Int} (hx : 1 ≤ x ∧ x ≤ n) (h1 : (way T x).contains y = true) (h2 : (way T y).contains x = true) : x = y :=
  h.good.below_anti (by simpa using h1) (by simpa using h2)
theorem Line.below_two {n : Nat} {T : Kin} (h : Line n T) {x y z : Int} (h1 : (way T x).contains y = true) (h2 : (way T y).contains z = true) : (way T x).contains z = true :=
  contains_yes (h.good.below_trans (by simpa using h1) (by simpa using h2))
theorem Line.below_iff {n : Nat} {T : Kin} (h : Line n T) {x y : Int} (hy : 1 ≤ y ∧ y ≤ n) : (way T x).contains y = true ↔ (way T x)[(way T y).length - 1]? = some y := by
  have := h.good.below_at (x := x) ((h.keys y).2 hy)
  rw [← this]; simp
theorem Line.pos {n : Nat} {T : Kin} (h : Line n T) {x : Int} (hx : 1 ≤ x ∧ x ≤ n) : 0 < (way T x).length := h.good.way_pos ((h.keys x).2 hx)

set_option maxHeartbeats 6400000 in
set_option maxRecDepth 100000 in
theorem order_any (s : Nat → Addr) (v : Value) (zs : List Int) (a0 b0 c0 : Int) (w : World) (hs : Sent s w) (hz : RI w v zs) (hl : zs.length ≤ 9223372036854775807) :
    Calls Tryd.prog 4 #[v, .int .i64 a0, .int .i64 b0, .int .i64 c0] w fun e w' => e = .returned (.bool true) ∧ Below w.heap.size w w' := by
  have HS := Lib.hid hs; have HZ := Lib.hid hz
  obtain ⟨A, c, rfl, _⟩ := hz
  clear hs
  go_enter Tryd.func4, Tryd.ntmps4
  go_wp2_with fail
  refine (awake_c s _ HS.out).mono ?_
  rintro e w1 ⟨rfl, b1⟩
  have HB1 := Lib.hid b1; clear b1
  go_wp2_with fail
  refine (new_c _).mono ?_
  rintro e w2 ⟨q, b, rfl, t2, b2, lb, lq⟩
  have HST : Hid (Build w q b zs.length (.int .i64 1) (.int .i64 0) w2) := Lib.hid ⟨0, _, rfl, rfl, by omega, by omega, .one, ⟨t2, HB1.out.trans (b2.mono HB1.out.size), Nat.le_trans HB1.out.size lq, Nat.le_trans HB1.out.size lb⟩⟩
  clear t2 b2 lb lq HB1
  go_wp2_with fail
  go_loopw [10, 11] (fun N I wr => Build w q b zs.length N I wr) (fun _ I _ => 15 - (intOf I).toNat)
  case atStart => exact HST.out
  case round =>
    clear HST
    obtain ⟨n, T, rfl, rfl, hn, hm, hL, hK⟩ := hrel
    have HK := Lib.hid hK; have HL := Lib.hid hL
    clear hK hL
    by_cases hjn : n < zs.length ∧ n < 15
    · obtain ⟨hjn, h15⟩ := hjn
      have j1 : (n : Int) < (zs.length : Int) := by omega
      have j0 : (0 : Int) ≤ (n : Int) := by omega
      have j2 : decide ((n : Int) < 15) = true := decide_eq_true (by omega)
      have hx : zs[n]? = some zs[n] := List.getElem?_eq_getElem hjn
      obtain ⟨_, _, e1, k1⟩ := HZ.out.on HK.out.below
      obtain ⟨a, ha, ca⟩ := k1 n _ hx
      cases e1
      subst ha
      clear k1
      obtain ⟨z, hzz⟩ : ∃ z, zs[n] = z := ⟨_, rfl⟩
      rw [hzz] at ca
      clear hx hzz
      obtain ⟨m, hmk, em⟩ := mod_pos z (n + 1) (by omega) (by omega)
      have em2 : wrap64 (1 + wrap64 ((IntKind.u64.wrap z).tmod ((n : Int) + 1))) = (m : Int) + 1 := by
        rw [show ((n : Int) + 1) = (((n + 1 : Nat)) : Int) by omega, em]; unfold wrap64; omega
      clear em
      have HA := Lib.hid (HL.out.add (p := (m : Int) + 1) (by omega) (by omega) (by omega))
      rw [show (((n + 1 : Nat)) : Int) = (n : Int) + 1 by omega] at HA
      have HN : Hid (Line (n + 1 + 1) (((n : Int) + 1 + 1, (m : Int) + 1) :: T)) := Lib.hid (HL.out.more (p := (m : Int) + 1) (by omega) (by omega) (by omega))
      go_wp2_with fail
      rw [em2]
      refine (add_c s q b _ _ _ _ (HK.out.sent HS.out) HK.out.tree (by omega) (by omega) (by omega) (by omega)).mono ?_
      rw [HA.out.1, HA.out.2]
      rintro e w3 ⟨rfl, t3, g3⟩
      have HK3 := Lib.hid (HK.out.grown t3 g3); clear HK t3 g3
      rw [errV_zero]
      clear em2 ca hmk
      go_wp2_with fail
      go_roundw
      case rel => exact ⟨n + 1, _, ret_v (by omega), ret_v (by omega), by omega, by omega, HN.out, HK3.out⟩
      case measure => simp [intOf]; omega
    · -- all are there
      go_upto_region 6 with fail
      go_cut [27] (fun cc wx => cc = .bool false ∧ wr = wx)
      case first =>
        by_cases j : n < zs.length
        · have j1 : (n : Int) < (zs.length : Int) := by omega
          have j2 : decide ((n : Int) < 15) = false := decide_eq_false (by omega)
          go_wp2_with fail
          go_meet
          exact ⟨rfl, rfl⟩
        · have j1 : ¬ (n : Int) < (zs.length : Int) := by omega
          go_wp2_with fail
          go_meet
          exact ⟨rfl, rfl⟩
      case rest =>
      obtain ⟨rfl, rfl⟩ := hcut
      have hz0 : (0 : Int) ≤ (n : Int) := by omega
      obtain ⟨mx, hmx, ex⟩ := mod_pos a0 (n + 1) (by omega) (by omega)
      obtain ⟨my, hmy, ey⟩ := mod_pos b0 (n + 1) (by omega) (by omega)
      obtain ⟨mz, hmz, ez⟩ := mod_pos c0 (n + 1) (by omega) (by omega)
      obtain ⟨x, hx⟩ : ∃ x, (mx : Int) + 1 = x := ⟨_, rfl⟩
      obtain ⟨y, hy⟩ : ∃ y, (my : Int) + 1 = y := ⟨_, rfl⟩
      obtain ⟨z, hz⟩ : ∃ z, (mz : Int) + 1 = z := ⟨_, rfl⟩
      have ex2 : wrap64 (1 + wrap64 ((IntKind.u64.wrap a0).tmod ((n : Int) + 1))) = x := by
        rw [show ((n : Int) + 1) = (((n + 1 : Nat)) : Int) by omega, ex]; unfold wrap64; omega
      have ey2 : wrap64 (1 + wrap64 ((IntKind.u64.wrap b0).tmod ((n : Int) + 1))) = y := by
        rw [show ((n : Int) + 1) = (((n + 1 : Nat)) : Int) by omega, ey]; unfold wrap64; omega
      have ez2 : wrap64 (1 + wrap64 ((IntKind.u64.wrap c0).tmod ((n : Int) + 1))) = z := by
        rw [show ((n : Int) + 1) = (((n + 1 : Nat)) : Int) by omega, ez]; unfold wrap64; omega
      have bx : 1 ≤ x ∧ x ≤ 16 := by omega
      have by' : 1 ≤ y ∧ y ≤ 16 := by omega
      have bz : 1 ≤ z ∧ z ≤ 16 := by omega
      have HX : Hid ((1 ≤ x ∧ x ≤ ((n + 1 : Nat) : Int)) ∧ (1 ≤ y ∧ y ≤ ((n + 1 : Nat) : Int))) := Lib.hid ⟨by omega, by omega⟩
      clear ex ey ez hx hy hz hmx hmy hmz
      go_upto_region 14 with fail
      rw [ex2, ey2, ez2]
      go_cut [114] (fun cc wx => cc = .bool false ∧ KinAt w wx q b T)
      case first =>
        clear ex2 ey2 ez2
        have f1 : Hid ((way T x).contains 1 = true) := Lib.hid (contains_yes (HL.out.good.way_root ((HL.out.keys x).2 HX.out.1)))
        have f2 : Hid ((way T x).contains x = true) := Lib.hid (contains_yes (HL.out.good.way_self ((HL.out.keys x).2 HX.out.1)))
        have K := HK
        clear HK
        by_cases hxy : x = y
        · subst hxy
          have hne : (x != x) = false := by simp
          cases e1 : (way T x).contains z with
          | true =>
            have g1 : Hid ((way T x).contains z = true) := Lib.hid (e1)
            have g2 : Hid ((way T x).contains 1 = true) := f1
            have g3 : Hid ((way T x).contains 1 = true) := f1
            have g4 : Hid ((way T x).contains 1 = true) := f1
            clear e1
            go_wp2_with (go_at_call 18; refine (below_k w q b T _ _ _ K.out (by omega)).mono ?_; rintro e wN ⟨he, K'⟩; replace K := Lib.hid K'; clear K'; (first | rw [f1.out] at he | rw [f2.out] at he | rw [g1.out] at he | rw [g2.out] at he | rw [g3.out] at he | rw [g4.out] at he); subst he)
            go_meet
            exact ⟨rfl, K.out⟩
          | false =>
            have g1 : Hid ((way T x).contains z = false) := Lib.hid (e1)
            have g2 : Hid ((way T x).contains 1 = true) := f1
            have g3 : Hid ((way T x).contains 1 = true) := f1
            have g4 : Hid ((way T x).contains 1 = true) := f1
            clear e1
            go_wp2_with (go_at_call 18; refine (below_k w q b T _ _ _ K.out (by omega)).mono ?_; rintro e wN ⟨he, K'⟩; replace K := Lib.hid K'; clear K'; (first | rw [f1.out] at he | rw [f2.out] at he | rw [g1.out] at he | rw [g2.out] at he | rw [g3.out] at he | rw [g4.out] at he); subst he)
            go_meet
            exact ⟨rfl, K.out⟩
        · have hne : (x != y) = true := by rw [bne_iff_ne]; exact hxy
          cases e1 : (way T x).contains y with
          | false =>
            have g1 : Hid ((way T x).contains y = false) := Lib.hid (e1)
            have g2 : Hid ((way T x).contains 1 = true) := f1
            have g3 : Hid ((way T x).contains 1 = true) := f1
            have g4 : Hid ((way T x).contains 1 = true) := f1
            clear e1 hxy
            go_wp2_with (go_at_call 18; refine (below_k w q b T _ _ _ K.out (by omega)).mono ?_; rintro e wN ⟨he, K'⟩; replace K := Lib.hid K'; clear K'; (first | rw [f1.out] at he | rw [f2.out] at he | rw [g1.out] at he | rw [g2.out] at he | rw [g3.out] at he | rw [g4.out] at he); subst he)
            go_meet
            exact ⟨rfl, K.out⟩
          | true =>
            cases e2 : (way T y).contains x with
            | true => exact absurd (HL.out.below_same HX.out.1 e1 e2) hxy
            | false =>
              cases e3 : (way T y).contains z with
              | false =>
                have g1 : Hid ((way T x).contains y = true) := Lib.hid (e1)
                have g2 : Hid ((way T y).contains x = false) := Lib.hid (e2)
                have g3 : Hid ((way T y).contains z = false) := Lib.hid (e3)
                have g4 : Hid ((way T x).contains 1 = true) := f1
                clear e1 e2 e3 hxy
                go_wp2_with (go_at_call 18; refine (below_k w q b T _ _ _ K.out (by omega)).mono ?_; rintro e wN ⟨he, K'⟩; replace K := Lib.hid K'; clear K'; (first | rw [f1.out] at he | rw [f2.out] at he | rw [g1.out] at he | rw [g2.out] at he | rw [g3.out] at he | rw [g4.out] at he); subst he)
                go_meet
                exact ⟨rfl, K.out⟩
              | true =>
                have e4 := HL.out.below_two e1 e3
                have g1 : Hid ((way T x).contains y = true) := Lib.hid (e1)
                have g2 : Hid ((way T y).contains x = false) := Lib.hid (e2)
                have g3 : Hid ((way T y).contains z = true) := Lib.hid (e3)
                have g4 : Hid ((way T x).contains z = true) := Lib.hid (e4)
                clear e1 e2 e3 e4 hxy
                go_wp2_with (go_at_call 18; refine (below_k w q b T _ _ _ K.out (by omega)).mono ?_; rintro e wN ⟨he, K'⟩; replace K := Lib.hid K'; clear K'; (first | rw [f1.out] at he | rw [f2.out] at he | rw [g1.out] at he | rw [g2.out] at he | rw [g3.out] at he | rw [g4.out] at he); subst he)
                go_meet
                exact ⟨rfl, K.out⟩
      case rest =>
      obtain ⟨rfl, K2⟩ := hcut
      have HK2 := Lib.hid K2
      clear K2 HK ex2 ey2 ez2
      obtain ⟨dx, hdx⟩ : ∃ dx, (way T x).length - 1 = dx := ⟨_, rfl⟩
      obtain ⟨dy, hdy⟩ : ∃ dy, (way T y).length - 1 = dy := ⟨_, rfl⟩
      obtain ⟨LX, hLX⟩ : ∃ LX, way T x = LX := ⟨_, rfl⟩
      have hlx := way_few T x (by have := HL.out.len; omega)
      have hly := way_few T y (by have := HL.out.len; omega)
      have hpos := HL.out.pos HX.out.1
      have HDX := Lib.hid hdx; have HDY := Lib.hid hdy; have HLX := Lib.hid hLX
      have hiff : Hid ((way T x).contains y = true ↔ LX[dy]? = some y) := Lib.hid (by rw [← hLX, ← hdy]; exact HL.out.below_iff HX.out.2)
      have hdl : Hid (LX.length = dx + 1) := Lib.hid (by rw [← hLX]; omega)
      have hdx15 : dx ≤ 15 := by omega
      have hdy15 : dy ≤ 15 := by omega
      clear hdx hdy hLX hlx hly hpos
      go_upto_region 16 with fail
      go_cut [138] (fun cc wx => cc = .bool false ∧ KinAt w wx q b T)
      case first =>
        cases e1 : (way T x).contains y with
        | true =>
          have hi := hiff.out.1 e1
          have E1 := Lib.hid e1; have HI := Lib.hid hi
          have hlt : dy < LX.length := (List.getElem?_eq_some_iff.1 hi).1
          have hge : (dy : Int) ≤ (dx : Int) := by have := hdl.out; omega
          have i0 : (0 : Int) ≤ (dy : Int) := by omega
          have i1 : (dy : Int) < (LX.length : Int) := by omega
          clear e1 hi hlt
          go_wp2_with fail
          refine (below_k w q b T _ _ _ HK2.out (by omega)).mono ?_
          rw [E1.out]
          rintro e w3 ⟨rfl, K3⟩
          go_wp2_with fail
          refine (depth_k w q b T _ _ K3 (by omega)).mono ?_
          rw [HDX.out]
          rintro e w4 ⟨rfl, K4⟩
          go_wp2_with fail
          refine (depth_k w q b T _ _ K4 (by omega)).mono ?_
          rw [HDY.out]
          rintro e w5 ⟨rfl, K5⟩
          clear K3 K4
          go_wp2_with fail
          refine (way_c q b T _ _ K5.tree (by omega) (by omega)).mono ?_
          rw [HLX.out]
          rintro e w6 ⟨v6, rfl, ho, b6⟩
          have K6 := K5.on b6
          obtain ⟨a6, c6, rfl, k6⟩ := ho.ri
          obtain ⟨ad, rfl, cel⟩ := k6 dy y HI.out
          clear K5 b6 k6 ho
          go_wp2_with fail
          refine (depth_c q b T _ _ K6.tree (by omega) (by omega)).mono ?_
          rw [HDY.out]
          rintro e w7 ⟨rfl, b7⟩
          have K7 := Lib.hid (K6.on b7)
          replace cel := (b7.cell (p := ad.add dy) (lt_of_cell cel)).trans cel
          clear K6 b7
          go_wp2_with fail
          go_meet
          exact ⟨rfl, K7.out⟩
        | false =>
          have E1 := Lib.hid e1
          by_cases hle : dy ≤ dx
          · have hlt : dy < LX.length := by have := hdl.out; omega
            have HI : Hid (LX[dy]? = some LX[dy]) := Lib.hid (List.getElem?_eq_getElem hlt)
            obtain ⟨u, hu⟩ : ∃ u, LX[dy] = u := ⟨_, rfl⟩
            rw [hu] at HI
            have hne : (u == y) = false := by
              rw [beq_eq_false_iff_ne]
              intro e
              subst e
              rw [hiff.out.2 HI.out] at e1
              cases e1
            have hge : (dy : Int) ≤ (dx : Int) := by omega
            have i0 : (0 : Int) ≤ (dy : Int) := by omega
            have i1 : (dy : Int) < (LX.length : Int) := by omega
            clear e1 hu hle hlt
            go_wp2_with fail
            refine (below_k w q b T _ _ _ HK2.out (by omega)).mono ?_
            rw [E1.out]
            rintro e w3 ⟨rfl, K3⟩
            go_wp2_with fail
            refine (depth_k w q b T _ _ K3 (by omega)).mono ?_
            rw [HDX.out]
            rintro e w4 ⟨rfl, K4⟩
            go_wp2_with fail
            refine (depth_k w q b T _ _ K4 (by omega)).mono ?_
            rw [HDY.out]
            rintro e w5 ⟨rfl, K5⟩
            clear K3 K4
            go_wp2_with fail
            refine (way_c q b T _ _ K5.tree (by omega) (by omega)).mono ?_
            rw [HLX.out]
            rintro e w6 ⟨v6, rfl, ho, b6⟩
            have K6 := K5.on b6
            obtain ⟨a6, c6, rfl, k6⟩ := ho.ri
            obtain ⟨ad, rfl, cel⟩ := k6 dy u HI.out
            clear K5 b6 k6 ho
            go_wp2_with fail
            refine (depth_c q b T _ _ K6.tree (by omega) (by omega)).mono ?_
            rw [HDY.out]
            rintro e w7 ⟨rfl, b7⟩
            have K7 := Lib.hid (K6.on b7)
            replace cel := (b7.cell (p := ad.add dy) (lt_of_cell cel)).trans cel
            clear K6 b7
            go_wp2_with fail
            go_meet
            exact ⟨rfl, K7.out⟩
          · have hge : ¬ (dy : Int) ≤ (dx : Int) := by omega
            clear e1 hle
            go_wp2_with fail
            refine (below_k w q b T _ _ _ HK2.out (by omega)).mono ?_
            rw [E1.out]
            rintro e w3 ⟨rfl, K3⟩
            go_wp2_with fail
            refine (depth_k w q b T _ _ K3 (by omega)).mono ?_
            rw [HDX.out]
            rintro e w4 ⟨rfl, K4⟩
            go_wp2_with fail
            refine (depth_k w q b T _ _ K4 (by omega)).mono ?_
            rw [HDY.out]
            rintro e w5 ⟨rfl, K5⟩
            clear K3 K4
            go_wp2_with fail
            go_meet
            exact ⟨rfl, K5⟩
      case rest =>
      obtain ⟨rfl, K3⟩ := hcut
      have HK3 := Lib.hid K3
      clear K3 HK2 hiff
      go_wp2_with fail
      refine (kids_c q b T x _ HK3.out.tree (by omega) (by omega)).mono ?_
      rw [show childs T x = kids T x from HL.out.childs HX.out.1.1 HX.out.1.2]
      obtain ⟨KL, hKL⟩ : ∃ KL, kids T x = KL := ⟨_, rfl⟩
      have HKL := Lib.hid hKL
      have HKM : Hid (∀ y, y ∈ KL ↔ up T y = some x) := Lib.hid (by rw [← hKL]; exact fun y => HL.out.good.kids_mem)
      have hkl : KL.length ≤ 16 := by rw [← hKL]; exact kids_few T HL.out.good (by have := HL.out.len; omega) x
      rw [hKL]
      clear hKL
      rintro e w4 ⟨v4, rfl, ho, b4⟩
      have HK4 := Lib.hid (HK3.out.on b4)
      have HR4 := Lib.hid ho.ri
      obtain ⟨a4, c4, rfl, _⟩ := ho.ri
      obtain ⟨lk, hlk⟩ : ∃ lk, KL.length = lk := ⟨_, rfl⟩
      have HLK := Lib.hid hlk
      rw [hlk] at hkl
      rw [hlk]
      clear ho b4 HK3 hlk
      go_wp2_with fail
      go_loopw [16] (fun I wq => ∃ j : Nat, I = .int .i64 (j : Int) ∧ j ≤ lk ∧ KinAt w wq q b T ∧ Below w4.heap.size w4 wq) (fun I _ => lk - (intOf I).toNat)
      case atStart => exact ⟨0, rfl, by omega, HK4.out, Below.refl _ _⟩
      case round =>
        obtain ⟨j, rfl, hj, K5, b5⟩ := hrel
        have HK5 := Lib.hid K5; have HB5 := Lib.hid b5
        clear K5 b5 HK4
        by_cases hjk : j < lk
        · have hjk' : j < KL.length := by rw [HLK.out]; exact hjk
          have hy : KL[j]? = some KL[j] := List.getElem?_eq_getElem hjk'
          obtain ⟨u, hu⟩ : ∃ u, KL[j] = u := ⟨_, rfl⟩
          rw [hu] at hy
          have hup : up T u = some x := (HKM.out u).1 (List.mem_of_getElem? hy)
          have hub := (HL.out.keys u).1 (by rw [hup]; rfl)
          have HUP : Hid ((up T u).getD 0 = x) := Lib.hid (by rw [hup]; rfl)
          have hway := (HL.out.good.way_some hup).1
          have HDU : Hid ((way T u).length - 1 = dx + 1) := Lib.hid (by rw [hway, HLX.out, List.length_append, hdl.out]; rfl)
          obtain ⟨_, _, e1, k1⟩ := HR4.out.on HB5.out
          cases e1
          obtain ⟨ad, hal, cel⟩ := k1 j u hy
          subst hal
          have hlen : (n : Int) ≤ 15 := by omega
          have hu16 : 1 ≤ u ∧ u ≤ 16 := by omega
          have hxx : (x != x) = false := by simp
          have hdd : (((dx + 1 : Nat) : Int) != (dx : Int) + 1) = false := by rw [bne_eq_false_iff_eq]; omega
          have j0 : (0 : Int) ≤ (j : Int) := by omega
          have j1 : (j : Int) < (lk : Int) := by omega
          clear k1 hy hu hup hub hway hjk'
          go_wp2_with fail
          refine (parent_c q b T u _ HK5.out.tree (by omega) (by omega)).mono ?_
          rw [HUP.out]
          rintro e wr ⟨rfl, rfl⟩
          go_wp2_with fail
          refine (depth_c q b T u _ HK5.out.tree (by omega) (by omega)).mono ?_
          rw [HDU.out]
          rintro e w6 ⟨rfl, b6⟩
          have HK6 := Lib.hid (HK5.out.on b6)
          have HB6 := Lib.hid (HB5.out.trans (b6.mono HB5.out.size))
          clear b6 cel
          go_wp2_with fail
          refine (depth_c q b T x _ HK6.out.tree (by omega) (by omega)).mono ?_
          rw [HDX.out]
          rintro e w7 ⟨rfl, b7⟩
          have HK7 := Lib.hid (HK6.out.on b7)
          have HB7 := Lib.hid (HB6.out.trans (b7.mono HB6.out.size))
          clear b7
          go_wp2_with fail
          go_roundw
          case rel => exact ⟨j + 1, ret_v (by omega), hjk, HK7.out, HB7.out⟩
          case measure => simp [intOf]; omega
        · have j1 : ¬ (j : Int) < (lk : Int) := by omega
          clear HR4 HB5 HZ
          by_cases hend : 0 < lk ∨ x = 1
          · have hdr : dropErr T x = 13 ∧ dropped T x = T := by
              have e : dropErr T x = 13 := by
                unfold dropErr
                have hi := (HL.out.keys x).2 HX.out.1
                rw [if_neg (by simpa [Option.isSome_iff_ne_none] using hi), if_pos]
                rcases hend with h | h
                · exact .inr (fun e => by rw [HKL.out] at e; have := HLK.out; rw [e] at this; simp at this; omega)
                · exact .inl h
              exact ⟨e, by unfold dropped; rw [e]; rfl⟩
            have HDR := Lib.hid hdr
            have HIS : Hid ((up T x).isSome = true) := Lib.hid ((HL.out.keys x).2 HX.out.1)
            clear hdr
            by_cases hk0 : 0 < lk
            · have k0 : (0 : Int) < (lk : Int) := by omega
              clear hend hk0
              go_wp2_with fail
              refine (drop_c s q b T x _ (HK5.out.sent HS.out) HK5.out.tree (by omega) (by omega)).mono ?_
              rw [HDR.out.1, HDR.out.2]
              rintro e w6 ⟨rfl, t6, g6⟩
              have HK6 := Lib.hid (HK5.out.chg t6 g6)
              clear t6 g6 HK5
              go_wp2_with fail
              refine (kind_errV s 13 _ (HK6.out.sent HS.out) (by omega)).mono ?_
              rintro e w7 ⟨rfl, b7⟩
              have HK7 := Lib.hid (HK6.out.on b7)
              clear b7 HK6
              go_wp2_with fail
              refine (is_c q b T x _ HK7.out.tree (by omega) (by omega)).mono ?_
              rw [HIS.out]
              rintro e w8 ⟨rfl, rfl⟩
              go_wp2_with fail
              go_ret
              exact ⟨rfl, HK7.out.below⟩
            · obtain rfl : lk = 0 := by omega
              have hx1 : x = 1 := by omega
              subst hx1
              clear hend hk0
              go_wp2_with fail
              refine (drop_c s q b T 1 _ (HK5.out.sent HS.out) HK5.out.tree (by omega) (by omega)).mono ?_
              rw [HDR.out.1, HDR.out.2]
              rintro e w6 ⟨rfl, t6, g6⟩
              have HK6 := Lib.hid (HK5.out.chg t6 g6)
              clear t6 g6 HK5
              go_wp2_with fail
              refine (kind_errV s 13 _ (HK6.out.sent HS.out) (by omega)).mono ?_
              rintro e w7 ⟨rfl, b7⟩
              have HK7 := Lib.hid (HK6.out.on b7)
              clear b7 HK6
              go_wp2_with fail
              refine (is_c q b T 1 _ HK7.out.tree (by omega) (by omega)).mono ?_
              rw [HIS.out]
              rintro e w8 ⟨rfl, rfl⟩
              go_wp2_with fail
              go_ret
              exact ⟨rfl, HK7.out.below⟩
          · obtain rfl : lk = 0 := by omega
            have hx1 : (x == 1) = false := by rw [beq_eq_false_iff_ne]; omega
            have hnil : kids T x = [] := by rw [HKL.out]; exact List.eq_nil_of_length_eq_zero HLK.out
            have hin := (HL.out.keys x).2 HX.out.1
            have hdr : dropErr T x = 0 ∧ dropped T x = rid T x := by
              have e : dropErr T x = 0 := by
                unfold dropErr
                rw [if_neg (by simpa [Option.isSome_iff_ne_none] using hin), if_neg]
                rintro (h | h)
                · omega
                · exact h hnil
              exact ⟨e, by unfold dropped; rw [if_pos e]⟩
            have hun : up (rid T x) x = none := by rw [up_rid, if_pos rfl]
            have hgr : Good (rid T x) := HL.out.good.struck (by omega) (HL.out.good.no_kid hnil)
            have hdr2 : dropErr (rid T x) x = 5 ∧ dropped (rid T x) x = rid T x := by
              have e : dropErr (rid T x) x = 5 := by unfold dropErr; rw [hun]; rfl
              exact ⟨e, by unfold dropped; rw [e]; rfl⟩
            have HDR := Lib.hid hdr; have HDR2 := Lib.hid hdr2
            have HIS : Hid ((up (rid T x) x).isSome = false) := Lib.hid (by rw [hun]; rfl)
            have HW : Hid ((way (rid T x) x).contains 1 = false) := Lib.hid (by rw [way_none hun]; rfl)
            have HLN : Hid ((alls (rid T x)).length = n) := Lib.hid (by have h1 := hgr.alls_len; have h2 := HL.out.good.struck_len hin; have h3 := HL.out.len.1; omega)
            have nn : (((n : Nat) : Int) == (n : Int)) = true := by simp
            clear hdr hdr2 hun hgr hin hnil hend
            go_wp2_with fail
            refine (drop_c s q b T x _ (HK5.out.sent HS.out) HK5.out.tree (by omega) (by omega)).mono ?_
            rw [HDR.out.1, HDR.out.2]
            rintro e w6 ⟨rfl, t6, g6⟩
            have HK6 := Lib.hid (HK5.out.chg t6 g6)
            clear t6 g6 HK5
            rw [errV_zero]
            go_wp2_with fail
            refine (is_c q b _ x _ HK6.out.tree (by omega) (by omega)).mono ?_
            rw [HIS.out]
            rintro e w6 ⟨rfl, rfl⟩
            go_wp2_with fail
            refine (below_c q b _ x 1 _ HK6.out.tree (by omega) (by omega)).mono ?_
            rw [HW.out]
            rintro e w7 ⟨rfl, b7⟩
            have HK7 := Lib.hid (HK6.out.on b7)
            clear b7 HK6
            go_wp2_with fail
            refine (all_c q b _ _ HK7.out.tree).mono ?_
            rintro e w8 ⟨v8, rfl, ho, b8⟩
            have HK8 := Lib.hid (HK7.out.on b8)
            obtain ⟨a8, c8, rfl⟩ := ho.sl
            rw [HLN.out]
            clear ho b8 HK7
            go_wp2_with fail
            refine (drop_c s q b _ x _ (HK8.out.sent HS.out) HK8.out.tree (by omega) (by omega)).mono ?_
            rw [HDR2.out.1, HDR2.out.2]
            rintro e w9 ⟨rfl, t9, g9⟩
            have HK9 := Lib.hid (HK8.out.chg t9 g9)
            clear t9 g9 HK8
            go_wp2_with fail
            refine (kind_errV s 5 _ (HK9.out.sent HS.out) (by omega)).mono ?_
            rintro e w10 ⟨rfl, b10⟩
            have HK10 := Lib.hid (HK9.out.on b10)
            clear b10 HK9
            go_wp2_with fail
            go_ret
            exact ⟨rfl, HK10.out.below⟩
end Go.Proofs.YtaibmdjcppeopaaDoor
