/- The walk of the law KinExact: whatever the deeds, it returns true. Condition: the sentinels lie where the program's text lays them. -/
import Derived.Test.YtaibmdjcppeopaaDoorKnV
import Derived.Deep.RegionHeld3
import Derived.Deep.QuietTactic
import Derived.Deep.DeepCutAuto
import Derived.Deep.CutBlock
import Derived.IntWalk
namespace Go.Proofs.YtaibmdjcppeopaaDoor
open Go Go.RowKit Go.Maps Go.Sort

/-- What a round of the deeds begins with. -/
def XRel (w : World) (q b o m : Nat) (I : Value) (wr : World) : Prop := ∃ (i : Nat) (T : Kin), I = .int .i64 (i : Int) ∧ i ≤ m ∧ i ≤ 60 ∧ Good T ∧ T.length ≤ 16 ∧ Duo w wr q b o T T

theorem refF_getD {T : Kin} {i : Nat} (h : (up T (i : Int)).isSome = true) : refF T i = (up T (i : Int)).getD 0 := by
  obtain ⟨p, hp⟩ := Option.isSome_iff_exists.1 h
  rw [refF_some hp, hp]; rfl
theorem alls_lt {T : Kin} {j : Nat} {u v : Int} (hu : (alls T)[j]? = some u) (hv : (alls T)[j + 1]? = some v) : u < v := by
  have h := List.pairwise_iff_getElem.1 (ids_lt.filter fun i => (up T i).isSome)
  obtain ⟨h1, e1⟩ := List.getElem?_eq_some_iff.1 hu
  obtain ⟨h2, e2⟩ := List.getElem?_eq_some_iff.1 hv
  rw [← e1, ← e2]
  exact h j (j + 1) h1 h2 (by omega)

set_option maxHeartbeats 12800000 in
set_option maxRecDepth 100000 in
theorem exact_any (s : Nat → Addr) (A : Option Addr) (c : Nat) (xs : List KActD) (w : World) (hs : Sent s w) (hA : KActRow w w.heap.size A xs) (hG : ∀ x ∈ xs, GoodKAct x) (hl : xs.length ≤ 9223372036854775807) :
    Calls Tryd.prog 3 #[.slice A xs.length c] w fun e w' => e = .returned (.bool true) ∧ Below w.heap.size w w' := by
  have HS := Lib.hid hs; have HA := Lib.hid hA; have HG := Lib.hid hG
  clear hs hA hG
  go_enter Tryd.func3, Tryd.ntmps3
  go_wp2_with fail
  refine (awake_c s _ HS.out).mono ?_
  rintro e w1 ⟨rfl, b1⟩
  have HB1 := Lib.hid b1; clear b1
  go_wp2_with fail
  refine (new_c _).mono ?_
  rintro e w2 ⟨q, b, rfl, t2, b2, lb, lq⟩
  have K2 : Hid (KinAt w w2 q b [(1, 0)]) := Lib.hid ⟨t2, HB1.out.trans (b2.mono HB1.out.size), Nat.le_trans HB1.out.size lq, Nat.le_trans HB1.out.size lb⟩
  clear t2 b2 lb lq HB1
  go_wp2_with fail
  refine (rnew_c _).mono ?_
  rintro e w3 ⟨o, rfl, r3, b3, lo⟩
  have HST : Hid (XRel w q b o xs.length (.int .i64 0) w3) := Lib.hid ⟨0, _, rfl, by omega, by omega, .root, by decide, ⟨K2.out.on b3, r3, Nat.le_trans K2.out.below.size lo⟩⟩
  clear r3 b3 lo K2
  go_wp2_with fail
  go_loopw [5] (fun I wr => XRel w q b o xs.length I wr) (fun I _ => xs.length - (intOf I).toNat)
  case atStart => exact HST.out
  case round =>
    clear HST
    obtain ⟨i, T, rfl, hi, hi60, hT, hTl, hD⟩ := hrel
    have HD := Lib.hid hD; have HT := Lib.hid hT; have HTL := Lib.hid hTl
    clear hD hT hTl
    by_cases hlt : i < xs.length ∧ i < 60
    · obtain ⟨hlt, h60⟩ := hlt
      obtain ⟨x, hx⟩ : ∃ x, xs[i]? = some x := ⟨_, List.getElem?_eq_getElem hlt⟩
      obtain ⟨ad, rfl, c0, c1, c2⟩ := HA.out.cells HD.out.kin.below hx
      have hi0 : (0 : Int) ≤ (i : Int) := by omega
      have hi1 : (i : Int) < (xs.length : Int) := by omega
      have hi2 : (i : Int) < 60 := by omega
      have HGX := Lib.hid (HG.out x (List.mem_of_getElem? hx))
      have K4 : Hid (Rnd w (wr.alloc (.cells #[.int .i64 x.kind, .int .i64 x.id, .int .i64 x.other] 29)) q b o wr.heap.size x T T) := Lib.hid ⟨Duo.on ((Below.refl _ _).alloc (Nat.le_refl _) _) HD.out, KActBlk.new wr x, HD.out.kin.below.size⟩
      clear HD hx
      go_upto_region 9 with fail
      obtain ⟨U, hU⟩ : ∃ U, U = wr.heap.size := ⟨_, rfl⟩
      rw [← hU] at K4 ⊢
      have ck := K4.out.blk.cells.1
      go_upto_if 32 with fail
      clear ck c0 c1 c2
      generalize wr.alloc (.cells #[.int .i64 x.kind, .int .i64 x.id, .int .i64 x.other] 29) = wA at K4 ⊢
      clear hU
      go_cut [] (fun wx => ∃ T', Good T' ∧ T'.length ≤ 16 ∧ Rnd w wx q b o U x T' T')
      case first => as_aux_lemma =>
        obtain ⟨x1, x2⟩ := K4.out.cells
        have HSS : Hid (∀ W : World, ∀ T R, Rnd w W q b o U x T R → W.cell? ⟨U, 1, none⟩ = some (.int .i64 x.id) ∧ W.cell? ⟨U, 2, none⟩ = some (.int .i64 x.other)) := Lib.hid fun W T R h => h.cells
        have k4 := K4.out
        clear K4
        by_cases hk : x.kind = 4
        · have e1 : (x.kind == 4) = true := by simpa using hk
          obtain ⟨m, hm⟩ : ∃ m, dropErr T x.id = m := ⟨_, rfl⟩
          have hm14 : m ≤ 14 := by rw [← hm]; exact dropErr_le _ _
          obtain ⟨T', hT'⟩ : ∃ T', dropped T x.id = T' := ⟨_, rfl⟩
          have hgo : Good T' := by rw [← hT']; exact HT.out.dropped x.id
          have hfw : T'.length ≤ 16 := by rw [← hT']; exact dropped_len HTL.out x.id
          have HDR : Hid (∀ W, Rnd w W q b o U x T T → Calls Tryd.prog 10 #[.pointer (some ⟨q, 0, none⟩), .int .i64 x.id] W fun e w' => e = .returned (errV s m) ∧ Rnd w w' q b o U x T' T) := Lib.hid fun W h => by rw [← hm, ← hT']; exact h.drop_c HS.out HGX.out
          have HRR : Hid (∀ W, Rnd w W q b o U x T' T → Calls Tryd.prog 11 #[.pointer (some ⟨o, 0, none⟩), .int .i64 x.id] W fun e w' => e = .returned (.int .i64 (m : Nat)) ∧ Rnd w w' q b o U x T' T') := Lib.hid fun W h => by rw [← hm, ← hT']; rw [← hT'] at h; exact h.rdrop_c HT.out HTL.out
          have mm : ((m : Int) != (m : Int)) = false := by simp
          clear hm hT' hk
          go_wp2_with fail
          go_region_held3 (fun W => W.cell? ⟨U, 1, none⟩ = some (.int .i64 x.id) ∧ W.cell? ⟨U, 2, none⟩ = some (.int .i64 x.other))
            (first | (refine HSS.out _ T T ?_; (repeat' (first | (with_reducible assumption) | (with_reducible exact Hid.out (by with_reducible assumption)) | (with_reducible refine Rnd.drewN ?_ _) | (with_reducible refine Rnd.drew ?_) | (with_reducible refine Rnd.on (by with_reducible assumption) ?_))); done) | (refine HSS.out _ T' T ?_; (repeat' (first | (with_reducible assumption) | (with_reducible exact Hid.out (by with_reducible assumption)) | (with_reducible refine Rnd.drewN ?_ _) | (with_reducible refine Rnd.drew ?_) | (with_reducible refine Rnd.on (by with_reducible assumption) ?_))); done) | (refine HSS.out _ T' T' ?_; (repeat' (first | (with_reducible assumption) | (with_reducible exact Hid.out (by with_reducible assumption)) | (with_reducible refine Rnd.drewN ?_ _) | (with_reducible refine Rnd.drew ?_) | (with_reducible refine Rnd.on (by with_reducible assumption) ?_))); done))
            (first
              | (go_at_call 10; (with_reducible refine (HDR.out _ (by (repeat' (first | (with_reducible assumption) | (with_reducible exact Hid.out (by with_reducible assumption)) | (with_reducible refine Rnd.drewN ?_ _) | (with_reducible refine Rnd.drew ?_) | (with_reducible refine Rnd.on (by with_reducible assumption) ?_))))).mono ?_); rintro e w5 ⟨rfl, k5⟩)
              | (go_at_call 9; (with_reducible refine (Rnd.kind_c (T := T') (R := T) (by (repeat' (first | (with_reducible assumption) | (with_reducible exact Hid.out (by with_reducible assumption)) | (with_reducible refine Rnd.drewN ?_ _) | (with_reducible refine Rnd.drew ?_) | (with_reducible refine Rnd.on (by with_reducible assumption) ?_)))) HS.out m hm14).mono ?_); rintro e w6 ⟨rfl, k6⟩)
              | (go_at_call 11; (with_reducible refine (HRR.out _ (by (repeat' (first | (with_reducible assumption) | (with_reducible exact Hid.out (by with_reducible assumption)) | (with_reducible refine Rnd.drewN ?_ _) | (with_reducible refine Rnd.drew ?_) | (with_reducible refine Rnd.on (by with_reducible assumption) ?_))))).mono ?_); rintro e w7 ⟨rfl, k7⟩))
          all_goals go_wp2_with fail
          all_goals go_meet
          all_goals exact ⟨T', hgo, hfw, by (repeat' (first | (with_reducible assumption) | (with_reducible exact Hid.out (by with_reducible assumption)) | (with_reducible refine Rnd.drewN ?_ _) | (with_reducible refine Rnd.drew ?_) | (with_reducible refine Rnd.on (by with_reducible assumption) ?_)))⟩
        · have e1 : (x.kind == 4) = false := by simpa using hk
          obtain ⟨m, hm⟩ : ∃ m, addErr T x.id x.other = m := ⟨_, rfl⟩
          have hm14 : m ≤ 14 := by rw [← hm]; exact addErr_le _ _ _
          obtain ⟨T', hT'⟩ : ∃ T', added T x.id x.other = T' := ⟨_, rfl⟩
          have hgo : Good T' := by rw [← hT']; exact HT.out.added x.id x.other
          have hfw : T'.length ≤ 16 := by rw [← hT']; exact added_len HTL.out x.id x.other
          have HDR : Hid (∀ W, Rnd w W q b o U x T T → Calls Tryd.prog 12 #[.pointer (some ⟨q, 0, none⟩), .int .i64 x.id, .int .i64 x.other] W fun e w' => e = .returned (errV s m) ∧ Rnd w w' q b o U x T' T) := Lib.hid fun W h => by rw [← hm, ← hT']; exact h.add_c HS.out HGX.out
          have HRR : Hid (∀ W, Rnd w W q b o U x T' T → Calls Tryd.prog 13 #[.pointer (some ⟨o, 0, none⟩), .int .i64 x.id, .int .i64 x.other] W fun e w' => e = .returned (.int .i64 (m : Nat)) ∧ Rnd w w' q b o U x T' T') := Lib.hid fun W h => by rw [← hm, ← hT']; rw [← hT'] at h; exact h.radd_c HT.out HTL.out
          have mm : ((m : Int) != (m : Int)) = false := by simp
          clear hm hT' hk
          go_wp2_with fail
          go_region_held3 (fun W => W.cell? ⟨U, 1, none⟩ = some (.int .i64 x.id) ∧ W.cell? ⟨U, 2, none⟩ = some (.int .i64 x.other))
            (first | (refine HSS.out _ T T ?_; (repeat' (first | (with_reducible assumption) | (with_reducible exact Hid.out (by with_reducible assumption)) | (with_reducible refine Rnd.drewN ?_ _) | (with_reducible refine Rnd.drew ?_) | (with_reducible refine Rnd.on (by with_reducible assumption) ?_))); done) | (refine HSS.out _ T' T ?_; (repeat' (first | (with_reducible assumption) | (with_reducible exact Hid.out (by with_reducible assumption)) | (with_reducible refine Rnd.drewN ?_ _) | (with_reducible refine Rnd.drew ?_) | (with_reducible refine Rnd.on (by with_reducible assumption) ?_))); done) | (refine HSS.out _ T' T' ?_; (repeat' (first | (with_reducible assumption) | (with_reducible exact Hid.out (by with_reducible assumption)) | (with_reducible refine Rnd.drewN ?_ _) | (with_reducible refine Rnd.drew ?_) | (with_reducible refine Rnd.on (by with_reducible assumption) ?_))); done))
            (first
              | (go_at_call 12; (with_reducible refine (HDR.out _ (by (repeat' (first | (with_reducible assumption) | (with_reducible exact Hid.out (by with_reducible assumption)) | (with_reducible refine Rnd.drewN ?_ _) | (with_reducible refine Rnd.drew ?_) | (with_reducible refine Rnd.on (by with_reducible assumption) ?_))))).mono ?_); rintro e w5 ⟨rfl, k5⟩)
              | (go_at_call 9; (with_reducible refine (Rnd.kind_c (T := T') (R := T) (by (repeat' (first | (with_reducible assumption) | (with_reducible exact Hid.out (by with_reducible assumption)) | (with_reducible refine Rnd.drewN ?_ _) | (with_reducible refine Rnd.drew ?_) | (with_reducible refine Rnd.on (by with_reducible assumption) ?_)))) HS.out m hm14).mono ?_); rintro e w6 ⟨rfl, k6⟩)
              | (go_at_call 13; (with_reducible refine (HRR.out _ (by (repeat' (first | (with_reducible assumption) | (with_reducible exact Hid.out (by with_reducible assumption)) | (with_reducible refine Rnd.drewN ?_ _) | (with_reducible refine Rnd.drew ?_) | (with_reducible refine Rnd.on (by with_reducible assumption) ?_))))).mono ?_); rintro e w7 ⟨rfl, k7⟩))
          all_goals go_wp2_with fail
          all_goals go_meet
          all_goals exact ⟨T', hgo, hfw, by (repeat' (first | (with_reducible assumption) | (with_reducible exact Hid.out (by with_reducible assumption)) | (with_reducible refine Rnd.drewN ?_ _) | (with_reducible refine Rnd.drew ?_) | (with_reducible refine Rnd.on (by with_reducible assumption) ?_)))⟩
      case rest =>
      obtain ⟨T', hgo, hfw, k5⟩ := hcut
      have HGO := Lib.hid hgo; have HFW := Lib.hid hfw; have K5 := Lib.hid k5
      clear hgo hfw k5 K4 HT HTL
      have hpv : -9223372036854775808 ≤ x.id ∧ x.id ≤ 9223372036854775807 := HGX.out.2.1
      have hpo : -9223372036854775808 ≤ x.other ∧ x.other ≤ 9223372036854775807 := HGX.out.2.2
      obtain ⟨x1, x2⟩ := K5.out.cells
      have HRI := Lib.hid (ris_c o T' x.id wc K5.out.duo.ref HGO.out)
      go_wp2_with fail
      refine HRI.out.mono ?_
      rintro e wc ⟨rfl, rfl⟩
      obtain ⟨P, hP⟩ : ∃ P, (up T' x.id).getD 0 = P := ⟨_, rfl⟩
      have HP := Lib.hid hP
      clear hP
      obtain ⟨bI, hbI⟩ : ∃ bI, (up T' x.id).isSome = bI := ⟨_, rfl⟩
      have HBI := Lib.hid hbI
      rw [hbI]
      clear hbI HRI
      go_upto_if 60 with fail
      go_cut [7] (fun pv wx => pv = .int .i64 P ∧ Rnd w wx q b o U x T' T')
      case first => as_aux_lemma =>
        cases bI with
        | false =>
          have hP0 : Hid (P = 0) := Lib.hid (by
            rw [← HP.out]
            cases e : up T' x.id with
            | none => rfl
            | some p => have := HBI.out; rw [e] at this; cases this)
          go_wp2_with fail
          go_meet
          exact ⟨ret_v hP0.out.symm, K5.out⟩
        | true =>
          have hin := HBI.out
          obtain ⟨p, hp⟩ := Option.isSome_iff_exists.1 hin
          have hbo := HGO.out.bounds hp
          have j0 : (0 : Int) ≤ x.id := by omega
          have j1 : x.id < 1000 := by omega
          have hcell : wc.cell? ⟨o, x.id.toNat, none⟩ = some (.int .i64 P) := by
            have h1 := (K5.out.duo.ref.cell (i := x.id.toNat) (by omega)).1
            have h2 : refF T' x.id.toNat = P := by
              rw [refF_getD (by rw [show ((x.id.toNat : Nat) : Int) = x.id by omega]; exact hin), show ((x.id.toNat : Nat) : Int) = x.id by omega, HP.out]
            rw [h2] at h1
            exact h1
          clear hin hp hbo hpv hpo
          go_wp2_with fail
          go_quiet (fail)
          go_wp2_with fail
          go_meet
          exact ⟨rfl, by have := K5.out; (repeat' (first | (with_reducible assumption) | (with_reducible exact Hid.out (by with_reducible assumption)) | (with_reducible refine Rnd.drewN ?_ _) | (with_reducible refine Rnd.drew ?_) | (with_reducible refine Rnd.on (by with_reducible assumption) ?_)))⟩
      case rest =>
      obtain ⟨rfl, k6⟩ := hcut
      have K6 := Lib.hid k6
      clear k6 K5 x1 x2
      obtain ⟨x1, x2⟩ := K6.out.cells
      have hlw := way_few T' x.id HFW.out
      obtain ⟨L, hL⟩ : ∃ L, way T' x.id = L := ⟨_, rfl⟩
      have HL := Lib.hid hL
      rw [hL] at hlw
      clear hL
      go_wp2_with fail
      refine (rpath_c o T' x.id _ K6.out.duo.ref HGO.out HFW.out).mono ?_
      rw [HL.out]
      rintro e w8 ⟨v8, rfl, ho8, b8⟩
      have K8 := Lib.hid (K6.out.on b8)
      have HR8 := Lib.hid ho8.ri
      obtain ⟨a8, c8, rfl, _⟩ := ho8.ri
      clear ho8 b8 K6 x1 x2
      obtain ⟨x1, x2⟩ := K8.out.cells
      go_wp2_with fail
      obtain ⟨bC, hbC⟩ : ∃ bC, L.contains x.other = bC := ⟨_, rfl⟩
      have hbI : bC = true → bI = true := fun h => by
        rw [← HBI.out]
        have h1 : x.other ∈ way T' x.id := by rw [HL.out]; simpa [h] using hbC
        cases e : up T' x.id with
        | none => rw [way_none e] at h1; cases h1
        | some p => rfl
      have HBC := Lib.hid hbC
      clear hbC
      obtain ⟨dp, hdp⟩ : ∃ dp, L.length - 1 = dp := ⟨_, rfl⟩
      have HMEQ : Hid (((dp : Nat) : Int) = max (IntKind.i64.wrap ((L.length : Int) - 1)) 0) := Lib.hid (by rw [IntWalk.i64_in _ (by omega)]; omega)
      have HMX : Hid ((((dp : Nat) : Int) != max (IntKind.i64.wrap ((L.length : Int) - 1)) 0) = false) := Lib.hid (by rw [IntWalk.i64_in _ (by omega), bne_eq_false_iff_eq]; omega)
      have hdp2 : dp ≤ 16 := by omega
      have HDP := Lib.hid hdp
      clear hdp
      have bb : (bI != bI) = false := by simp
      have pp : (P != P) = false := by simp
      -- what each call answers
      have HSS : Hid (∀ W : World, Rnd w W q b o U x T' T' → W.cell? ⟨U, 1, none⟩ = some (.int .i64 x.id) ∧ W.cell? ⟨U, 2, none⟩ = some (.int .i64 x.other)) := Lib.hid fun W h => h.cells
      have HIs : Hid (∀ W : World, Rnd w W q b o U x T' T' → Calls Tryd.prog 16 #[.pointer (some ⟨q, 0, none⟩), .int .i64 x.id] W fun e w' => e = .returned (.bool bI) ∧ w' = W) := Lib.hid fun W h => by rw [← HBI.out]; exact is_c q b T' x.id W h.duo.kin.tree hpv.1 hpv.2
      have HRis : Hid (∀ W : World, Rnd w W q b o U x T' T' → Calls Tryd.prog 14 #[.pointer (some ⟨o, 0, none⟩), .int .i64 x.id] W fun e w' => e = .returned (.bool bI) ∧ w' = W) := Lib.hid fun W h => by rw [← HBI.out]; exact ris_c o T' x.id W h.duo.ref HGO.out
      have HPar : Hid (∀ W : World, Rnd w W q b o U x T' T' → Calls Tryd.prog 17 #[.pointer (some ⟨q, 0, none⟩), .int .i64 x.id] W fun e w' => e = .returned (.int .i64 P) ∧ w' = W) := Lib.hid fun W h => by rw [← HP.out]; exact parent_c q b T' x.id W h.duo.kin.tree hpv.1 hpv.2
      have HBel : Hid (∀ W : World, Rnd w W q b o U x T' T' → Calls Tryd.prog 18 #[.pointer (some ⟨q, 0, none⟩), .int .i64 x.id, .int .i64 x.other] W fun e w' => e = .returned (.bool bC) ∧ Below W.heap.size W w') := Lib.hid fun W h => by rw [← HBC.out, ← HL.out]; exact below_c q b T' x.id x.other W h.duo.kin.tree hpv.1 hpv.2
      have HRbe : Hid (∀ W : World, Rnd w W q b o U x T' T' → Calls Tryd.prog 19 #[.pointer (some ⟨o, 0, none⟩), .int .i64 x.id, .int .i64 x.other] W fun e w' => e = .returned (.bool bC) ∧ Below W.heap.size W w') := Lib.hid fun W h => by rw [← HBC.out, ← HL.out]; exact rbelow_c o T' x.id x.other W h.duo.ref HGO.out HFW.out
      have HPat : Hid (∀ W : World, Rnd w W q b o U x T' T' → Calls Tryd.prog 21 #[.pointer (some ⟨q, 0, none⟩), .int .i64 x.id] W fun e w' => ∃ a c, e = .returned (.slice a L.length c) ∧ RI w' (.slice a L.length c) L ∧ Below W.heap.size W w') := Lib.hid fun W h => by
        rw [← HL.out]
        refine (way_c q b T' x.id W h.duo.kin.tree hpv.1 hpv.2).mono ?_
        rintro e w' ⟨v, rfl, ho, hb⟩
        obtain ⟨a, c, rfl⟩ := ho.sl
        exact ⟨a, c, rfl, ho.ri, hb⟩
      obtain ⟨C, hC⟩ : ∃ C, childs T' x.other = C := ⟨_, rfl⟩
      have hCl : C.length ≤ 16 := by
        rw [← hC]; unfold childs; split
        · exact kids_few T' HGO.out HFW.out x.other
        · simp
      have HC := Lib.hid hC
      clear hC
      have HChi : Hid (∀ W : World, Rnd w W q b o U x T' T' → Calls Tryd.prog 22 #[.pointer (some ⟨q, 0, none⟩), .int .i64 x.other] W fun e w' => ∃ a c, e = .returned (.slice a C.length c) ∧ RI w' (.slice a C.length c) C ∧ Below W.heap.size W w') := Lib.hid fun W h => by
        rw [← HC.out]
        refine (kids_c q b T' x.other W h.duo.kin.tree hpo.1 hpo.2).mono ?_
        rintro e w' ⟨v, rfl, ho, hb⟩
        obtain ⟨a, c, rfl⟩ := ho.sl
        exact ⟨a, c, rfl, ho.ri, hb⟩
      have HRch : Hid (∀ W : World, Rnd w W q b o U x T' T' → Calls Tryd.prog 23 #[.pointer (some ⟨o, 0, none⟩), .int .i64 x.other] W fun e w' => ∃ a c, e = .returned (.slice a C.length c) ∧ RI w' (.slice a C.length c) C ∧ Below W.heap.size W w') := Lib.hid fun W h => by
        rw [← HC.out]
        refine (rchildren_c o T' x.other W h.duo.ref HGO.out).mono ?_
        rintro e w' ⟨v, rfl, ho, hb⟩
        obtain ⟨a, c, rfl⟩ := ho.sl
        exact ⟨a, c, rfl, ho.ri, hb⟩
      have HDep : Hid (∀ W : World, Rnd w W q b o U x T' T' → Calls Tryd.prog 24 #[.pointer (some ⟨q, 0, none⟩), .int .i64 x.id] W fun e w' => e = .returned (.int .i64 (dp : Nat)) ∧ Below W.heap.size W w') := Lib.hid fun W h => by rw [← HDP.out, ← HL.out]; exact depth_c q b T' x.id W h.duo.kin.tree hpv.1 hpv.2
      have HInt : Hid (∀ (W : World) (v1 v2 : Value) (M : List Int), M.length ≤ 100 → RI W v1 M → RI W v2 M → Calls Tryd.prog 20 #[v1, v2] W fun e w' => e = .returned (.bool true) ∧ Below W.heap.size W w') := Lib.hid fun W v1 v2 M hM h1 h2 => by
        have := ints_c v1 v2 M M W h1 h2 (by omega) (by omega)
        simpa using this
      have k8 := K8.out
      have r8 := HR8.out
      have hLl : L.length ≤ 100 := by omega
      have hCl2 : C.length ≤ 100 := by omega
      clear K8 HR8 x1 x2
      go_cut [140] (fun cc wx => cc = .bool false ∧ Rnd w wx q b o U x T' T')
      case first => as_aux_lemma =>
        simp only [List.append_eq, List.cons_append, List.nil_append]
        cases bC with
        | true => as_aux_lemma =>
          obtain rfl : bI = true := hbI rfl
          refine wp_region_held_drew (S := fun W => W.cell? ⟨U, 1, none⟩ = some (.int .i64 x.id) ∧ W.cell? ⟨U, 2, none⟩ = some (.int .i64 x.other)) (by kernel_rfl) ?_ (fun hHeld => ?_)
          · exact HSS.out _ (by (repeat' (first | (with_reducible assumption) | (with_reducible exact Hid.out (by with_reducible assumption)) | (with_reducible refine Rnd.drewN ?_ _) | (with_reducible refine Rnd.drew ?_) | (with_reducible refine Rnd.on (by with_reducible assumption) ?_))))
          refine rg_take 0 (some 71) (.pointer (some ⟨q, 0, none⟩)) (by kernel_rfl) (by kernel_rfl) (by kernel_rfl) (fun _ _ _ h => h) (by kernel_rfl) (by kernel_rfl) (by intro w' hSw op_ ho; obtain ⟨q0, q1⟩ := hSw; simp only [List.getElem?_toArray, List.getElem?_cons_zero, Option.some.injEq] at ho; subst ho; go_simp; (try simp [HMX.out]); (try exact HMEQ.out)) (by assumption) ?_
          try simp only [Act.put, List.setIfInBounds_toArray, List.set_cons_zero, List.set_cons_succ]
          refine rg_take 1 (some 72) (.pointer (some ⟨U, 1, none⟩)) (by kernel_rfl) (by kernel_rfl) (by kernel_rfl) (fun _ _ _ h => h) (by kernel_rfl) (by kernel_rfl) (by intro w' hSw op_ ho; obtain ⟨q0, q1⟩ := hSw; simp only [List.getElem?_toArray, List.getElem?_cons_succ, List.getElem?_cons_zero, Option.some.injEq] at ho; subst ho; go_simp; (try simp [HMX.out]); (try exact HMEQ.out)) (by assumption) ?_
          try simp only [Act.put, List.setIfInBounds_toArray, List.set_cons_zero, List.set_cons_succ]
          refine rg_take 2 (some 73) (.int .i64 x.id) (by kernel_rfl) (by kernel_rfl) (by kernel_rfl) (fun _ _ _ h => h) (by kernel_rfl) (by kernel_rfl) (by intro w' hSw op_ ho; obtain ⟨q0, q1⟩ := hSw; simp only [List.getElem?_toArray, List.getElem?_cons_succ, List.getElem?_cons_zero, Option.some.injEq] at ho; subst ho; go_simp; (try simp [HMX.out]); (try exact HMEQ.out)) (by assumption) ?_
          try simp only [Act.put, List.setIfInBounds_toArray, List.set_cons_zero, List.set_cons_succ]
          refine rg_take 4 (some 75) (.pointer (some ⟨o, 0, none⟩)) (by kernel_rfl) (by kernel_rfl) (by kernel_rfl) (fun _ _ _ h => h) (by kernel_rfl) (by kernel_rfl) (by intro w' hSw op_ ho; obtain ⟨q0, q1⟩ := hSw; simp only [List.getElem?_toArray, List.getElem?_cons_succ, List.getElem?_cons_zero, Option.some.injEq] at ho; subst ho; go_simp; (try simp [HMX.out]); (try exact HMEQ.out)) (by assumption) ?_
          try simp only [Act.put, List.setIfInBounds_toArray, List.set_cons_zero, List.set_cons_succ]
          refine rg_take 5 (some 76) (.pointer (some ⟨U, 1, none⟩)) (by kernel_rfl) (by kernel_rfl) (by kernel_rfl) (fun _ _ _ h => h) (by kernel_rfl) (by kernel_rfl) (by intro w' hSw op_ ho; obtain ⟨q0, q1⟩ := hSw; simp only [List.getElem?_toArray, List.getElem?_cons_succ, List.getElem?_cons_zero, Option.some.injEq] at ho; subst ho; go_simp; (try simp [HMX.out]); (try exact HMEQ.out)) (by assumption) ?_
          try simp only [Act.put, List.setIfInBounds_toArray, List.set_cons_zero, List.set_cons_succ]
          refine rg_take 6 (some 77) (.int .i64 x.id) (by kernel_rfl) (by kernel_rfl) (by kernel_rfl) (fun _ _ _ h => h) (by kernel_rfl) (by kernel_rfl) (by intro w' hSw op_ ho; obtain ⟨q0, q1⟩ := hSw; simp only [List.getElem?_toArray, List.getElem?_cons_succ, List.getElem?_cons_zero, Option.some.injEq] at ho; subst ho; go_simp; (try simp [HMX.out]); (try exact HMEQ.out)) (by assumption) ?_
          try simp only [Act.put, List.setIfInBounds_toArray, List.set_cons_zero, List.set_cons_succ]
          refine rg_one 3 (by kernel_rfl) (by kernel_rfl) (fun op_ ho K hK => ?_)
          simp only [List.getElem?_toArray, List.getElem?_cons_succ, List.getElem?_cons_zero, Option.some.injEq] at ho
          subst ho
          go_simp
          go_at_call 16
          refine (HIs.out _ (by (repeat' (first | (with_reducible assumption) | (with_reducible exact Hid.out (by with_reducible assumption)) | (with_reducible refine Rnd.drewN ?_ _) | (with_reducible refine Rnd.drew ?_) | (with_reducible refine Rnd.on (by with_reducible assumption) ?_))))).mono ?_
          rintro e wa ⟨rfl, rfl⟩
          go_wp2_with fail
          refine hK.out _ _ (HSS.out _ (by (repeat' (first | (with_reducible assumption) | (with_reducible exact Hid.out (by with_reducible assumption)) | (with_reducible refine Rnd.drewN ?_ _) | (with_reducible refine Rnd.drew ?_) | (with_reducible refine Rnd.on (by with_reducible assumption) ?_))))) (fun hHeld => ?_)
          clear hK
          try simp only [Act.put, List.setIfInBounds_toArray, List.set_cons_zero, List.set_cons_succ]
          refine rg_one 7 (by kernel_rfl) (by kernel_rfl) (fun op_ ho K hK => ?_)
          simp only [List.getElem?_toArray, List.getElem?_cons_succ, List.getElem?_cons_zero, Option.some.injEq] at ho
          subst ho
          go_simp
          go_at_call 14
          refine (HRis.out _ (by (repeat' (first | (with_reducible assumption) | (with_reducible exact Hid.out (by with_reducible assumption)) | (with_reducible refine Rnd.drewN ?_ _) | (with_reducible refine Rnd.drew ?_) | (with_reducible refine Rnd.on (by with_reducible assumption) ?_))))).mono ?_
          rintro e wa ⟨rfl, rfl⟩
          go_wp2_with fail
          refine hK.out _ _ (HSS.out _ (by (repeat' (first | (with_reducible assumption) | (with_reducible exact Hid.out (by with_reducible assumption)) | (with_reducible refine Rnd.drewN ?_ _) | (with_reducible refine Rnd.drew ?_) | (with_reducible refine Rnd.on (by with_reducible assumption) ?_))))) (fun hHeld => ?_)
          clear hK
          try simp only [Act.put, List.setIfInBounds_toArray, List.set_cons_zero, List.set_cons_succ]
          refine rg_take 8 (some 79) (.bool false) (by kernel_rfl) (by kernel_rfl) (by kernel_rfl) (fun _ _ _ h => h) (by kernel_rfl) (by kernel_rfl) (by intro w' hSw op_ ho; obtain ⟨q0, q1⟩ := hSw; simp only [List.getElem?_toArray, List.getElem?_cons_succ, List.getElem?_cons_zero, Option.some.injEq] at ho; subst ho; go_simp; (try simp [HMX.out]); (try exact HMEQ.out)) (by assumption) ?_
          try simp only [Act.put, List.setIfInBounds_toArray, List.set_cons_zero, List.set_cons_succ]
          refine rg_take 9 (some 80) (.bool false) (by kernel_rfl) (by kernel_rfl) (by kernel_rfl) (fun _ _ _ h => h) (by kernel_rfl) (by kernel_rfl) (by intro w' hSw op_ ho; obtain ⟨q0, q1⟩ := hSw; simp only [List.getElem?_toArray, List.getElem?_cons_succ, List.getElem?_cons_zero, Option.some.injEq] at ho; subst ho; go_simp; (try simp [HMX.out]); (try exact HMEQ.out)) (by assumption) ?_
          try simp only [Act.put, List.setIfInBounds_toArray, List.set_cons_zero, List.set_cons_succ]
          refine rg_take 10 (some 81) (.pointer (some ⟨q, 0, none⟩)) (by kernel_rfl) (by kernel_rfl) (by kernel_rfl) (fun _ _ _ h => h) (by kernel_rfl) (by kernel_rfl) (by intro w' hSw op_ ho; obtain ⟨q0, q1⟩ := hSw; simp only [List.getElem?_toArray, List.getElem?_cons_succ, List.getElem?_cons_zero, Option.some.injEq] at ho; subst ho; go_simp; (try simp [HMX.out]); (try exact HMEQ.out)) (by assumption) ?_
          try simp only [Act.put, List.setIfInBounds_toArray, List.set_cons_zero, List.set_cons_succ]
          refine rg_take 11 (some 82) (.pointer (some ⟨U, 1, none⟩)) (by kernel_rfl) (by kernel_rfl) (by kernel_rfl) (fun _ _ _ h => h) (by kernel_rfl) (by kernel_rfl) (by intro w' hSw op_ ho; obtain ⟨q0, q1⟩ := hSw; simp only [List.getElem?_toArray, List.getElem?_cons_succ, List.getElem?_cons_zero, Option.some.injEq] at ho; subst ho; go_simp; (try simp [HMX.out]); (try exact HMEQ.out)) (by assumption) ?_
          try simp only [Act.put, List.setIfInBounds_toArray, List.set_cons_zero, List.set_cons_succ]
          refine rg_take 12 (some 83) (.int .i64 x.id) (by kernel_rfl) (by kernel_rfl) (by kernel_rfl) (fun _ _ _ h => h) (by kernel_rfl) (by kernel_rfl) (by intro w' hSw op_ ho; obtain ⟨q0, q1⟩ := hSw; simp only [List.getElem?_toArray, List.getElem?_cons_succ, List.getElem?_cons_zero, Option.some.injEq] at ho; subst ho; go_simp; (try simp [HMX.out]); (try exact HMEQ.out)) (by assumption) ?_
          try simp only [Act.put, List.setIfInBounds_toArray, List.set_cons_zero, List.set_cons_succ]
          refine rg_take 14 (some 85) (.int .i64 P) (by kernel_rfl) (by kernel_rfl) (by kernel_rfl) (fun _ _ _ h => h) (by kernel_rfl) (by kernel_rfl) (by intro w' hSw op_ ho; obtain ⟨q0, q1⟩ := hSw; simp only [List.getElem?_toArray, List.getElem?_cons_succ, List.getElem?_cons_zero, Option.some.injEq] at ho; subst ho; go_simp; (try simp [HMX.out]); (try exact HMEQ.out)) (by assumption) ?_
          try simp only [Act.put, List.setIfInBounds_toArray, List.set_cons_zero, List.set_cons_succ]
          refine rg_one 13 (by kernel_rfl) (by kernel_rfl) (fun op_ ho K hK => ?_)
          simp only [List.getElem?_toArray, List.getElem?_cons_succ, List.getElem?_cons_zero, Option.some.injEq] at ho
          subst ho
          go_simp
          go_at_call 17
          refine (HPar.out _ (by (repeat' (first | (with_reducible assumption) | (with_reducible exact Hid.out (by with_reducible assumption)) | (with_reducible refine Rnd.drewN ?_ _) | (with_reducible refine Rnd.drew ?_) | (with_reducible refine Rnd.on (by with_reducible assumption) ?_))))).mono ?_
          rintro e wa ⟨rfl, rfl⟩
          go_wp2_with fail
          refine hK.out _ _ (HSS.out _ (by (repeat' (first | (with_reducible assumption) | (with_reducible exact Hid.out (by with_reducible assumption)) | (with_reducible refine Rnd.drewN ?_ _) | (with_reducible refine Rnd.drew ?_) | (with_reducible refine Rnd.on (by with_reducible assumption) ?_))))) (fun hHeld => ?_)
          clear hK
          try simp only [Act.put, List.setIfInBounds_toArray, List.set_cons_zero, List.set_cons_succ]
          refine rg_take 15 (some 86) (.bool false) (by kernel_rfl) (by kernel_rfl) (by kernel_rfl) (fun _ _ _ h => h) (by kernel_rfl) (by kernel_rfl) (by intro w' hSw op_ ho; obtain ⟨q0, q1⟩ := hSw; simp only [List.getElem?_toArray, List.getElem?_cons_succ, List.getElem?_cons_zero, Option.some.injEq] at ho; subst ho; go_simp; (try simp [HMX.out]); (try exact HMEQ.out)) (by assumption) ?_
          try simp only [Act.put, List.setIfInBounds_toArray, List.set_cons_zero, List.set_cons_succ]
          refine rg_take 16 (some 87) (.bool false) (by kernel_rfl) (by kernel_rfl) (by kernel_rfl) (fun _ _ _ h => h) (by kernel_rfl) (by kernel_rfl) (by intro w' hSw op_ ho; obtain ⟨q0, q1⟩ := hSw; simp only [List.getElem?_toArray, List.getElem?_cons_succ, List.getElem?_cons_zero, Option.some.injEq] at ho; subst ho; go_simp; (try simp [HMX.out]); (try exact HMEQ.out)) (by assumption) ?_
          try simp only [Act.put, List.setIfInBounds_toArray, List.set_cons_zero, List.set_cons_succ]
          refine rg_take 17 (some 88) (.bool false) (by kernel_rfl) (by kernel_rfl) (by kernel_rfl) (fun _ _ _ h => h) (by kernel_rfl) (by kernel_rfl) (by intro w' hSw op_ ho; obtain ⟨q0, q1⟩ := hSw; simp only [List.getElem?_toArray, List.getElem?_cons_succ, List.getElem?_cons_zero, Option.some.injEq] at ho; subst ho; go_simp; (try simp [HMX.out]); (try exact HMEQ.out)) (by assumption) ?_
          try simp only [Act.put, List.setIfInBounds_toArray, List.set_cons_zero, List.set_cons_succ]
          refine rg_take 18 (some 89) (.pointer (some ⟨q, 0, none⟩)) (by kernel_rfl) (by kernel_rfl) (by kernel_rfl) (fun _ _ _ h => h) (by kernel_rfl) (by kernel_rfl) (by intro w' hSw op_ ho; obtain ⟨q0, q1⟩ := hSw; simp only [List.getElem?_toArray, List.getElem?_cons_succ, List.getElem?_cons_zero, Option.some.injEq] at ho; subst ho; go_simp; (try simp [HMX.out]); (try exact HMEQ.out)) (by assumption) ?_
          try simp only [Act.put, List.setIfInBounds_toArray, List.set_cons_zero, List.set_cons_succ]
          refine rg_take 19 (some 90) (.pointer (some ⟨U, 1, none⟩)) (by kernel_rfl) (by kernel_rfl) (by kernel_rfl) (fun _ _ _ h => h) (by kernel_rfl) (by kernel_rfl) (by intro w' hSw op_ ho; obtain ⟨q0, q1⟩ := hSw; simp only [List.getElem?_toArray, List.getElem?_cons_succ, List.getElem?_cons_zero, Option.some.injEq] at ho; subst ho; go_simp; (try simp [HMX.out]); (try exact HMEQ.out)) (by assumption) ?_
          try simp only [Act.put, List.setIfInBounds_toArray, List.set_cons_zero, List.set_cons_succ]
          refine rg_take 20 (some 91) (.int .i64 x.id) (by kernel_rfl) (by kernel_rfl) (by kernel_rfl) (fun _ _ _ h => h) (by kernel_rfl) (by kernel_rfl) (by intro w' hSw op_ ho; obtain ⟨q0, q1⟩ := hSw; simp only [List.getElem?_toArray, List.getElem?_cons_succ, List.getElem?_cons_zero, Option.some.injEq] at ho; subst ho; go_simp; (try simp [HMX.out]); (try exact HMEQ.out)) (by assumption) ?_
          try simp only [Act.put, List.setIfInBounds_toArray, List.set_cons_zero, List.set_cons_succ]
          refine rg_take 21 (some 92) (.pointer (some ⟨U, 2, none⟩)) (by kernel_rfl) (by kernel_rfl) (by kernel_rfl) (fun _ _ _ h => h) (by kernel_rfl) (by kernel_rfl) (by intro w' hSw op_ ho; obtain ⟨q0, q1⟩ := hSw; simp only [List.getElem?_toArray, List.getElem?_cons_succ, List.getElem?_cons_zero, Option.some.injEq] at ho; subst ho; go_simp; (try simp [HMX.out]); (try exact HMEQ.out)) (by assumption) ?_
          try simp only [Act.put, List.setIfInBounds_toArray, List.set_cons_zero, List.set_cons_succ]
          refine rg_take 22 (some 93) (.int .i64 x.other) (by kernel_rfl) (by kernel_rfl) (by kernel_rfl) (fun _ _ _ h => h) (by kernel_rfl) (by kernel_rfl) (by intro w' hSw op_ ho; obtain ⟨q0, q1⟩ := hSw; simp only [List.getElem?_toArray, List.getElem?_cons_succ, List.getElem?_cons_zero, Option.some.injEq] at ho; subst ho; go_simp; (try simp [HMX.out]); (try exact HMEQ.out)) (by assumption) ?_
          try simp only [Act.put, List.setIfInBounds_toArray, List.set_cons_zero, List.set_cons_succ]
          refine rg_take 24 (some 95) (.pointer (some ⟨o, 0, none⟩)) (by kernel_rfl) (by kernel_rfl) (by kernel_rfl) (fun _ _ _ h => h) (by kernel_rfl) (by kernel_rfl) (by intro w' hSw op_ ho; obtain ⟨q0, q1⟩ := hSw; simp only [List.getElem?_toArray, List.getElem?_cons_succ, List.getElem?_cons_zero, Option.some.injEq] at ho; subst ho; go_simp; (try simp [HMX.out]); (try exact HMEQ.out)) (by assumption) ?_
          try simp only [Act.put, List.setIfInBounds_toArray, List.set_cons_zero, List.set_cons_succ]
          refine rg_take 25 (some 96) (.pointer (some ⟨U, 1, none⟩)) (by kernel_rfl) (by kernel_rfl) (by kernel_rfl) (fun _ _ _ h => h) (by kernel_rfl) (by kernel_rfl) (by intro w' hSw op_ ho; obtain ⟨q0, q1⟩ := hSw; simp only [List.getElem?_toArray, List.getElem?_cons_succ, List.getElem?_cons_zero, Option.some.injEq] at ho; subst ho; go_simp; (try simp [HMX.out]); (try exact HMEQ.out)) (by assumption) ?_
          try simp only [Act.put, List.setIfInBounds_toArray, List.set_cons_zero, List.set_cons_succ]
          refine rg_take 26 (some 97) (.int .i64 x.id) (by kernel_rfl) (by kernel_rfl) (by kernel_rfl) (fun _ _ _ h => h) (by kernel_rfl) (by kernel_rfl) (by intro w' hSw op_ ho; obtain ⟨q0, q1⟩ := hSw; simp only [List.getElem?_toArray, List.getElem?_cons_succ, List.getElem?_cons_zero, Option.some.injEq] at ho; subst ho; go_simp; (try simp [HMX.out]); (try exact HMEQ.out)) (by assumption) ?_
          try simp only [Act.put, List.setIfInBounds_toArray, List.set_cons_zero, List.set_cons_succ]
          refine rg_take 27 (some 98) (.pointer (some ⟨U, 2, none⟩)) (by kernel_rfl) (by kernel_rfl) (by kernel_rfl) (fun _ _ _ h => h) (by kernel_rfl) (by kernel_rfl) (by intro w' hSw op_ ho; obtain ⟨q0, q1⟩ := hSw; simp only [List.getElem?_toArray, List.getElem?_cons_succ, List.getElem?_cons_zero, Option.some.injEq] at ho; subst ho; go_simp; (try simp [HMX.out]); (try exact HMEQ.out)) (by assumption) ?_
          try simp only [Act.put, List.setIfInBounds_toArray, List.set_cons_zero, List.set_cons_succ]
          refine rg_take 28 (some 99) (.int .i64 x.other) (by kernel_rfl) (by kernel_rfl) (by kernel_rfl) (fun _ _ _ h => h) (by kernel_rfl) (by kernel_rfl) (by intro w' hSw op_ ho; obtain ⟨q0, q1⟩ := hSw; simp only [List.getElem?_toArray, List.getElem?_cons_succ, List.getElem?_cons_zero, Option.some.injEq] at ho; subst ho; go_simp; (try simp [HMX.out]); (try exact HMEQ.out)) (by assumption) ?_
          try simp only [Act.put, List.setIfInBounds_toArray, List.set_cons_zero, List.set_cons_succ]
          refine rg_one 23 (by kernel_rfl) (by kernel_rfl) (fun op_ ho K hK => ?_)
          simp only [List.getElem?_toArray, List.getElem?_cons_succ, List.getElem?_cons_zero, Option.some.injEq] at ho
          subst ho
          go_simp
          go_at_call 18
          refine (HBel.out _ (by (repeat' (first | (with_reducible assumption) | (with_reducible exact Hid.out (by with_reducible assumption)) | (with_reducible refine Rnd.drewN ?_ _) | (with_reducible refine Rnd.drew ?_) | (with_reducible refine Rnd.on (by with_reducible assumption) ?_))))).mono ?_
          rintro e wb ⟨rfl, bb1⟩; have r9 : RI wb (.slice a8 L.length c8) L := RI.on (by (repeat' (first | (with_reducible assumption) | (with_reducible exact Hid.out (by with_reducible assumption)) | (with_reducible refine RI.drewN ?_ _) | (with_reducible refine RI.drew ?_)))) bb1; have k9 : Rnd w wb q b o U x T' T' := Rnd.on bb1 (by (repeat' (first | (with_reducible assumption) | (with_reducible exact Hid.out (by with_reducible assumption)) | (with_reducible refine Rnd.drewN ?_ _) | (with_reducible refine Rnd.drew ?_) | (with_reducible refine Rnd.on (by with_reducible assumption) ?_))))
          go_wp2_with fail
          refine hK.out _ _ (HSS.out _ (by (repeat' (first | (with_reducible assumption) | (with_reducible exact Hid.out (by with_reducible assumption)) | (with_reducible refine Rnd.drewN ?_ _) | (with_reducible refine Rnd.drew ?_) | (with_reducible refine Rnd.on (by with_reducible assumption) ?_))))) (fun hHeld => ?_)
          clear hK
          try simp only [Act.put, List.setIfInBounds_toArray, List.set_cons_zero, List.set_cons_succ]
          refine rg_one 29 (by kernel_rfl) (by kernel_rfl) (fun op_ ho K hK => ?_)
          simp only [List.getElem?_toArray, List.getElem?_cons_succ, List.getElem?_cons_zero, Option.some.injEq] at ho
          subst ho
          go_simp
          go_at_call 19
          refine (HRbe.out _ (by (repeat' (first | (with_reducible assumption) | (with_reducible exact Hid.out (by with_reducible assumption)) | (with_reducible refine Rnd.drewN ?_ _) | (with_reducible refine Rnd.drew ?_) | (with_reducible refine Rnd.on (by with_reducible assumption) ?_))))).mono ?_
          rintro e wc1 ⟨rfl, bb2⟩; have r10 : RI wc1 (.slice a8 L.length c8) L := RI.on (by (repeat' (first | (with_reducible assumption) | (with_reducible exact Hid.out (by with_reducible assumption)) | (with_reducible refine RI.drewN ?_ _) | (with_reducible refine RI.drew ?_)))) bb2; have k10 : Rnd w wc1 q b o U x T' T' := Rnd.on bb2 (by (repeat' (first | (with_reducible assumption) | (with_reducible exact Hid.out (by with_reducible assumption)) | (with_reducible refine Rnd.drewN ?_ _) | (with_reducible refine Rnd.drew ?_) | (with_reducible refine Rnd.on (by with_reducible assumption) ?_))))
          go_wp2_with fail
          refine hK.out _ _ (HSS.out _ (by (repeat' (first | (with_reducible assumption) | (with_reducible exact Hid.out (by with_reducible assumption)) | (with_reducible refine Rnd.drewN ?_ _) | (with_reducible refine Rnd.drew ?_) | (with_reducible refine Rnd.on (by with_reducible assumption) ?_))))) (fun hHeld => ?_)
          clear hK
          try simp only [Act.put, List.setIfInBounds_toArray, List.set_cons_zero, List.set_cons_succ]
          refine rg_take 30 (some 101) (.bool true) (by kernel_rfl) (by kernel_rfl) (by kernel_rfl) (fun _ _ _ h => h) (by kernel_rfl) (by kernel_rfl) (by intro w' hSw op_ ho; obtain ⟨q0, q1⟩ := hSw; simp only [List.getElem?_toArray, List.getElem?_cons_succ, List.getElem?_cons_zero, Option.some.injEq] at ho; subst ho; go_simp; (try simp [HMX.out]); (try exact HMEQ.out)) (by assumption) ?_
          try simp only [Act.put, List.setIfInBounds_toArray, List.set_cons_zero, List.set_cons_succ]
          refine rg_take 31 (some 102) (.pointer (some ⟨o, 0, none⟩)) (by kernel_rfl) (by kernel_rfl) (by kernel_rfl) (fun _ _ _ h => h) (by kernel_rfl) (by kernel_rfl) (by intro w' hSw op_ ho; obtain ⟨q0, q1⟩ := hSw; simp only [List.getElem?_toArray, List.getElem?_cons_succ, List.getElem?_cons_zero, Option.some.injEq] at ho; subst ho; go_simp; (try simp [HMX.out]); (try exact HMEQ.out)) (by assumption) ?_
          try simp only [Act.put, List.setIfInBounds_toArray, List.set_cons_zero, List.set_cons_succ]
          refine rg_take 32 (some 103) (.pointer (some ⟨U, 1, none⟩)) (by kernel_rfl) (by kernel_rfl) (by kernel_rfl) (fun _ _ _ h => h) (by kernel_rfl) (by kernel_rfl) (by intro w' hSw op_ ho; obtain ⟨q0, q1⟩ := hSw; simp only [List.getElem?_toArray, List.getElem?_cons_succ, List.getElem?_cons_zero, Option.some.injEq] at ho; subst ho; go_simp; (try simp [HMX.out]); (try exact HMEQ.out)) (by assumption) ?_
          try simp only [Act.put, List.setIfInBounds_toArray, List.set_cons_zero, List.set_cons_succ]
          refine rg_take 33 (some 104) (.int .i64 x.id) (by kernel_rfl) (by kernel_rfl) (by kernel_rfl) (fun _ _ _ h => h) (by kernel_rfl) (by kernel_rfl) (by intro w' hSw op_ ho; obtain ⟨q0, q1⟩ := hSw; simp only [List.getElem?_toArray, List.getElem?_cons_succ, List.getElem?_cons_zero, Option.some.injEq] at ho; subst ho; go_simp; (try simp [HMX.out]); (try exact HMEQ.out)) (by assumption) ?_
          try simp only [Act.put, List.setIfInBounds_toArray, List.set_cons_zero, List.set_cons_succ]
          refine rg_one 34 (by kernel_rfl) (by kernel_rfl) (fun op_ ho K hK => ?_)
          simp only [List.getElem?_toArray, List.getElem?_cons_succ, List.getElem?_cons_zero, Option.some.injEq] at ho
          subst ho
          go_simp
          go_at_call 14
          refine (HRis.out _ (by (repeat' (first | (with_reducible assumption) | (with_reducible exact Hid.out (by with_reducible assumption)) | (with_reducible refine Rnd.drewN ?_ _) | (with_reducible refine Rnd.drew ?_) | (with_reducible refine Rnd.on (by with_reducible assumption) ?_))))).mono ?_
          rintro e wa ⟨rfl, rfl⟩
          go_wp2_with fail
          refine hK.out _ _ (HSS.out _ (by (repeat' (first | (with_reducible assumption) | (with_reducible exact Hid.out (by with_reducible assumption)) | (with_reducible refine Rnd.drewN ?_ _) | (with_reducible refine Rnd.drew ?_) | (with_reducible refine Rnd.on (by with_reducible assumption) ?_))))) (fun hHeld => ?_)
          clear hK
          try simp only [Act.put, List.setIfInBounds_toArray, List.set_cons_zero, List.set_cons_succ]
          refine rg_take 35 (some 106) (.bool true) (by kernel_rfl) (by kernel_rfl) (by kernel_rfl) (fun _ _ _ h => h) (by kernel_rfl) (by kernel_rfl) (by intro w' hSw op_ ho; obtain ⟨q0, q1⟩ := hSw; simp only [List.getElem?_toArray, List.getElem?_cons_succ, List.getElem?_cons_zero, Option.some.injEq] at ho; subst ho; go_simp; (try simp [HMX.out]); (try exact HMEQ.out)) (by assumption) ?_
          try simp only [Act.put, List.setIfInBounds_toArray, List.set_cons_zero, List.set_cons_succ]
          refine rg_take 36 (some 107) (.bool false) (by kernel_rfl) (by kernel_rfl) (by kernel_rfl) (fun _ _ _ h => h) (by kernel_rfl) (by kernel_rfl) (by intro w' hSw op_ ho; obtain ⟨q0, q1⟩ := hSw; simp only [List.getElem?_toArray, List.getElem?_cons_succ, List.getElem?_cons_zero, Option.some.injEq] at ho; subst ho; go_simp; (try simp [HMX.out]); (try exact HMEQ.out)) (by assumption) ?_
          try simp only [Act.put, List.setIfInBounds_toArray, List.set_cons_zero, List.set_cons_succ]
          refine rg_take 37 (some 108) (.bool false) (by kernel_rfl) (by kernel_rfl) (by kernel_rfl) (fun _ _ _ h => h) (by kernel_rfl) (by kernel_rfl) (by intro w' hSw op_ ho; obtain ⟨q0, q1⟩ := hSw; simp only [List.getElem?_toArray, List.getElem?_cons_succ, List.getElem?_cons_zero, Option.some.injEq] at ho; subst ho; go_simp; (try simp [HMX.out]); (try exact HMEQ.out)) (by assumption) ?_
          try simp only [Act.put, List.setIfInBounds_toArray, List.set_cons_zero, List.set_cons_succ]
          refine rg_take 38 (some 109) (.bool false) (by kernel_rfl) (by kernel_rfl) (by kernel_rfl) (fun _ _ _ h => h) (by kernel_rfl) (by kernel_rfl) (by intro w' hSw op_ ho; obtain ⟨q0, q1⟩ := hSw; simp only [List.getElem?_toArray, List.getElem?_cons_succ, List.getElem?_cons_zero, Option.some.injEq] at ho; subst ho; go_simp; (try simp [HMX.out]); (try exact HMEQ.out)) (by assumption) ?_
          try simp only [Act.put, List.setIfInBounds_toArray, List.set_cons_zero, List.set_cons_succ]
          refine rg_take 39 (some 110) (.pointer (some ⟨q, 0, none⟩)) (by kernel_rfl) (by kernel_rfl) (by kernel_rfl) (fun _ _ _ h => h) (by kernel_rfl) (by kernel_rfl) (by intro w' hSw op_ ho; obtain ⟨q0, q1⟩ := hSw; simp only [List.getElem?_toArray, List.getElem?_cons_succ, List.getElem?_cons_zero, Option.some.injEq] at ho; subst ho; go_simp; (try simp [HMX.out]); (try exact HMEQ.out)) (by assumption) ?_
          try simp only [Act.put, List.setIfInBounds_toArray, List.set_cons_zero, List.set_cons_succ]
          refine rg_take 40 (some 111) (.pointer (some ⟨U, 1, none⟩)) (by kernel_rfl) (by kernel_rfl) (by kernel_rfl) (fun _ _ _ h => h) (by kernel_rfl) (by kernel_rfl) (by intro w' hSw op_ ho; obtain ⟨q0, q1⟩ := hSw; simp only [List.getElem?_toArray, List.getElem?_cons_succ, List.getElem?_cons_zero, Option.some.injEq] at ho; subst ho; go_simp; (try simp [HMX.out]); (try exact HMEQ.out)) (by assumption) ?_
          try simp only [Act.put, List.setIfInBounds_toArray, List.set_cons_zero, List.set_cons_succ]
          refine rg_take 41 (some 112) (.int .i64 x.id) (by kernel_rfl) (by kernel_rfl) (by kernel_rfl) (fun _ _ _ h => h) (by kernel_rfl) (by kernel_rfl) (by intro w' hSw op_ ho; obtain ⟨q0, q1⟩ := hSw; simp only [List.getElem?_toArray, List.getElem?_cons_succ, List.getElem?_cons_zero, Option.some.injEq] at ho; subst ho; go_simp; (try simp [HMX.out]); (try exact HMEQ.out)) (by assumption) ?_
          try simp only [Act.put, List.setIfInBounds_toArray, List.set_cons_zero, List.set_cons_succ]
          refine rg_take 43 (some 114) (.slice a8 L.length c8) (by kernel_rfl) (by kernel_rfl) (by kernel_rfl) (fun _ _ _ h => h) (by kernel_rfl) (by kernel_rfl) (by intro w' hSw op_ ho; obtain ⟨q0, q1⟩ := hSw; simp only [List.getElem?_toArray, List.getElem?_cons_succ, List.getElem?_cons_zero, Option.some.injEq] at ho; subst ho; go_simp; (try simp [HMX.out]); (try exact HMEQ.out)) (by assumption) ?_
          try simp only [Act.put, List.setIfInBounds_toArray, List.set_cons_zero, List.set_cons_succ]
          refine rg_one 42 (by kernel_rfl) (by kernel_rfl) (fun op_ ho K hK => ?_)
          simp only [List.getElem?_toArray, List.getElem?_cons_succ, List.getElem?_cons_zero, Option.some.injEq] at ho
          subst ho
          go_simp
          go_at_call 21
          refine (HPat.out _ (by (repeat' (first | (with_reducible assumption) | (with_reducible exact Hid.out (by with_reducible assumption)) | (with_reducible refine Rnd.drewN ?_ _) | (with_reducible refine Rnd.drew ?_) | (with_reducible refine Rnd.on (by with_reducible assumption) ?_))))).mono ?_
          rintro e wd ⟨ap, cp, rfl, rp, bb3⟩; have r11 : RI wd (.slice a8 L.length c8) L := RI.on (by (repeat' (first | (with_reducible assumption) | (with_reducible exact Hid.out (by with_reducible assumption)) | (with_reducible refine RI.drewN ?_ _) | (with_reducible refine RI.drew ?_)))) bb3; have k11 : Rnd w wd q b o U x T' T' := Rnd.on bb3 (by (repeat' (first | (with_reducible assumption) | (with_reducible exact Hid.out (by with_reducible assumption)) | (with_reducible refine Rnd.drewN ?_ _) | (with_reducible refine Rnd.drew ?_) | (with_reducible refine Rnd.on (by with_reducible assumption) ?_))))
          go_wp2_with fail
          refine hK.out _ _ (HSS.out _ (by (repeat' (first | (with_reducible assumption) | (with_reducible exact Hid.out (by with_reducible assumption)) | (with_reducible refine Rnd.drewN ?_ _) | (with_reducible refine Rnd.drew ?_) | (with_reducible refine Rnd.on (by with_reducible assumption) ?_))))) (fun hHeld => ?_)
          clear hK
          try simp only [Act.put, List.setIfInBounds_toArray, List.set_cons_zero, List.set_cons_succ]
          refine rg_one 44 (by kernel_rfl) (by kernel_rfl) (fun op_ ho K hK => ?_)
          simp only [List.getElem?_toArray, List.getElem?_cons_succ, List.getElem?_cons_zero, Option.some.injEq] at ho
          subst ho
          go_simp
          go_at_call 20
          refine (HInt.out _ _ _ L hLl (by (repeat' (first | (with_reducible assumption) | (with_reducible exact Hid.out (by with_reducible assumption)) | (with_reducible refine RI.drewN ?_ _) | (with_reducible refine RI.drew ?_)))) (by (repeat' (first | (with_reducible assumption) | (with_reducible exact Hid.out (by with_reducible assumption)) | (with_reducible refine RI.drewN ?_ _) | (with_reducible refine RI.drew ?_))))).mono ?_
          rintro e we ⟨rfl, bb4⟩; have k12 : Rnd w we q b o U x T' T' := Rnd.on bb4 (by (repeat' (first | (with_reducible assumption) | (with_reducible exact Hid.out (by with_reducible assumption)) | (with_reducible refine Rnd.drewN ?_ _) | (with_reducible refine Rnd.drew ?_) | (with_reducible refine Rnd.on (by with_reducible assumption) ?_))))
          go_wp2_with fail
          refine hK.out _ _ (HSS.out _ (by (repeat' (first | (with_reducible assumption) | (with_reducible exact Hid.out (by with_reducible assumption)) | (with_reducible refine Rnd.drewN ?_ _) | (with_reducible refine Rnd.drew ?_) | (with_reducible refine Rnd.on (by with_reducible assumption) ?_))))) (fun hHeld => ?_)
          clear hK
          try simp only [Act.put, List.setIfInBounds_toArray, List.set_cons_zero, List.set_cons_succ]
          refine rg_take 45 (some 116) (.bool false) (by kernel_rfl) (by kernel_rfl) (by kernel_rfl) (fun _ _ _ h => h) (by kernel_rfl) (by kernel_rfl) (by intro w' hSw op_ ho; obtain ⟨q0, q1⟩ := hSw; simp only [List.getElem?_toArray, List.getElem?_cons_succ, List.getElem?_cons_zero, Option.some.injEq] at ho; subst ho; go_simp; (try simp [HMX.out]); (try exact HMEQ.out)) (by assumption) ?_
          try simp only [Act.put, List.setIfInBounds_toArray, List.set_cons_zero, List.set_cons_succ]
          refine rg_take 46 (some 117) (.bool false) (by kernel_rfl) (by kernel_rfl) (by kernel_rfl) (fun _ _ _ h => h) (by kernel_rfl) (by kernel_rfl) (by intro w' hSw op_ ho; obtain ⟨q0, q1⟩ := hSw; simp only [List.getElem?_toArray, List.getElem?_cons_succ, List.getElem?_cons_zero, Option.some.injEq] at ho; subst ho; go_simp; (try simp [HMX.out]); (try exact HMEQ.out)) (by assumption) ?_
          try simp only [Act.put, List.setIfInBounds_toArray, List.set_cons_zero, List.set_cons_succ]
          refine rg_take 47 (some 118) (.bool false) (by kernel_rfl) (by kernel_rfl) (by kernel_rfl) (fun _ _ _ h => h) (by kernel_rfl) (by kernel_rfl) (by intro w' hSw op_ ho; obtain ⟨q0, q1⟩ := hSw; simp only [List.getElem?_toArray, List.getElem?_cons_succ, List.getElem?_cons_zero, Option.some.injEq] at ho; subst ho; go_simp; (try simp [HMX.out]); (try exact HMEQ.out)) (by assumption) ?_
          try simp only [Act.put, List.setIfInBounds_toArray, List.set_cons_zero, List.set_cons_succ]
          refine rg_take 48 (some 119) (.pointer (some ⟨q, 0, none⟩)) (by kernel_rfl) (by kernel_rfl) (by kernel_rfl) (fun _ _ _ h => h) (by kernel_rfl) (by kernel_rfl) (by intro w' hSw op_ ho; obtain ⟨q0, q1⟩ := hSw; simp only [List.getElem?_toArray, List.getElem?_cons_succ, List.getElem?_cons_zero, Option.some.injEq] at ho; subst ho; go_simp; (try simp [HMX.out]); (try exact HMEQ.out)) (by assumption) ?_
          try simp only [Act.put, List.setIfInBounds_toArray, List.set_cons_zero, List.set_cons_succ]
          refine rg_take 49 (some 120) (.pointer (some ⟨U, 2, none⟩)) (by kernel_rfl) (by kernel_rfl) (by kernel_rfl) (fun _ _ _ h => h) (by kernel_rfl) (by kernel_rfl) (by intro w' hSw op_ ho; obtain ⟨q0, q1⟩ := hSw; simp only [List.getElem?_toArray, List.getElem?_cons_succ, List.getElem?_cons_zero, Option.some.injEq] at ho; subst ho; go_simp; (try simp [HMX.out]); (try exact HMEQ.out)) (by assumption) ?_
          try simp only [Act.put, List.setIfInBounds_toArray, List.set_cons_zero, List.set_cons_succ]
          refine rg_take 50 (some 121) (.int .i64 x.other) (by kernel_rfl) (by kernel_rfl) (by kernel_rfl) (fun _ _ _ h => h) (by kernel_rfl) (by kernel_rfl) (by intro w' hSw op_ ho; obtain ⟨q0, q1⟩ := hSw; simp only [List.getElem?_toArray, List.getElem?_cons_succ, List.getElem?_cons_zero, Option.some.injEq] at ho; subst ho; go_simp; (try simp [HMX.out]); (try exact HMEQ.out)) (by assumption) ?_
          try simp only [Act.put, List.setIfInBounds_toArray, List.set_cons_zero, List.set_cons_succ]
          refine rg_take 52 (some 123) (.pointer (some ⟨o, 0, none⟩)) (by kernel_rfl) (by kernel_rfl) (by kernel_rfl) (fun _ _ _ h => h) (by kernel_rfl) (by kernel_rfl) (by intro w' hSw op_ ho; obtain ⟨q0, q1⟩ := hSw; simp only [List.getElem?_toArray, List.getElem?_cons_succ, List.getElem?_cons_zero, Option.some.injEq] at ho; subst ho; go_simp; (try simp [HMX.out]); (try exact HMEQ.out)) (by assumption) ?_
          try simp only [Act.put, List.setIfInBounds_toArray, List.set_cons_zero, List.set_cons_succ]
          refine rg_take 53 (some 124) (.pointer (some ⟨U, 2, none⟩)) (by kernel_rfl) (by kernel_rfl) (by kernel_rfl) (fun _ _ _ h => h) (by kernel_rfl) (by kernel_rfl) (by intro w' hSw op_ ho; obtain ⟨q0, q1⟩ := hSw; simp only [List.getElem?_toArray, List.getElem?_cons_succ, List.getElem?_cons_zero, Option.some.injEq] at ho; subst ho; go_simp; (try simp [HMX.out]); (try exact HMEQ.out)) (by assumption) ?_
          try simp only [Act.put, List.setIfInBounds_toArray, List.set_cons_zero, List.set_cons_succ]
          refine rg_take 54 (some 125) (.int .i64 x.other) (by kernel_rfl) (by kernel_rfl) (by kernel_rfl) (fun _ _ _ h => h) (by kernel_rfl) (by kernel_rfl) (by intro w' hSw op_ ho; obtain ⟨q0, q1⟩ := hSw; simp only [List.getElem?_toArray, List.getElem?_cons_succ, List.getElem?_cons_zero, Option.some.injEq] at ho; subst ho; go_simp; (try simp [HMX.out]); (try exact HMEQ.out)) (by assumption) ?_
          try simp only [Act.put, List.setIfInBounds_toArray, List.set_cons_zero, List.set_cons_succ]
          refine rg_one 51 (by kernel_rfl) (by kernel_rfl) (fun op_ ho K hK => ?_)
          simp only [List.getElem?_toArray, List.getElem?_cons_succ, List.getElem?_cons_zero, Option.some.injEq] at ho
          subst ho
          go_simp
          go_at_call 22
          refine (HChi.out _ (by (repeat' (first | (with_reducible assumption) | (with_reducible exact Hid.out (by with_reducible assumption)) | (with_reducible refine Rnd.drewN ?_ _) | (with_reducible refine Rnd.drew ?_) | (with_reducible refine Rnd.on (by with_reducible assumption) ?_))))).mono ?_
          rintro e wf ⟨ac, cc, rfl, rc, bb5⟩; have k13 : Rnd w wf q b o U x T' T' := Rnd.on bb5 (by (repeat' (first | (with_reducible assumption) | (with_reducible exact Hid.out (by with_reducible assumption)) | (with_reducible refine Rnd.drewN ?_ _) | (with_reducible refine Rnd.drew ?_) | (with_reducible refine Rnd.on (by with_reducible assumption) ?_))))
          go_wp2_with fail
          refine hK.out _ _ (HSS.out _ (by (repeat' (first | (with_reducible assumption) | (with_reducible exact Hid.out (by with_reducible assumption)) | (with_reducible refine Rnd.drewN ?_ _) | (with_reducible refine Rnd.drew ?_) | (with_reducible refine Rnd.on (by with_reducible assumption) ?_))))) (fun hHeld => ?_)
          clear hK
          try simp only [Act.put, List.setIfInBounds_toArray, List.set_cons_zero, List.set_cons_succ]
          refine rg_one 55 (by kernel_rfl) (by kernel_rfl) (fun op_ ho K hK => ?_)
          simp only [List.getElem?_toArray, List.getElem?_cons_succ, List.getElem?_cons_zero, Option.some.injEq] at ho
          subst ho
          go_simp
          go_at_call 23
          refine (HRch.out _ (by (repeat' (first | (with_reducible assumption) | (with_reducible exact Hid.out (by with_reducible assumption)) | (with_reducible refine Rnd.drewN ?_ _) | (with_reducible refine Rnd.drew ?_) | (with_reducible refine Rnd.on (by with_reducible assumption) ?_))))).mono ?_
          rintro e wg ⟨ad2, cd2, rfl, rd2, bb6⟩; have r14 : RI wg (.slice ac C.length cc) C := RI.on (by (repeat' (first | (with_reducible assumption) | (with_reducible exact Hid.out (by with_reducible assumption)) | (with_reducible refine RI.drewN ?_ _) | (with_reducible refine RI.drew ?_)))) bb6; have k14 : Rnd w wg q b o U x T' T' := Rnd.on bb6 (by (repeat' (first | (with_reducible assumption) | (with_reducible exact Hid.out (by with_reducible assumption)) | (with_reducible refine Rnd.drewN ?_ _) | (with_reducible refine Rnd.drew ?_) | (with_reducible refine Rnd.on (by with_reducible assumption) ?_))))
          go_wp2_with fail
          refine hK.out _ _ (HSS.out _ (by (repeat' (first | (with_reducible assumption) | (with_reducible exact Hid.out (by with_reducible assumption)) | (with_reducible refine Rnd.drewN ?_ _) | (with_reducible refine Rnd.drew ?_) | (with_reducible refine Rnd.on (by with_reducible assumption) ?_))))) (fun hHeld => ?_)
          clear hK
          try simp only [Act.put, List.setIfInBounds_toArray, List.set_cons_zero, List.set_cons_succ]
          refine rg_one 56 (by kernel_rfl) (by kernel_rfl) (fun op_ ho K hK => ?_)
          simp only [List.getElem?_toArray, List.getElem?_cons_succ, List.getElem?_cons_zero, Option.some.injEq] at ho
          subst ho
          go_simp
          go_at_call 20
          refine (HInt.out _ _ _ C hCl2 (by (repeat' (first | (with_reducible assumption) | (with_reducible exact Hid.out (by with_reducible assumption)) | (with_reducible refine RI.drewN ?_ _) | (with_reducible refine RI.drew ?_)))) (by (repeat' (first | (with_reducible assumption) | (with_reducible exact Hid.out (by with_reducible assumption)) | (with_reducible refine RI.drewN ?_ _) | (with_reducible refine RI.drew ?_))))).mono ?_
          rintro e wh ⟨rfl, bb7⟩; have k15 : Rnd w wh q b o U x T' T' := Rnd.on bb7 (by (repeat' (first | (with_reducible assumption) | (with_reducible exact Hid.out (by with_reducible assumption)) | (with_reducible refine Rnd.drewN ?_ _) | (with_reducible refine Rnd.drew ?_) | (with_reducible refine Rnd.on (by with_reducible assumption) ?_))))
          go_wp2_with fail
          refine hK.out _ _ (HSS.out _ (by (repeat' (first | (with_reducible assumption) | (with_reducible exact Hid.out (by with_reducible assumption)) | (with_reducible refine Rnd.drewN ?_ _) | (with_reducible refine Rnd.drew ?_) | (with_reducible refine Rnd.on (by with_reducible assumption) ?_))))) (fun hHeld => ?_)
          clear hK
          try simp only [Act.put, List.setIfInBounds_toArray, List.set_cons_zero, List.set_cons_succ]
          refine rg_take 57 (some 128) (.bool false) (by kernel_rfl) (by kernel_rfl) (by kernel_rfl) (fun _ _ _ h => h) (by kernel_rfl) (by kernel_rfl) (by intro w' hSw op_ ho; obtain ⟨q0, q1⟩ := hSw; simp only [List.getElem?_toArray, List.getElem?_cons_succ, List.getElem?_cons_zero, Option.some.injEq] at ho; subst ho; go_simp; (try simp [HMX.out]); (try exact HMEQ.out)) (by assumption) ?_
          try simp only [Act.put, List.setIfInBounds_toArray, List.set_cons_zero, List.set_cons_succ]
          refine rg_take 58 (some 129) (.bool false) (by kernel_rfl) (by kernel_rfl) (by kernel_rfl) (fun _ _ _ h => h) (by kernel_rfl) (by kernel_rfl) (by intro w' hSw op_ ho; obtain ⟨q0, q1⟩ := hSw; simp only [List.getElem?_toArray, List.getElem?_cons_succ, List.getElem?_cons_zero, Option.some.injEq] at ho; subst ho; go_simp; (try simp [HMX.out]); (try exact HMEQ.out)) (by assumption) ?_
          try simp only [Act.put, List.setIfInBounds_toArray, List.set_cons_zero, List.set_cons_succ]
          refine rg_take 59 (some 130) (.bool false) (by kernel_rfl) (by kernel_rfl) (by kernel_rfl) (fun _ _ _ h => h) (by kernel_rfl) (by kernel_rfl) (by intro w' hSw op_ ho; obtain ⟨q0, q1⟩ := hSw; simp only [List.getElem?_toArray, List.getElem?_cons_succ, List.getElem?_cons_zero, Option.some.injEq] at ho; subst ho; go_simp; (try simp [HMX.out]); (try exact HMEQ.out)) (by assumption) ?_
          try simp only [Act.put, List.setIfInBounds_toArray, List.set_cons_zero, List.set_cons_succ]
          refine rg_take 60 (some 131) (.pointer (some ⟨q, 0, none⟩)) (by kernel_rfl) (by kernel_rfl) (by kernel_rfl) (fun _ _ _ h => h) (by kernel_rfl) (by kernel_rfl) (by intro w' hSw op_ ho; obtain ⟨q0, q1⟩ := hSw; simp only [List.getElem?_toArray, List.getElem?_cons_succ, List.getElem?_cons_zero, Option.some.injEq] at ho; subst ho; go_simp; (try simp [HMX.out]); (try exact HMEQ.out)) (by assumption) ?_
          try simp only [Act.put, List.setIfInBounds_toArray, List.set_cons_zero, List.set_cons_succ]
          refine rg_take 61 (some 132) (.pointer (some ⟨U, 1, none⟩)) (by kernel_rfl) (by kernel_rfl) (by kernel_rfl) (fun _ _ _ h => h) (by kernel_rfl) (by kernel_rfl) (by intro w' hSw op_ ho; obtain ⟨q0, q1⟩ := hSw; simp only [List.getElem?_toArray, List.getElem?_cons_succ, List.getElem?_cons_zero, Option.some.injEq] at ho; subst ho; go_simp; (try simp [HMX.out]); (try exact HMEQ.out)) (by assumption) ?_
          try simp only [Act.put, List.setIfInBounds_toArray, List.set_cons_zero, List.set_cons_succ]
          refine rg_take 62 (some 133) (.int .i64 x.id) (by kernel_rfl) (by kernel_rfl) (by kernel_rfl) (fun _ _ _ h => h) (by kernel_rfl) (by kernel_rfl) (by intro w' hSw op_ ho; obtain ⟨q0, q1⟩ := hSw; simp only [List.getElem?_toArray, List.getElem?_cons_succ, List.getElem?_cons_zero, Option.some.injEq] at ho; subst ho; go_simp; (try simp [HMX.out]); (try exact HMEQ.out)) (by assumption) ?_
          try simp only [Act.put, List.setIfInBounds_toArray, List.set_cons_zero, List.set_cons_succ]
          refine rg_take 64 (some 135) (.slice a8 L.length c8) (by kernel_rfl) (by kernel_rfl) (by kernel_rfl) (fun _ _ _ h => h) (by kernel_rfl) (by kernel_rfl) (by intro w' hSw op_ ho; obtain ⟨q0, q1⟩ := hSw; simp only [List.getElem?_toArray, List.getElem?_cons_succ, List.getElem?_cons_zero, Option.some.injEq] at ho; subst ho; go_simp; (try simp [HMX.out]); (try exact HMEQ.out)) (by assumption) ?_
          try simp only [Act.put, List.setIfInBounds_toArray, List.set_cons_zero, List.set_cons_succ]
          refine rg_take 65 (some 136) (.int .i64 (L.length : Int)) (by kernel_rfl) (by kernel_rfl) (by kernel_rfl) (fun _ _ _ h => h) (by kernel_rfl) (by kernel_rfl) (by intro w' hSw op_ ho; obtain ⟨q0, q1⟩ := hSw; simp only [List.getElem?_toArray, List.getElem?_cons_succ, List.getElem?_cons_zero, Option.some.injEq] at ho; subst ho; go_simp; (try simp [HMX.out]); (try exact HMEQ.out)) (by assumption) ?_
          try simp only [Act.put, List.setIfInBounds_toArray, List.set_cons_zero, List.set_cons_succ]
          refine rg_take 66 (some 137) (.int .i64 (IntKind.i64.wrap ((L.length : Int) - 1))) (by kernel_rfl) (by kernel_rfl) (by kernel_rfl) (fun _ _ _ h => h) (by kernel_rfl) (by kernel_rfl) (by intro w' hSw op_ ho; obtain ⟨q0, q1⟩ := hSw; simp only [List.getElem?_toArray, List.getElem?_cons_succ, List.getElem?_cons_zero, Option.some.injEq] at ho; subst ho; go_simp; (try simp [HMX.out]); (try exact HMEQ.out)) (by assumption) ?_
          try simp only [Act.put, List.setIfInBounds_toArray, List.set_cons_zero, List.set_cons_succ]
          refine rg_take 67 (some 138) (.int .i64 (max (IntKind.i64.wrap ((L.length : Int) - 1)) 0)) (by kernel_rfl) (by kernel_rfl) (by kernel_rfl) (fun _ _ _ h => h) (by kernel_rfl) (by kernel_rfl) (by intro w' hSw op_ ho; obtain ⟨q0, q1⟩ := hSw; simp only [List.getElem?_toArray, List.getElem?_cons_succ, List.getElem?_cons_zero, Option.some.injEq] at ho; subst ho; go_simp; (try simp [HMX.out]); (try exact HMEQ.out)) (by assumption) ?_
          try simp only [Act.put, List.setIfInBounds_toArray, List.set_cons_zero, List.set_cons_succ]
          refine rg_one 63 (by kernel_rfl) (by kernel_rfl) (fun op_ ho K hK => ?_)
          simp only [List.getElem?_toArray, List.getElem?_cons_succ, List.getElem?_cons_zero, Option.some.injEq] at ho
          subst ho
          go_simp
          go_at_call 24
          refine (HDep.out _ (by (repeat' (first | (with_reducible assumption) | (with_reducible exact Hid.out (by with_reducible assumption)) | (with_reducible refine Rnd.drewN ?_ _) | (with_reducible refine Rnd.drew ?_) | (with_reducible refine Rnd.on (by with_reducible assumption) ?_))))).mono ?_
          rintro e wi ⟨rfl, bb8⟩; have k16 : Rnd w wi q b o U x T' T' := Rnd.on bb8 (by (repeat' (first | (with_reducible assumption) | (with_reducible exact Hid.out (by with_reducible assumption)) | (with_reducible refine Rnd.drewN ?_ _) | (with_reducible refine Rnd.drew ?_) | (with_reducible refine Rnd.on (by with_reducible assumption) ?_))))
          go_wp2_with fail
          refine hK.out _ _ (HSS.out _ (by (repeat' (first | (with_reducible assumption) | (with_reducible exact Hid.out (by with_reducible assumption)) | (with_reducible refine Rnd.drewN ?_ _) | (with_reducible refine Rnd.drew ?_) | (with_reducible refine Rnd.on (by with_reducible assumption) ?_))))) (fun hHeld => ?_)
          clear hK
          try simp only [Act.put, List.setIfInBounds_toArray, List.set_cons_zero, List.set_cons_succ]
          refine rg_take 68 (some 139) (.bool false) (by kernel_rfl) (by kernel_rfl) (by kernel_rfl) (fun _ _ _ h => h) (by kernel_rfl) (by kernel_rfl) (by intro w' hSw op_ ho; obtain ⟨q0, q1⟩ := hSw; simp only [List.getElem?_toArray, List.getElem?_cons_succ, List.getElem?_cons_zero, Option.some.injEq] at ho; subst ho; go_simp; (try simp [HMX.out]); (try exact HMEQ.out)) (by assumption) ?_
          try simp only [Act.put, List.setIfInBounds_toArray, List.set_cons_zero, List.set_cons_succ]
          refine rg_take 69 (some 140) (.bool false) (by kernel_rfl) (by kernel_rfl) (by kernel_rfl) (fun _ _ _ h => h) (by kernel_rfl) (by kernel_rfl) (by intro w' hSw op_ ho; obtain ⟨q0, q1⟩ := hSw; simp only [List.getElem?_toArray, List.getElem?_cons_succ, List.getElem?_cons_zero, Option.some.injEq] at ho; subst ho; go_simp; (try simp [HMX.out]); (try exact HMEQ.out)) (by assumption) ?_
          try simp only [Act.put, List.setIfInBounds_toArray, List.set_cons_zero, List.set_cons_succ]
          refine wpAnyH_done (by kernel_rfl) ?_ _
          all_goals go_wp2_with fail
          all_goals go_meet
          all_goals exact ⟨rfl, by (repeat' (first | (with_reducible assumption) | (with_reducible exact Hid.out (by with_reducible assumption)) | (with_reducible refine Rnd.drewN ?_ _) | (with_reducible refine Rnd.drew ?_) | (with_reducible refine Rnd.on (by with_reducible assumption) ?_)))⟩
        | false => as_aux_lemma =>
          clear hbI
          refine wp_region_held_drew (S := fun W => W.cell? ⟨U, 1, none⟩ = some (.int .i64 x.id) ∧ W.cell? ⟨U, 2, none⟩ = some (.int .i64 x.other)) (by kernel_rfl) ?_ (fun hHeld => ?_)
          · exact HSS.out _ (by (repeat' (first | (with_reducible assumption) | (with_reducible exact Hid.out (by with_reducible assumption)) | (with_reducible refine Rnd.drewN ?_ _) | (with_reducible refine Rnd.drew ?_) | (with_reducible refine Rnd.on (by with_reducible assumption) ?_))))
          refine rg_take 0 (some 71) (.pointer (some ⟨q, 0, none⟩)) (by kernel_rfl) (by kernel_rfl) (by kernel_rfl) (fun _ _ _ h => h) (by kernel_rfl) (by kernel_rfl) (by intro w' hSw op_ ho; obtain ⟨q0, q1⟩ := hSw; simp only [List.getElem?_toArray, List.getElem?_cons_zero, Option.some.injEq] at ho; subst ho; go_simp; (try simp [HMX.out]); (try exact HMEQ.out)) (by assumption) ?_
          try simp only [Act.put, List.setIfInBounds_toArray, List.set_cons_zero, List.set_cons_succ]
          refine rg_take 1 (some 72) (.pointer (some ⟨U, 1, none⟩)) (by kernel_rfl) (by kernel_rfl) (by kernel_rfl) (fun _ _ _ h => h) (by kernel_rfl) (by kernel_rfl) (by intro w' hSw op_ ho; obtain ⟨q0, q1⟩ := hSw; simp only [List.getElem?_toArray, List.getElem?_cons_succ, List.getElem?_cons_zero, Option.some.injEq] at ho; subst ho; go_simp; (try simp [HMX.out]); (try exact HMEQ.out)) (by assumption) ?_
          try simp only [Act.put, List.setIfInBounds_toArray, List.set_cons_zero, List.set_cons_succ]
          refine rg_take 2 (some 73) (.int .i64 x.id) (by kernel_rfl) (by kernel_rfl) (by kernel_rfl) (fun _ _ _ h => h) (by kernel_rfl) (by kernel_rfl) (by intro w' hSw op_ ho; obtain ⟨q0, q1⟩ := hSw; simp only [List.getElem?_toArray, List.getElem?_cons_succ, List.getElem?_cons_zero, Option.some.injEq] at ho; subst ho; go_simp; (try simp [HMX.out]); (try exact HMEQ.out)) (by assumption) ?_
          try simp only [Act.put, List.setIfInBounds_toArray, List.set_cons_zero, List.set_cons_succ]
          refine rg_take 4 (some 75) (.pointer (some ⟨o, 0, none⟩)) (by kernel_rfl) (by kernel_rfl) (by kernel_rfl) (fun _ _ _ h => h) (by kernel_rfl) (by kernel_rfl) (by intro w' hSw op_ ho; obtain ⟨q0, q1⟩ := hSw; simp only [List.getElem?_toArray, List.getElem?_cons_succ, List.getElem?_cons_zero, Option.some.injEq] at ho; subst ho; go_simp; (try simp [HMX.out]); (try exact HMEQ.out)) (by assumption) ?_
          try simp only [Act.put, List.setIfInBounds_toArray, List.set_cons_zero, List.set_cons_succ]
          refine rg_take 5 (some 76) (.pointer (some ⟨U, 1, none⟩)) (by kernel_rfl) (by kernel_rfl) (by kernel_rfl) (fun _ _ _ h => h) (by kernel_rfl) (by kernel_rfl) (by intro w' hSw op_ ho; obtain ⟨q0, q1⟩ := hSw; simp only [List.getElem?_toArray, List.getElem?_cons_succ, List.getElem?_cons_zero, Option.some.injEq] at ho; subst ho; go_simp; (try simp [HMX.out]); (try exact HMEQ.out)) (by assumption) ?_
          try simp only [Act.put, List.setIfInBounds_toArray, List.set_cons_zero, List.set_cons_succ]
          refine rg_take 6 (some 77) (.int .i64 x.id) (by kernel_rfl) (by kernel_rfl) (by kernel_rfl) (fun _ _ _ h => h) (by kernel_rfl) (by kernel_rfl) (by intro w' hSw op_ ho; obtain ⟨q0, q1⟩ := hSw; simp only [List.getElem?_toArray, List.getElem?_cons_succ, List.getElem?_cons_zero, Option.some.injEq] at ho; subst ho; go_simp; (try simp [HMX.out]); (try exact HMEQ.out)) (by assumption) ?_
          try simp only [Act.put, List.setIfInBounds_toArray, List.set_cons_zero, List.set_cons_succ]
          refine rg_one 3 (by kernel_rfl) (by kernel_rfl) (fun op_ ho K hK => ?_)
          simp only [List.getElem?_toArray, List.getElem?_cons_succ, List.getElem?_cons_zero, Option.some.injEq] at ho
          subst ho
          go_simp
          go_at_call 16
          refine (HIs.out _ (by (repeat' (first | (with_reducible assumption) | (with_reducible exact Hid.out (by with_reducible assumption)) | (with_reducible refine Rnd.drewN ?_ _) | (with_reducible refine Rnd.drew ?_) | (with_reducible refine Rnd.on (by with_reducible assumption) ?_))))).mono ?_
          rintro e wa ⟨rfl, rfl⟩
          go_wp2_with fail
          refine hK.out _ _ (HSS.out _ (by (repeat' (first | (with_reducible assumption) | (with_reducible exact Hid.out (by with_reducible assumption)) | (with_reducible refine Rnd.drewN ?_ _) | (with_reducible refine Rnd.drew ?_) | (with_reducible refine Rnd.on (by with_reducible assumption) ?_))))) (fun hHeld => ?_)
          clear hK
          try simp only [Act.put, List.setIfInBounds_toArray, List.set_cons_zero, List.set_cons_succ]
          refine rg_one 7 (by kernel_rfl) (by kernel_rfl) (fun op_ ho K hK => ?_)
          simp only [List.getElem?_toArray, List.getElem?_cons_succ, List.getElem?_cons_zero, Option.some.injEq] at ho
          subst ho
          go_simp
          go_at_call 14
          refine (HRis.out _ (by (repeat' (first | (with_reducible assumption) | (with_reducible exact Hid.out (by with_reducible assumption)) | (with_reducible refine Rnd.drewN ?_ _) | (with_reducible refine Rnd.drew ?_) | (with_reducible refine Rnd.on (by with_reducible assumption) ?_))))).mono ?_
          rintro e wa ⟨rfl, rfl⟩
          go_wp2_with fail
          refine hK.out _ _ (HSS.out _ (by (repeat' (first | (with_reducible assumption) | (with_reducible exact Hid.out (by with_reducible assumption)) | (with_reducible refine Rnd.drewN ?_ _) | (with_reducible refine Rnd.drew ?_) | (with_reducible refine Rnd.on (by with_reducible assumption) ?_))))) (fun hHeld => ?_)
          clear hK
          try simp only [Act.put, List.setIfInBounds_toArray, List.set_cons_zero, List.set_cons_succ]
          refine rg_take 8 (some 79) (.bool false) (by kernel_rfl) (by kernel_rfl) (by kernel_rfl) (fun _ _ _ h => h) (by kernel_rfl) (by kernel_rfl) (by intro w' hSw op_ ho; obtain ⟨q0, q1⟩ := hSw; simp only [List.getElem?_toArray, List.getElem?_cons_succ, List.getElem?_cons_zero, Option.some.injEq] at ho; subst ho; go_simp; (try simp [HMX.out]); (try exact HMEQ.out)) (by assumption) ?_
          try simp only [Act.put, List.setIfInBounds_toArray, List.set_cons_zero, List.set_cons_succ]
          refine rg_take 9 (some 80) (.bool false) (by kernel_rfl) (by kernel_rfl) (by kernel_rfl) (fun _ _ _ h => h) (by kernel_rfl) (by kernel_rfl) (by intro w' hSw op_ ho; obtain ⟨q0, q1⟩ := hSw; simp only [List.getElem?_toArray, List.getElem?_cons_succ, List.getElem?_cons_zero, Option.some.injEq] at ho; subst ho; go_simp; (try simp [HMX.out]); (try exact HMEQ.out)) (by assumption) ?_
          try simp only [Act.put, List.setIfInBounds_toArray, List.set_cons_zero, List.set_cons_succ]
          refine rg_take 10 (some 81) (.pointer (some ⟨q, 0, none⟩)) (by kernel_rfl) (by kernel_rfl) (by kernel_rfl) (fun _ _ _ h => h) (by kernel_rfl) (by kernel_rfl) (by intro w' hSw op_ ho; obtain ⟨q0, q1⟩ := hSw; simp only [List.getElem?_toArray, List.getElem?_cons_succ, List.getElem?_cons_zero, Option.some.injEq] at ho; subst ho; go_simp; (try simp [HMX.out]); (try exact HMEQ.out)) (by assumption) ?_
          try simp only [Act.put, List.setIfInBounds_toArray, List.set_cons_zero, List.set_cons_succ]
          refine rg_take 11 (some 82) (.pointer (some ⟨U, 1, none⟩)) (by kernel_rfl) (by kernel_rfl) (by kernel_rfl) (fun _ _ _ h => h) (by kernel_rfl) (by kernel_rfl) (by intro w' hSw op_ ho; obtain ⟨q0, q1⟩ := hSw; simp only [List.getElem?_toArray, List.getElem?_cons_succ, List.getElem?_cons_zero, Option.some.injEq] at ho; subst ho; go_simp; (try simp [HMX.out]); (try exact HMEQ.out)) (by assumption) ?_
          try simp only [Act.put, List.setIfInBounds_toArray, List.set_cons_zero, List.set_cons_succ]
          refine rg_take 12 (some 83) (.int .i64 x.id) (by kernel_rfl) (by kernel_rfl) (by kernel_rfl) (fun _ _ _ h => h) (by kernel_rfl) (by kernel_rfl) (by intro w' hSw op_ ho; obtain ⟨q0, q1⟩ := hSw; simp only [List.getElem?_toArray, List.getElem?_cons_succ, List.getElem?_cons_zero, Option.some.injEq] at ho; subst ho; go_simp; (try simp [HMX.out]); (try exact HMEQ.out)) (by assumption) ?_
          try simp only [Act.put, List.setIfInBounds_toArray, List.set_cons_zero, List.set_cons_succ]
          refine rg_take 14 (some 85) (.int .i64 P) (by kernel_rfl) (by kernel_rfl) (by kernel_rfl) (fun _ _ _ h => h) (by kernel_rfl) (by kernel_rfl) (by intro w' hSw op_ ho; obtain ⟨q0, q1⟩ := hSw; simp only [List.getElem?_toArray, List.getElem?_cons_succ, List.getElem?_cons_zero, Option.some.injEq] at ho; subst ho; go_simp; (try simp [HMX.out]); (try exact HMEQ.out)) (by assumption) ?_
          try simp only [Act.put, List.setIfInBounds_toArray, List.set_cons_zero, List.set_cons_succ]
          refine rg_one 13 (by kernel_rfl) (by kernel_rfl) (fun op_ ho K hK => ?_)
          simp only [List.getElem?_toArray, List.getElem?_cons_succ, List.getElem?_cons_zero, Option.some.injEq] at ho
          subst ho
          go_simp
          go_at_call 17
          refine (HPar.out _ (by (repeat' (first | (with_reducible assumption) | (with_reducible exact Hid.out (by with_reducible assumption)) | (with_reducible refine Rnd.drewN ?_ _) | (with_reducible refine Rnd.drew ?_) | (with_reducible refine Rnd.on (by with_reducible assumption) ?_))))).mono ?_
          rintro e wa ⟨rfl, rfl⟩
          go_wp2_with fail
          refine hK.out _ _ (HSS.out _ (by (repeat' (first | (with_reducible assumption) | (with_reducible exact Hid.out (by with_reducible assumption)) | (with_reducible refine Rnd.drewN ?_ _) | (with_reducible refine Rnd.drew ?_) | (with_reducible refine Rnd.on (by with_reducible assumption) ?_))))) (fun hHeld => ?_)
          clear hK
          try simp only [Act.put, List.setIfInBounds_toArray, List.set_cons_zero, List.set_cons_succ]
          refine rg_take 15 (some 86) (.bool false) (by kernel_rfl) (by kernel_rfl) (by kernel_rfl) (fun _ _ _ h => h) (by kernel_rfl) (by kernel_rfl) (by intro w' hSw op_ ho; obtain ⟨q0, q1⟩ := hSw; simp only [List.getElem?_toArray, List.getElem?_cons_succ, List.getElem?_cons_zero, Option.some.injEq] at ho; subst ho; go_simp; (try simp [HMX.out]); (try exact HMEQ.out)) (by assumption) ?_
          try simp only [Act.put, List.setIfInBounds_toArray, List.set_cons_zero, List.set_cons_succ]
          refine rg_take 16 (some 87) (.bool false) (by kernel_rfl) (by kernel_rfl) (by kernel_rfl) (fun _ _ _ h => h) (by kernel_rfl) (by kernel_rfl) (by intro w' hSw op_ ho; obtain ⟨q0, q1⟩ := hSw; simp only [List.getElem?_toArray, List.getElem?_cons_succ, List.getElem?_cons_zero, Option.some.injEq] at ho; subst ho; go_simp; (try simp [HMX.out]); (try exact HMEQ.out)) (by assumption) ?_
          try simp only [Act.put, List.setIfInBounds_toArray, List.set_cons_zero, List.set_cons_succ]
          refine rg_take 17 (some 88) (.bool false) (by kernel_rfl) (by kernel_rfl) (by kernel_rfl) (fun _ _ _ h => h) (by kernel_rfl) (by kernel_rfl) (by intro w' hSw op_ ho; obtain ⟨q0, q1⟩ := hSw; simp only [List.getElem?_toArray, List.getElem?_cons_succ, List.getElem?_cons_zero, Option.some.injEq] at ho; subst ho; go_simp; (try simp [HMX.out]); (try exact HMEQ.out)) (by assumption) ?_
          try simp only [Act.put, List.setIfInBounds_toArray, List.set_cons_zero, List.set_cons_succ]
          refine rg_take 18 (some 89) (.pointer (some ⟨q, 0, none⟩)) (by kernel_rfl) (by kernel_rfl) (by kernel_rfl) (fun _ _ _ h => h) (by kernel_rfl) (by kernel_rfl) (by intro w' hSw op_ ho; obtain ⟨q0, q1⟩ := hSw; simp only [List.getElem?_toArray, List.getElem?_cons_succ, List.getElem?_cons_zero, Option.some.injEq] at ho; subst ho; go_simp; (try simp [HMX.out]); (try exact HMEQ.out)) (by assumption) ?_
          try simp only [Act.put, List.setIfInBounds_toArray, List.set_cons_zero, List.set_cons_succ]
          refine rg_take 19 (some 90) (.pointer (some ⟨U, 1, none⟩)) (by kernel_rfl) (by kernel_rfl) (by kernel_rfl) (fun _ _ _ h => h) (by kernel_rfl) (by kernel_rfl) (by intro w' hSw op_ ho; obtain ⟨q0, q1⟩ := hSw; simp only [List.getElem?_toArray, List.getElem?_cons_succ, List.getElem?_cons_zero, Option.some.injEq] at ho; subst ho; go_simp; (try simp [HMX.out]); (try exact HMEQ.out)) (by assumption) ?_
          try simp only [Act.put, List.setIfInBounds_toArray, List.set_cons_zero, List.set_cons_succ]
          refine rg_take 20 (some 91) (.int .i64 x.id) (by kernel_rfl) (by kernel_rfl) (by kernel_rfl) (fun _ _ _ h => h) (by kernel_rfl) (by kernel_rfl) (by intro w' hSw op_ ho; obtain ⟨q0, q1⟩ := hSw; simp only [List.getElem?_toArray, List.getElem?_cons_succ, List.getElem?_cons_zero, Option.some.injEq] at ho; subst ho; go_simp; (try simp [HMX.out]); (try exact HMEQ.out)) (by assumption) ?_
          try simp only [Act.put, List.setIfInBounds_toArray, List.set_cons_zero, List.set_cons_succ]
          refine rg_take 21 (some 92) (.pointer (some ⟨U, 2, none⟩)) (by kernel_rfl) (by kernel_rfl) (by kernel_rfl) (fun _ _ _ h => h) (by kernel_rfl) (by kernel_rfl) (by intro w' hSw op_ ho; obtain ⟨q0, q1⟩ := hSw; simp only [List.getElem?_toArray, List.getElem?_cons_succ, List.getElem?_cons_zero, Option.some.injEq] at ho; subst ho; go_simp; (try simp [HMX.out]); (try exact HMEQ.out)) (by assumption) ?_
          try simp only [Act.put, List.setIfInBounds_toArray, List.set_cons_zero, List.set_cons_succ]
          refine rg_take 22 (some 93) (.int .i64 x.other) (by kernel_rfl) (by kernel_rfl) (by kernel_rfl) (fun _ _ _ h => h) (by kernel_rfl) (by kernel_rfl) (by intro w' hSw op_ ho; obtain ⟨q0, q1⟩ := hSw; simp only [List.getElem?_toArray, List.getElem?_cons_succ, List.getElem?_cons_zero, Option.some.injEq] at ho; subst ho; go_simp; (try simp [HMX.out]); (try exact HMEQ.out)) (by assumption) ?_
          try simp only [Act.put, List.setIfInBounds_toArray, List.set_cons_zero, List.set_cons_succ]
          refine rg_take 24 (some 95) (.pointer (some ⟨o, 0, none⟩)) (by kernel_rfl) (by kernel_rfl) (by kernel_rfl) (fun _ _ _ h => h) (by kernel_rfl) (by kernel_rfl) (by intro w' hSw op_ ho; obtain ⟨q0, q1⟩ := hSw; simp only [List.getElem?_toArray, List.getElem?_cons_succ, List.getElem?_cons_zero, Option.some.injEq] at ho; subst ho; go_simp; (try simp [HMX.out]); (try exact HMEQ.out)) (by assumption) ?_
          try simp only [Act.put, List.setIfInBounds_toArray, List.set_cons_zero, List.set_cons_succ]
          refine rg_take 25 (some 96) (.pointer (some ⟨U, 1, none⟩)) (by kernel_rfl) (by kernel_rfl) (by kernel_rfl) (fun _ _ _ h => h) (by kernel_rfl) (by kernel_rfl) (by intro w' hSw op_ ho; obtain ⟨q0, q1⟩ := hSw; simp only [List.getElem?_toArray, List.getElem?_cons_succ, List.getElem?_cons_zero, Option.some.injEq] at ho; subst ho; go_simp; (try simp [HMX.out]); (try exact HMEQ.out)) (by assumption) ?_
          try simp only [Act.put, List.setIfInBounds_toArray, List.set_cons_zero, List.set_cons_succ]
          refine rg_take 26 (some 97) (.int .i64 x.id) (by kernel_rfl) (by kernel_rfl) (by kernel_rfl) (fun _ _ _ h => h) (by kernel_rfl) (by kernel_rfl) (by intro w' hSw op_ ho; obtain ⟨q0, q1⟩ := hSw; simp only [List.getElem?_toArray, List.getElem?_cons_succ, List.getElem?_cons_zero, Option.some.injEq] at ho; subst ho; go_simp; (try simp [HMX.out]); (try exact HMEQ.out)) (by assumption) ?_
          try simp only [Act.put, List.setIfInBounds_toArray, List.set_cons_zero, List.set_cons_succ]
          refine rg_take 27 (some 98) (.pointer (some ⟨U, 2, none⟩)) (by kernel_rfl) (by kernel_rfl) (by kernel_rfl) (fun _ _ _ h => h) (by kernel_rfl) (by kernel_rfl) (by intro w' hSw op_ ho; obtain ⟨q0, q1⟩ := hSw; simp only [List.getElem?_toArray, List.getElem?_cons_succ, List.getElem?_cons_zero, Option.some.injEq] at ho; subst ho; go_simp; (try simp [HMX.out]); (try exact HMEQ.out)) (by assumption) ?_
          try simp only [Act.put, List.setIfInBounds_toArray, List.set_cons_zero, List.set_cons_succ]
          refine rg_take 28 (some 99) (.int .i64 x.other) (by kernel_rfl) (by kernel_rfl) (by kernel_rfl) (fun _ _ _ h => h) (by kernel_rfl) (by kernel_rfl) (by intro w' hSw op_ ho; obtain ⟨q0, q1⟩ := hSw; simp only [List.getElem?_toArray, List.getElem?_cons_succ, List.getElem?_cons_zero, Option.some.injEq] at ho; subst ho; go_simp; (try simp [HMX.out]); (try exact HMEQ.out)) (by assumption) ?_
          try simp only [Act.put, List.setIfInBounds_toArray, List.set_cons_zero, List.set_cons_succ]
          refine rg_one 23 (by kernel_rfl) (by kernel_rfl) (fun op_ ho K hK => ?_)
          simp only [List.getElem?_toArray, List.getElem?_cons_succ, List.getElem?_cons_zero, Option.some.injEq] at ho
          subst ho
          go_simp
          go_at_call 18
          refine (HBel.out _ (by (repeat' (first | (with_reducible assumption) | (with_reducible exact Hid.out (by with_reducible assumption)) | (with_reducible refine Rnd.drewN ?_ _) | (with_reducible refine Rnd.drew ?_) | (with_reducible refine Rnd.on (by with_reducible assumption) ?_))))).mono ?_
          rintro e wb ⟨rfl, bb1⟩; have r9 : RI wb (.slice a8 L.length c8) L := RI.on (by (repeat' (first | (with_reducible assumption) | (with_reducible exact Hid.out (by with_reducible assumption)) | (with_reducible refine RI.drewN ?_ _) | (with_reducible refine RI.drew ?_)))) bb1; have k9 : Rnd w wb q b o U x T' T' := Rnd.on bb1 (by (repeat' (first | (with_reducible assumption) | (with_reducible exact Hid.out (by with_reducible assumption)) | (with_reducible refine Rnd.drewN ?_ _) | (with_reducible refine Rnd.drew ?_) | (with_reducible refine Rnd.on (by with_reducible assumption) ?_))))
          go_wp2_with fail
          refine hK.out _ _ (HSS.out _ (by (repeat' (first | (with_reducible assumption) | (with_reducible exact Hid.out (by with_reducible assumption)) | (with_reducible refine Rnd.drewN ?_ _) | (with_reducible refine Rnd.drew ?_) | (with_reducible refine Rnd.on (by with_reducible assumption) ?_))))) (fun hHeld => ?_)
          clear hK
          try simp only [Act.put, List.setIfInBounds_toArray, List.set_cons_zero, List.set_cons_succ]
          refine rg_one 29 (by kernel_rfl) (by kernel_rfl) (fun op_ ho K hK => ?_)
          simp only [List.getElem?_toArray, List.getElem?_cons_succ, List.getElem?_cons_zero, Option.some.injEq] at ho
          subst ho
          go_simp
          go_at_call 19
          refine (HRbe.out _ (by (repeat' (first | (with_reducible assumption) | (with_reducible exact Hid.out (by with_reducible assumption)) | (with_reducible refine Rnd.drewN ?_ _) | (with_reducible refine Rnd.drew ?_) | (with_reducible refine Rnd.on (by with_reducible assumption) ?_))))).mono ?_
          rintro e wc1 ⟨rfl, bb2⟩; have r10 : RI wc1 (.slice a8 L.length c8) L := RI.on (by (repeat' (first | (with_reducible assumption) | (with_reducible exact Hid.out (by with_reducible assumption)) | (with_reducible refine RI.drewN ?_ _) | (with_reducible refine RI.drew ?_)))) bb2; have k10 : Rnd w wc1 q b o U x T' T' := Rnd.on bb2 (by (repeat' (first | (with_reducible assumption) | (with_reducible exact Hid.out (by with_reducible assumption)) | (with_reducible refine Rnd.drewN ?_ _) | (with_reducible refine Rnd.drew ?_) | (with_reducible refine Rnd.on (by with_reducible assumption) ?_))))
          go_wp2_with fail
          refine hK.out _ _ (HSS.out _ (by (repeat' (first | (with_reducible assumption) | (with_reducible exact Hid.out (by with_reducible assumption)) | (with_reducible refine Rnd.drewN ?_ _) | (with_reducible refine Rnd.drew ?_) | (with_reducible refine Rnd.on (by with_reducible assumption) ?_))))) (fun hHeld => ?_)
          clear hK
          try simp only [Act.put, List.setIfInBounds_toArray, List.set_cons_zero, List.set_cons_succ]
          refine rg_take 30 (some 101) (.bool false) (by kernel_rfl) (by kernel_rfl) (by kernel_rfl) (fun _ _ _ h => h) (by kernel_rfl) (by kernel_rfl) (by intro w' hSw op_ ho; obtain ⟨q0, q1⟩ := hSw; simp only [List.getElem?_toArray, List.getElem?_cons_succ, List.getElem?_cons_zero, Option.some.injEq] at ho; subst ho; go_simp; (try simp [HMX.out]); (try exact HMEQ.out)) (by assumption) ?_
          try simp only [Act.put, List.setIfInBounds_toArray, List.set_cons_zero, List.set_cons_succ]
          refine rg_skip 31 (some 102) (by kernel_rfl) (by kernel_rfl) (by kernel_rfl) (fun _ _ _ h => h) (by kernel_rfl) (by kernel_rfl) (by assumption) ?_
          try simp only [Act.put, List.setIfInBounds_toArray, List.set_cons_zero, List.set_cons_succ]
          refine rg_skip 32 (some 103) (by kernel_rfl) (by kernel_rfl) (by kernel_rfl) (fun _ _ _ h => h) (by kernel_rfl) (by kernel_rfl) (by assumption) ?_
          try simp only [Act.put, List.setIfInBounds_toArray, List.set_cons_zero, List.set_cons_succ]
          refine rg_skip 33 (some 104) (by kernel_rfl) (by kernel_rfl) (by kernel_rfl) (fun _ _ _ h => h) (by kernel_rfl) (by kernel_rfl) (by assumption) ?_
          try simp only [Act.put, List.setIfInBounds_toArray, List.set_cons_zero, List.set_cons_succ]
          refine rg_skip 34 (some 105) (by kernel_rfl) (by kernel_rfl) (by kernel_rfl) (fun _ _ _ h => h) (by kernel_rfl) (by kernel_rfl) (by assumption) ?_
          try simp only [Act.put, List.setIfInBounds_toArray, List.set_cons_zero, List.set_cons_succ]
          refine rg_take 35 (some 106) (Value.bool false) (by kernel_rfl) (by kernel_rfl) (by kernel_rfl) (fun _ _ _ h => h) (by kernel_rfl) (by kernel_rfl) (by intro w' hSw op_ ho; obtain ⟨q0, q1⟩ := hSw; simp only [List.getElem?_toArray, List.getElem?_cons_succ, List.getElem?_cons_zero, Option.some.injEq] at ho; subst ho; go_simp; (try simp [HMX.out]); (try exact HMEQ.out)) (by assumption) ?_
          try simp only [Act.put, List.setIfInBounds_toArray, List.set_cons_zero, List.set_cons_succ]
          refine rg_take 36 (some 107) (.bool false) (by kernel_rfl) (by kernel_rfl) (by kernel_rfl) (fun _ _ _ h => h) (by kernel_rfl) (by kernel_rfl) (by intro w' hSw op_ ho; obtain ⟨q0, q1⟩ := hSw; simp only [List.getElem?_toArray, List.getElem?_cons_succ, List.getElem?_cons_zero, Option.some.injEq] at ho; subst ho; go_simp; (try simp [HMX.out]); (try exact HMEQ.out)) (by assumption) ?_
          try simp only [Act.put, List.setIfInBounds_toArray, List.set_cons_zero, List.set_cons_succ]
          refine rg_take 37 (some 108) (.bool false) (by kernel_rfl) (by kernel_rfl) (by kernel_rfl) (fun _ _ _ h => h) (by kernel_rfl) (by kernel_rfl) (by intro w' hSw op_ ho; obtain ⟨q0, q1⟩ := hSw; simp only [List.getElem?_toArray, List.getElem?_cons_succ, List.getElem?_cons_zero, Option.some.injEq] at ho; subst ho; go_simp; (try simp [HMX.out]); (try exact HMEQ.out)) (by assumption) ?_
          try simp only [Act.put, List.setIfInBounds_toArray, List.set_cons_zero, List.set_cons_succ]
          refine rg_take 38 (some 109) (.bool false) (by kernel_rfl) (by kernel_rfl) (by kernel_rfl) (fun _ _ _ h => h) (by kernel_rfl) (by kernel_rfl) (by intro w' hSw op_ ho; obtain ⟨q0, q1⟩ := hSw; simp only [List.getElem?_toArray, List.getElem?_cons_succ, List.getElem?_cons_zero, Option.some.injEq] at ho; subst ho; go_simp; (try simp [HMX.out]); (try exact HMEQ.out)) (by assumption) ?_
          try simp only [Act.put, List.setIfInBounds_toArray, List.set_cons_zero, List.set_cons_succ]
          refine rg_take 39 (some 110) (.pointer (some ⟨q, 0, none⟩)) (by kernel_rfl) (by kernel_rfl) (by kernel_rfl) (fun _ _ _ h => h) (by kernel_rfl) (by kernel_rfl) (by intro w' hSw op_ ho; obtain ⟨q0, q1⟩ := hSw; simp only [List.getElem?_toArray, List.getElem?_cons_succ, List.getElem?_cons_zero, Option.some.injEq] at ho; subst ho; go_simp; (try simp [HMX.out]); (try exact HMEQ.out)) (by assumption) ?_
          try simp only [Act.put, List.setIfInBounds_toArray, List.set_cons_zero, List.set_cons_succ]
          refine rg_take 40 (some 111) (.pointer (some ⟨U, 1, none⟩)) (by kernel_rfl) (by kernel_rfl) (by kernel_rfl) (fun _ _ _ h => h) (by kernel_rfl) (by kernel_rfl) (by intro w' hSw op_ ho; obtain ⟨q0, q1⟩ := hSw; simp only [List.getElem?_toArray, List.getElem?_cons_succ, List.getElem?_cons_zero, Option.some.injEq] at ho; subst ho; go_simp; (try simp [HMX.out]); (try exact HMEQ.out)) (by assumption) ?_
          try simp only [Act.put, List.setIfInBounds_toArray, List.set_cons_zero, List.set_cons_succ]
          refine rg_take 41 (some 112) (.int .i64 x.id) (by kernel_rfl) (by kernel_rfl) (by kernel_rfl) (fun _ _ _ h => h) (by kernel_rfl) (by kernel_rfl) (by intro w' hSw op_ ho; obtain ⟨q0, q1⟩ := hSw; simp only [List.getElem?_toArray, List.getElem?_cons_succ, List.getElem?_cons_zero, Option.some.injEq] at ho; subst ho; go_simp; (try simp [HMX.out]); (try exact HMEQ.out)) (by assumption) ?_
          try simp only [Act.put, List.setIfInBounds_toArray, List.set_cons_zero, List.set_cons_succ]
          refine rg_take 43 (some 114) (.slice a8 L.length c8) (by kernel_rfl) (by kernel_rfl) (by kernel_rfl) (fun _ _ _ h => h) (by kernel_rfl) (by kernel_rfl) (by intro w' hSw op_ ho; obtain ⟨q0, q1⟩ := hSw; simp only [List.getElem?_toArray, List.getElem?_cons_succ, List.getElem?_cons_zero, Option.some.injEq] at ho; subst ho; go_simp; (try simp [HMX.out]); (try exact HMEQ.out)) (by assumption) ?_
          try simp only [Act.put, List.setIfInBounds_toArray, List.set_cons_zero, List.set_cons_succ]
          refine rg_one 42 (by kernel_rfl) (by kernel_rfl) (fun op_ ho K hK => ?_)
          simp only [List.getElem?_toArray, List.getElem?_cons_succ, List.getElem?_cons_zero, Option.some.injEq] at ho
          subst ho
          go_simp
          go_at_call 21
          refine (HPat.out _ (by (repeat' (first | (with_reducible assumption) | (with_reducible exact Hid.out (by with_reducible assumption)) | (with_reducible refine Rnd.drewN ?_ _) | (with_reducible refine Rnd.drew ?_) | (with_reducible refine Rnd.on (by with_reducible assumption) ?_))))).mono ?_
          rintro e wd ⟨ap, cp, rfl, rp, bb3⟩; have r11 : RI wd (.slice a8 L.length c8) L := RI.on (by (repeat' (first | (with_reducible assumption) | (with_reducible exact Hid.out (by with_reducible assumption)) | (with_reducible refine RI.drewN ?_ _) | (with_reducible refine RI.drew ?_)))) bb3; have k11 : Rnd w wd q b o U x T' T' := Rnd.on bb3 (by (repeat' (first | (with_reducible assumption) | (with_reducible exact Hid.out (by with_reducible assumption)) | (with_reducible refine Rnd.drewN ?_ _) | (with_reducible refine Rnd.drew ?_) | (with_reducible refine Rnd.on (by with_reducible assumption) ?_))))
          go_wp2_with fail
          refine hK.out _ _ (HSS.out _ (by (repeat' (first | (with_reducible assumption) | (with_reducible exact Hid.out (by with_reducible assumption)) | (with_reducible refine Rnd.drewN ?_ _) | (with_reducible refine Rnd.drew ?_) | (with_reducible refine Rnd.on (by with_reducible assumption) ?_))))) (fun hHeld => ?_)
          clear hK
          try simp only [Act.put, List.setIfInBounds_toArray, List.set_cons_zero, List.set_cons_succ]
          refine rg_one 44 (by kernel_rfl) (by kernel_rfl) (fun op_ ho K hK => ?_)
          simp only [List.getElem?_toArray, List.getElem?_cons_succ, List.getElem?_cons_zero, Option.some.injEq] at ho
          subst ho
          go_simp
          go_at_call 20
          refine (HInt.out _ _ _ L hLl (by (repeat' (first | (with_reducible assumption) | (with_reducible exact Hid.out (by with_reducible assumption)) | (with_reducible refine RI.drewN ?_ _) | (with_reducible refine RI.drew ?_)))) (by (repeat' (first | (with_reducible assumption) | (with_reducible exact Hid.out (by with_reducible assumption)) | (with_reducible refine RI.drewN ?_ _) | (with_reducible refine RI.drew ?_))))).mono ?_
          rintro e we ⟨rfl, bb4⟩; have k12 : Rnd w we q b o U x T' T' := Rnd.on bb4 (by (repeat' (first | (with_reducible assumption) | (with_reducible exact Hid.out (by with_reducible assumption)) | (with_reducible refine Rnd.drewN ?_ _) | (with_reducible refine Rnd.drew ?_) | (with_reducible refine Rnd.on (by with_reducible assumption) ?_))))
          go_wp2_with fail
          refine hK.out _ _ (HSS.out _ (by (repeat' (first | (with_reducible assumption) | (with_reducible exact Hid.out (by with_reducible assumption)) | (with_reducible refine Rnd.drewN ?_ _) | (with_reducible refine Rnd.drew ?_) | (with_reducible refine Rnd.on (by with_reducible assumption) ?_))))) (fun hHeld => ?_)
          clear hK
          try simp only [Act.put, List.setIfInBounds_toArray, List.set_cons_zero, List.set_cons_succ]
          refine rg_take 45 (some 116) (.bool false) (by kernel_rfl) (by kernel_rfl) (by kernel_rfl) (fun _ _ _ h => h) (by kernel_rfl) (by kernel_rfl) (by intro w' hSw op_ ho; obtain ⟨q0, q1⟩ := hSw; simp only [List.getElem?_toArray, List.getElem?_cons_succ, List.getElem?_cons_zero, Option.some.injEq] at ho; subst ho; go_simp; (try simp [HMX.out]); (try exact HMEQ.out)) (by assumption) ?_
          try simp only [Act.put, List.setIfInBounds_toArray, List.set_cons_zero, List.set_cons_succ]
          refine rg_take 46 (some 117) (.bool false) (by kernel_rfl) (by kernel_rfl) (by kernel_rfl) (fun _ _ _ h => h) (by kernel_rfl) (by kernel_rfl) (by intro w' hSw op_ ho; obtain ⟨q0, q1⟩ := hSw; simp only [List.getElem?_toArray, List.getElem?_cons_succ, List.getElem?_cons_zero, Option.some.injEq] at ho; subst ho; go_simp; (try simp [HMX.out]); (try exact HMEQ.out)) (by assumption) ?_
          try simp only [Act.put, List.setIfInBounds_toArray, List.set_cons_zero, List.set_cons_succ]
          refine rg_take 47 (some 118) (.bool false) (by kernel_rfl) (by kernel_rfl) (by kernel_rfl) (fun _ _ _ h => h) (by kernel_rfl) (by kernel_rfl) (by intro w' hSw op_ ho; obtain ⟨q0, q1⟩ := hSw; simp only [List.getElem?_toArray, List.getElem?_cons_succ, List.getElem?_cons_zero, Option.some.injEq] at ho; subst ho; go_simp; (try simp [HMX.out]); (try exact HMEQ.out)) (by assumption) ?_
          try simp only [Act.put, List.setIfInBounds_toArray, List.set_cons_zero, List.set_cons_succ]
          refine rg_take 48 (some 119) (.pointer (some ⟨q, 0, none⟩)) (by kernel_rfl) (by kernel_rfl) (by kernel_rfl) (fun _ _ _ h => h) (by kernel_rfl) (by kernel_rfl) (by intro w' hSw op_ ho; obtain ⟨q0, q1⟩ := hSw; simp only [List.getElem?_toArray, List.getElem?_cons_succ, List.getElem?_cons_zero, Option.some.injEq] at ho; subst ho; go_simp; (try simp [HMX.out]); (try exact HMEQ.out)) (by assumption) ?_
          try simp only [Act.put, List.setIfInBounds_toArray, List.set_cons_zero, List.set_cons_succ]
          refine rg_take 49 (some 120) (.pointer (some ⟨U, 2, none⟩)) (by kernel_rfl) (by kernel_rfl) (by kernel_rfl) (fun _ _ _ h => h) (by kernel_rfl) (by kernel_rfl) (by intro w' hSw op_ ho; obtain ⟨q0, q1⟩ := hSw; simp only [List.getElem?_toArray, List.getElem?_cons_succ, List.getElem?_cons_zero, Option.some.injEq] at ho; subst ho; go_simp; (try simp [HMX.out]); (try exact HMEQ.out)) (by assumption) ?_
          try simp only [Act.put, List.setIfInBounds_toArray, List.set_cons_zero, List.set_cons_succ]
          refine rg_take 50 (some 121) (.int .i64 x.other) (by kernel_rfl) (by kernel_rfl) (by kernel_rfl) (fun _ _ _ h => h) (by kernel_rfl) (by kernel_rfl) (by intro w' hSw op_ ho; obtain ⟨q0, q1⟩ := hSw; simp only [List.getElem?_toArray, List.getElem?_cons_succ, List.getElem?_cons_zero, Option.some.injEq] at ho; subst ho; go_simp; (try simp [HMX.out]); (try exact HMEQ.out)) (by assumption) ?_
          try simp only [Act.put, List.setIfInBounds_toArray, List.set_cons_zero, List.set_cons_succ]
          refine rg_take 52 (some 123) (.pointer (some ⟨o, 0, none⟩)) (by kernel_rfl) (by kernel_rfl) (by kernel_rfl) (fun _ _ _ h => h) (by kernel_rfl) (by kernel_rfl) (by intro w' hSw op_ ho; obtain ⟨q0, q1⟩ := hSw; simp only [List.getElem?_toArray, List.getElem?_cons_succ, List.getElem?_cons_zero, Option.some.injEq] at ho; subst ho; go_simp; (try simp [HMX.out]); (try exact HMEQ.out)) (by assumption) ?_
          try simp only [Act.put, List.setIfInBounds_toArray, List.set_cons_zero, List.set_cons_succ]
          refine rg_take 53 (some 124) (.pointer (some ⟨U, 2, none⟩)) (by kernel_rfl) (by kernel_rfl) (by kernel_rfl) (fun _ _ _ h => h) (by kernel_rfl) (by kernel_rfl) (by intro w' hSw op_ ho; obtain ⟨q0, q1⟩ := hSw; simp only [List.getElem?_toArray, List.getElem?_cons_succ, List.getElem?_cons_zero, Option.some.injEq] at ho; subst ho; go_simp; (try simp [HMX.out]); (try exact HMEQ.out)) (by assumption) ?_
          try simp only [Act.put, List.setIfInBounds_toArray, List.set_cons_zero, List.set_cons_succ]
          refine rg_take 54 (some 125) (.int .i64 x.other) (by kernel_rfl) (by kernel_rfl) (by kernel_rfl) (fun _ _ _ h => h) (by kernel_rfl) (by kernel_rfl) (by intro w' hSw op_ ho; obtain ⟨q0, q1⟩ := hSw; simp only [List.getElem?_toArray, List.getElem?_cons_succ, List.getElem?_cons_zero, Option.some.injEq] at ho; subst ho; go_simp; (try simp [HMX.out]); (try exact HMEQ.out)) (by assumption) ?_
          try simp only [Act.put, List.setIfInBounds_toArray, List.set_cons_zero, List.set_cons_succ]
          refine rg_one 51 (by kernel_rfl) (by kernel_rfl) (fun op_ ho K hK => ?_)
          simp only [List.getElem?_toArray, List.getElem?_cons_succ, List.getElem?_cons_zero, Option.some.injEq] at ho
          subst ho
          go_simp
          go_at_call 22
          refine (HChi.out _ (by (repeat' (first | (with_reducible assumption) | (with_reducible exact Hid.out (by with_reducible assumption)) | (with_reducible refine Rnd.drewN ?_ _) | (with_reducible refine Rnd.drew ?_) | (with_reducible refine Rnd.on (by with_reducible assumption) ?_))))).mono ?_
          rintro e wf ⟨ac, cc, rfl, rc, bb5⟩; have k13 : Rnd w wf q b o U x T' T' := Rnd.on bb5 (by (repeat' (first | (with_reducible assumption) | (with_reducible exact Hid.out (by with_reducible assumption)) | (with_reducible refine Rnd.drewN ?_ _) | (with_reducible refine Rnd.drew ?_) | (with_reducible refine Rnd.on (by with_reducible assumption) ?_))))
          go_wp2_with fail
          refine hK.out _ _ (HSS.out _ (by (repeat' (first | (with_reducible assumption) | (with_reducible exact Hid.out (by with_reducible assumption)) | (with_reducible refine Rnd.drewN ?_ _) | (with_reducible refine Rnd.drew ?_) | (with_reducible refine Rnd.on (by with_reducible assumption) ?_))))) (fun hHeld => ?_)
          clear hK
          try simp only [Act.put, List.setIfInBounds_toArray, List.set_cons_zero, List.set_cons_succ]
          refine rg_one 55 (by kernel_rfl) (by kernel_rfl) (fun op_ ho K hK => ?_)
          simp only [List.getElem?_toArray, List.getElem?_cons_succ, List.getElem?_cons_zero, Option.some.injEq] at ho
          subst ho
          go_simp
          go_at_call 23
          refine (HRch.out _ (by (repeat' (first | (with_reducible assumption) | (with_reducible exact Hid.out (by with_reducible assumption)) | (with_reducible refine Rnd.drewN ?_ _) | (with_reducible refine Rnd.drew ?_) | (with_reducible refine Rnd.on (by with_reducible assumption) ?_))))).mono ?_
          rintro e wg ⟨ad2, cd2, rfl, rd2, bb6⟩; have r14 : RI wg (.slice ac C.length cc) C := RI.on (by (repeat' (first | (with_reducible assumption) | (with_reducible exact Hid.out (by with_reducible assumption)) | (with_reducible refine RI.drewN ?_ _) | (with_reducible refine RI.drew ?_)))) bb6; have k14 : Rnd w wg q b o U x T' T' := Rnd.on bb6 (by (repeat' (first | (with_reducible assumption) | (with_reducible exact Hid.out (by with_reducible assumption)) | (with_reducible refine Rnd.drewN ?_ _) | (with_reducible refine Rnd.drew ?_) | (with_reducible refine Rnd.on (by with_reducible assumption) ?_))))
          go_wp2_with fail
          refine hK.out _ _ (HSS.out _ (by (repeat' (first | (with_reducible assumption) | (with_reducible exact Hid.out (by with_reducible assumption)) | (with_reducible refine Rnd.drewN ?_ _) | (with_reducible refine Rnd.drew ?_) | (with_reducible refine Rnd.on (by with_reducible assumption) ?_))))) (fun hHeld => ?_)
          clear hK
          try simp only [Act.put, List.setIfInBounds_toArray, List.set_cons_zero, List.set_cons_succ]
          refine rg_one 56 (by kernel_rfl) (by kernel_rfl) (fun op_ ho K hK => ?_)
          simp only [List.getElem?_toArray, List.getElem?_cons_succ, List.getElem?_cons_zero, Option.some.injEq] at ho
          subst ho
          go_simp
          go_at_call 20
          refine (HInt.out _ _ _ C hCl2 (by (repeat' (first | (with_reducible assumption) | (with_reducible exact Hid.out (by with_reducible assumption)) | (with_reducible refine RI.drewN ?_ _) | (with_reducible refine RI.drew ?_)))) (by (repeat' (first | (with_reducible assumption) | (with_reducible exact Hid.out (by with_reducible assumption)) | (with_reducible refine RI.drewN ?_ _) | (with_reducible refine RI.drew ?_))))).mono ?_
          rintro e wh ⟨rfl, bb7⟩; have k15 : Rnd w wh q b o U x T' T' := Rnd.on bb7 (by (repeat' (first | (with_reducible assumption) | (with_reducible exact Hid.out (by with_reducible assumption)) | (with_reducible refine Rnd.drewN ?_ _) | (with_reducible refine Rnd.drew ?_) | (with_reducible refine Rnd.on (by with_reducible assumption) ?_))))
          go_wp2_with fail
          refine hK.out _ _ (HSS.out _ (by (repeat' (first | (with_reducible assumption) | (with_reducible exact Hid.out (by with_reducible assumption)) | (with_reducible refine Rnd.drewN ?_ _) | (with_reducible refine Rnd.drew ?_) | (with_reducible refine Rnd.on (by with_reducible assumption) ?_))))) (fun hHeld => ?_)
          clear hK
          try simp only [Act.put, List.setIfInBounds_toArray, List.set_cons_zero, List.set_cons_succ]
          refine rg_take 57 (some 128) (.bool false) (by kernel_rfl) (by kernel_rfl) (by kernel_rfl) (fun _ _ _ h => h) (by kernel_rfl) (by kernel_rfl) (by intro w' hSw op_ ho; obtain ⟨q0, q1⟩ := hSw; simp only [List.getElem?_toArray, List.getElem?_cons_succ, List.getElem?_cons_zero, Option.some.injEq] at ho; subst ho; go_simp; (try simp [HMX.out]); (try exact HMEQ.out)) (by assumption) ?_
          try simp only [Act.put, List.setIfInBounds_toArray, List.set_cons_zero, List.set_cons_succ]
          refine rg_take 58 (some 129) (.bool false) (by kernel_rfl) (by kernel_rfl) (by kernel_rfl) (fun _ _ _ h => h) (by kernel_rfl) (by kernel_rfl) (by intro w' hSw op_ ho; obtain ⟨q0, q1⟩ := hSw; simp only [List.getElem?_toArray, List.getElem?_cons_succ, List.getElem?_cons_zero, Option.some.injEq] at ho; subst ho; go_simp; (try simp [HMX.out]); (try exact HMEQ.out)) (by assumption) ?_
          try simp only [Act.put, List.setIfInBounds_toArray, List.set_cons_zero, List.set_cons_succ]
          refine rg_take 59 (some 130) (.bool false) (by kernel_rfl) (by kernel_rfl) (by kernel_rfl) (fun _ _ _ h => h) (by kernel_rfl) (by kernel_rfl) (by intro w' hSw op_ ho; obtain ⟨q0, q1⟩ := hSw; simp only [List.getElem?_toArray, List.getElem?_cons_succ, List.getElem?_cons_zero, Option.some.injEq] at ho; subst ho; go_simp; (try simp [HMX.out]); (try exact HMEQ.out)) (by assumption) ?_
          try simp only [Act.put, List.setIfInBounds_toArray, List.set_cons_zero, List.set_cons_succ]
          refine rg_take 60 (some 131) (.pointer (some ⟨q, 0, none⟩)) (by kernel_rfl) (by kernel_rfl) (by kernel_rfl) (fun _ _ _ h => h) (by kernel_rfl) (by kernel_rfl) (by intro w' hSw op_ ho; obtain ⟨q0, q1⟩ := hSw; simp only [List.getElem?_toArray, List.getElem?_cons_succ, List.getElem?_cons_zero, Option.some.injEq] at ho; subst ho; go_simp; (try simp [HMX.out]); (try exact HMEQ.out)) (by assumption) ?_
          try simp only [Act.put, List.setIfInBounds_toArray, List.set_cons_zero, List.set_cons_succ]
          refine rg_take 61 (some 132) (.pointer (some ⟨U, 1, none⟩)) (by kernel_rfl) (by kernel_rfl) (by kernel_rfl) (fun _ _ _ h => h) (by kernel_rfl) (by kernel_rfl) (by intro w' hSw op_ ho; obtain ⟨q0, q1⟩ := hSw; simp only [List.getElem?_toArray, List.getElem?_cons_succ, List.getElem?_cons_zero, Option.some.injEq] at ho; subst ho; go_simp; (try simp [HMX.out]); (try exact HMEQ.out)) (by assumption) ?_
          try simp only [Act.put, List.setIfInBounds_toArray, List.set_cons_zero, List.set_cons_succ]
          refine rg_take 62 (some 133) (.int .i64 x.id) (by kernel_rfl) (by kernel_rfl) (by kernel_rfl) (fun _ _ _ h => h) (by kernel_rfl) (by kernel_rfl) (by intro w' hSw op_ ho; obtain ⟨q0, q1⟩ := hSw; simp only [List.getElem?_toArray, List.getElem?_cons_succ, List.getElem?_cons_zero, Option.some.injEq] at ho; subst ho; go_simp; (try simp [HMX.out]); (try exact HMEQ.out)) (by assumption) ?_
          try simp only [Act.put, List.setIfInBounds_toArray, List.set_cons_zero, List.set_cons_succ]
          refine rg_take 64 (some 135) (.slice a8 L.length c8) (by kernel_rfl) (by kernel_rfl) (by kernel_rfl) (fun _ _ _ h => h) (by kernel_rfl) (by kernel_rfl) (by intro w' hSw op_ ho; obtain ⟨q0, q1⟩ := hSw; simp only [List.getElem?_toArray, List.getElem?_cons_succ, List.getElem?_cons_zero, Option.some.injEq] at ho; subst ho; go_simp; (try simp [HMX.out]); (try exact HMEQ.out)) (by assumption) ?_
          try simp only [Act.put, List.setIfInBounds_toArray, List.set_cons_zero, List.set_cons_succ]
          refine rg_take 65 (some 136) (.int .i64 (L.length : Int)) (by kernel_rfl) (by kernel_rfl) (by kernel_rfl) (fun _ _ _ h => h) (by kernel_rfl) (by kernel_rfl) (by intro w' hSw op_ ho; obtain ⟨q0, q1⟩ := hSw; simp only [List.getElem?_toArray, List.getElem?_cons_succ, List.getElem?_cons_zero, Option.some.injEq] at ho; subst ho; go_simp; (try simp [HMX.out]); (try exact HMEQ.out)) (by assumption) ?_
          try simp only [Act.put, List.setIfInBounds_toArray, List.set_cons_zero, List.set_cons_succ]
          refine rg_take 66 (some 137) (.int .i64 (IntKind.i64.wrap ((L.length : Int) - 1))) (by kernel_rfl) (by kernel_rfl) (by kernel_rfl) (fun _ _ _ h => h) (by kernel_rfl) (by kernel_rfl) (by intro w' hSw op_ ho; obtain ⟨q0, q1⟩ := hSw; simp only [List.getElem?_toArray, List.getElem?_cons_succ, List.getElem?_cons_zero, Option.some.injEq] at ho; subst ho; go_simp; (try simp [HMX.out]); (try exact HMEQ.out)) (by assumption) ?_
          try simp only [Act.put, List.setIfInBounds_toArray, List.set_cons_zero, List.set_cons_succ]
          refine rg_take 67 (some 138) (.int .i64 (max (IntKind.i64.wrap ((L.length : Int) - 1)) 0)) (by kernel_rfl) (by kernel_rfl) (by kernel_rfl) (fun _ _ _ h => h) (by kernel_rfl) (by kernel_rfl) (by intro w' hSw op_ ho; obtain ⟨q0, q1⟩ := hSw; simp only [List.getElem?_toArray, List.getElem?_cons_succ, List.getElem?_cons_zero, Option.some.injEq] at ho; subst ho; go_simp; (try simp [HMX.out]); (try exact HMEQ.out)) (by assumption) ?_
          try simp only [Act.put, List.setIfInBounds_toArray, List.set_cons_zero, List.set_cons_succ]
          refine rg_one 63 (by kernel_rfl) (by kernel_rfl) (fun op_ ho K hK => ?_)
          simp only [List.getElem?_toArray, List.getElem?_cons_succ, List.getElem?_cons_zero, Option.some.injEq] at ho
          subst ho
          go_simp
          go_at_call 24
          refine (HDep.out _ (by (repeat' (first | (with_reducible assumption) | (with_reducible exact Hid.out (by with_reducible assumption)) | (with_reducible refine Rnd.drewN ?_ _) | (with_reducible refine Rnd.drew ?_) | (with_reducible refine Rnd.on (by with_reducible assumption) ?_))))).mono ?_
          rintro e wi ⟨rfl, bb8⟩; have k16 : Rnd w wi q b o U x T' T' := Rnd.on bb8 (by (repeat' (first | (with_reducible assumption) | (with_reducible exact Hid.out (by with_reducible assumption)) | (with_reducible refine Rnd.drewN ?_ _) | (with_reducible refine Rnd.drew ?_) | (with_reducible refine Rnd.on (by with_reducible assumption) ?_))))
          go_wp2_with fail
          refine hK.out _ _ (HSS.out _ (by (repeat' (first | (with_reducible assumption) | (with_reducible exact Hid.out (by with_reducible assumption)) | (with_reducible refine Rnd.drewN ?_ _) | (with_reducible refine Rnd.drew ?_) | (with_reducible refine Rnd.on (by with_reducible assumption) ?_))))) (fun hHeld => ?_)
          clear hK
          try simp only [Act.put, List.setIfInBounds_toArray, List.set_cons_zero, List.set_cons_succ]
          refine rg_take 68 (some 139) (.bool false) (by kernel_rfl) (by kernel_rfl) (by kernel_rfl) (fun _ _ _ h => h) (by kernel_rfl) (by kernel_rfl) (by intro w' hSw op_ ho; obtain ⟨q0, q1⟩ := hSw; simp only [List.getElem?_toArray, List.getElem?_cons_succ, List.getElem?_cons_zero, Option.some.injEq] at ho; subst ho; go_simp; (try simp [HMX.out]); (try exact HMEQ.out)) (by assumption) ?_
          try simp only [Act.put, List.setIfInBounds_toArray, List.set_cons_zero, List.set_cons_succ]
          refine rg_take 69 (some 140) (.bool false) (by kernel_rfl) (by kernel_rfl) (by kernel_rfl) (fun _ _ _ h => h) (by kernel_rfl) (by kernel_rfl) (by intro w' hSw op_ ho; obtain ⟨q0, q1⟩ := hSw; simp only [List.getElem?_toArray, List.getElem?_cons_succ, List.getElem?_cons_zero, Option.some.injEq] at ho; subst ho; go_simp; (try simp [HMX.out]); (try exact HMEQ.out)) (by assumption) ?_
          try simp only [Act.put, List.setIfInBounds_toArray, List.set_cons_zero, List.set_cons_succ]
          refine wpAnyH_done (by kernel_rfl) ?_ _
          all_goals go_wp2_with fail
          all_goals go_meet
          all_goals exact ⟨rfl, by (repeat' (first | (with_reducible assumption) | (with_reducible exact Hid.out (by with_reducible assumption)) | (with_reducible refine Rnd.drewN ?_ _) | (with_reducible refine Rnd.drew ?_) | (with_reducible refine Rnd.on (by with_reducible assumption) ?_)))⟩
      case rest =>
      obtain ⟨rfl, k18⟩ := hcut
      have K18 := Lib.hid k18
      clear k18 HSS HIs HRis HPar HBel HRbe HPat HChi HRch HDep HInt k8 r8
      go_wp2_with fail
      go_roundw
      case rel => exact ⟨i + 1, T', ret_v (by omega), by omega, by omega, HGO.out, HFW.out, K18.out.duo⟩
      case measure => simp [intOf]; omega
    · -- the deeds are done
      go_upto_region 6 with fail
      go_cut [23] (fun cc wx => cc = .bool false ∧ wr = wx)
      case first => as_aux_lemma =>
        by_cases j : i < xs.length
        · have j1 : (i : Int) < (xs.length : Int) := by omega
          have j2 : ¬ (i : Int) < 60 := by omega
          go_wp2_with fail
          go_meet
          exact ⟨rfl, rfl⟩
        · have j1 : ¬ (i : Int) < (xs.length : Int) := by omega
          go_wp2_with fail
          go_meet
          exact ⟨rfl, rfl⟩
      case rest =>
      obtain ⟨rfl, rfl⟩ := hcut
      clear HA HG
      go_wp2_with fail
      refine (all_c q b T _ HD.out.kin.tree).mono ?_
      rintro e w9 ⟨v9, rfl, ho, b9⟩
      have K9 := Lib.hid (HD.out.on b9)
      obtain ⟨L, hL⟩ : ∃ L, alls T = L := ⟨_, rfl⟩
      have HL := Lib.hid hL
      have HR9 : Hid (RI w9 v9 L) := Lib.hid (by rw [← hL]; exact ho.ri)
      have hlen : L.length = T.length := by rw [← hL]; exact HT.out.alls_len
      have hl16 : L.length ≤ 16 := by rw [hlen]; exact HTL.out
      have HLEN := Lib.hid hlen
      obtain ⟨a9, c9, rfl, _⟩ := HR9.out
      clear hL hlen ho b9 HD
      go_wp2_with fail
      refine (rcount_c o T _ K9.out.ref HT.out).mono ?_
      rw [← HLEN.out]
      obtain ⟨m, hm⟩ : ∃ m, L.length = m := ⟨_, rfl⟩
      have HM := Lib.hid hm
      rw [hm] at hl16
      rw [hm]
      clear hm
      rintro e w10 ⟨rfl, rfl⟩
      have mm : ((m : Int) != (m : Int)) = false := by simp
      go_wp2_with fail
      go_loopw [10] (fun J wq => ∃ j : Nat, J = .int .i64 (j : Int) ∧ j ≤ m ∧ Duo w wq q b o T T ∧ Below w10.heap.size w10 wq) (fun J _ => m - (intOf J).toNat)
      case atStart => exact ⟨0, rfl, by omega, K9.out, Below.refl _ _⟩
      case round =>
        obtain ⟨j, rfl, hj, hD2, hb2⟩ := hrel
        have HD2 := Lib.hid hD2; have HB2 := Lib.hid hb2
        clear hD2 hb2 K9 mm
        by_cases hjm : j < m
        · have hjL : j < L.length := by rw [HM.out]; exact hjm
          have hx : L[j]? = some L[j] := List.getElem?_eq_getElem hjL
          obtain ⟨v, hv⟩ : ∃ v, L[j] = v := ⟨_, rfl⟩
          rw [hv] at hx
          have hin : (up T v).isSome = true := HT.out.alls_mem.1 (by rw [HL.out]; exact List.mem_of_getElem? hx)
          have HIN := Lib.hid hin
          obtain ⟨_, _, e1, k1⟩ := HR9.out.on HB2.out
          rw [HM.out] at e1
          cases e1
          obtain ⟨ad9, rfl, cv⟩ := k1 j v hx
          have HC : Hid (∀ W : World, GrAt W o (refF T) → Calls Tryd.prog 14 #[.pointer (some ⟨o, 0, none⟩), .int .i64 v] W fun e w' => e = .returned (.bool true) ∧ w' = W) := Lib.hid fun W h => by
            have := ris_c o T v W h HT.out
            rw [HIN.out] at this
            exact this
          have hGA := HD2.out.ref
          have i0 : (0 : Int) ≤ (j : Int) := by omega
          have i1 : (j : Int) < (m : Int) := by omega
          have HX := Lib.hid hx
          clear hv hin hjL hx
          by_cases hj0 : j = 0
          · as_aux_lemma =>
              have g0 : decide ((0 : Int) < (j : Int)) = false := decide_eq_false (by omega)
              have HJ0 := Lib.hid hj0
              clear k1 hj0
              go_wp2_with fail
              refine wp_region_held_drew (S := fun W => W.cell? (ad9.add j) = some (.int .i64 v)) (by kernel_rfl) ?_ (fun hHeld => ?_)
              · exact cv
              refine rg_take 0 (some 154) (.pointer (some ⟨o, 0, none⟩)) (by kernel_rfl) (by kernel_rfl) (by kernel_rfl) (fun _ _ _ h => h) (by kernel_rfl) (by kernel_rfl) (by intro w' hSw op_ ho; have q0 := hSw; simp only [List.getElem?_toArray, List.getElem?_cons_zero, Option.some.injEq] at ho; subst ho; go_simp; (try simp [g0]); (try exact HJ0.out)) (by assumption) ?_
              try simp only [Act.put, List.setIfInBounds_toArray, List.set_cons_zero, List.set_cons_succ]
              refine rg_take 1 (some 155) (.slice (some ad9) m c9) (by kernel_rfl) (by kernel_rfl) (by kernel_rfl) (fun _ _ _ h => h) (by kernel_rfl) (by kernel_rfl) (by intro w' hSw op_ ho; have q0 := hSw; simp only [List.getElem?_toArray, List.getElem?_cons_succ, List.getElem?_cons_zero, Option.some.injEq] at ho; subst ho; go_simp; (try simp [g0]); (try exact HJ0.out)) (by assumption) ?_
              try simp only [Act.put, List.setIfInBounds_toArray, List.set_cons_zero, List.set_cons_succ]
              refine rg_take 2 (some 156) (.int .i64 ((j : Nat) : Int)) (by kernel_rfl) (by kernel_rfl) (by kernel_rfl) (fun _ _ _ h => h) (by kernel_rfl) (by kernel_rfl) (by intro w' hSw op_ ho; have q0 := hSw; simp only [List.getElem?_toArray, List.getElem?_cons_succ, List.getElem?_cons_zero, Option.some.injEq] at ho; subst ho; go_simp; (try simp [g0]); (try exact HJ0.out)) (by assumption) ?_
              try simp only [Act.put, List.setIfInBounds_toArray, List.set_cons_zero, List.set_cons_succ]
              refine rg_take 3 (some 157) (.pointer (some (ad9.add j))) (by kernel_rfl) (by kernel_rfl) (by kernel_rfl) (fun _ _ _ h => h) (by kernel_rfl) (by kernel_rfl) (by intro w' hSw op_ ho; have q0 := hSw; simp only [List.getElem?_toArray, List.getElem?_cons_succ, List.getElem?_cons_zero, Option.some.injEq] at ho; subst ho; go_simp; (try simp [g0]); (try exact HJ0.out)) (by assumption) ?_
              try simp only [Act.put, List.setIfInBounds_toArray, List.set_cons_zero, List.set_cons_succ]
              refine rg_take 4 (some 158) (.int .i64 v) (by kernel_rfl) (by kernel_rfl) (by kernel_rfl) (fun _ _ _ h => h) (by kernel_rfl) (by kernel_rfl) (by intro w' hSw op_ ho; have q0 := hSw; simp only [List.getElem?_toArray, List.getElem?_cons_succ, List.getElem?_cons_zero, Option.some.injEq] at ho; subst ho; go_simp; (try simp [g0]); (try exact HJ0.out)) (by assumption) ?_
              try simp only [Act.put, List.setIfInBounds_toArray, List.set_cons_zero, List.set_cons_succ]
              refine rg_one 5 (by kernel_rfl) (by kernel_rfl) (fun op_ ho K hK => ?_)
              simp only [List.getElem?_toArray, List.getElem?_cons_succ, List.getElem?_cons_zero, Option.some.injEq] at ho
              subst ho
              go_simp
              go_at_call 14
              refine (HC.out (World.drew _) hGA).mono ?_
              rintro e w5 ⟨rfl, rfl⟩
              go_wp2_with fail
              refine hK.out _ _ (hHeld) (fun hHeld => ?_)
              clear hK
              try simp only [Act.put, List.setIfInBounds_toArray, List.set_cons_zero, List.set_cons_succ]
              refine rg_take 6 (some 160) (.bool false) (by kernel_rfl) (by kernel_rfl) (by kernel_rfl) (fun _ _ _ h => h) (by kernel_rfl) (by kernel_rfl) (by intro w' hSw op_ ho; have q0 := hSw; simp only [List.getElem?_toArray, List.getElem?_cons_succ, List.getElem?_cons_zero, Option.some.injEq] at ho; subst ho; go_simp; (try simp [g0]); (try exact HJ0.out)) (by assumption) ?_
              try simp only [Act.put, List.setIfInBounds_toArray, List.set_cons_zero, List.set_cons_succ]
              refine rg_take 7 (some 161) (.bool false) (by kernel_rfl) (by kernel_rfl) (by kernel_rfl) (fun _ _ _ h => h) (by kernel_rfl) (by kernel_rfl) (by intro w' hSw op_ ho; have q0 := hSw; simp only [List.getElem?_toArray, List.getElem?_cons_succ, List.getElem?_cons_zero, Option.some.injEq] at ho; subst ho; go_simp; (try simp [g0]); (try exact HJ0.out)) (by assumption) ?_
              try simp only [Act.put, List.setIfInBounds_toArray, List.set_cons_zero, List.set_cons_succ]
              refine rg_take 8 (some 162) (.int .i64 ((j : Nat) : Int)) (by kernel_rfl) (by kernel_rfl) (by kernel_rfl) (fun _ _ _ h => h) (by kernel_rfl) (by kernel_rfl) (by intro w' hSw op_ ho; have q0 := hSw; simp only [List.getElem?_toArray, List.getElem?_cons_succ, List.getElem?_cons_zero, Option.some.injEq] at ho; subst ho; go_simp; (try simp [g0]); (try exact HJ0.out)) (by assumption) ?_
              try simp only [Act.put, List.setIfInBounds_toArray, List.set_cons_zero, List.set_cons_succ]
              refine rg_take 9 (some 163) (.bool false) (by kernel_rfl) (by kernel_rfl) (by kernel_rfl) (fun _ _ _ h => h) (by kernel_rfl) (by kernel_rfl) (by intro w' hSw op_ ho; have q0 := hSw; simp only [List.getElem?_toArray, List.getElem?_cons_succ, List.getElem?_cons_zero, Option.some.injEq] at ho; subst ho; go_simp; (try simp [g0]); (try exact HJ0.out)) (by assumption) ?_
              try simp only [Act.put, List.setIfInBounds_toArray, List.set_cons_zero, List.set_cons_succ]
              refine rg_take 10 (some 164) (.bool false) (by kernel_rfl) (by kernel_rfl) (by kernel_rfl) (fun _ _ _ h => h) (by kernel_rfl) (by kernel_rfl) (by intro w' hSw op_ ho; have q0 := hSw; simp only [List.getElem?_toArray, List.getElem?_cons_succ, List.getElem?_cons_zero, Option.some.injEq] at ho; subst ho; go_simp; (try simp [g0]); (try exact HJ0.out)) (by assumption) ?_
              try simp only [Act.put, List.setIfInBounds_toArray, List.set_cons_zero, List.set_cons_succ]
              refine rg_skip 11 (some 165) (by kernel_rfl) (by kernel_rfl) (by kernel_rfl) (fun _ _ _ h => h) (by kernel_rfl) (by kernel_rfl) (by assumption) ?_
              try simp only [Act.put, List.setIfInBounds_toArray, List.set_cons_zero, List.set_cons_succ]
              refine rg_skip 12 (some 166) (by kernel_rfl) (by kernel_rfl) (by kernel_rfl) (fun _ _ _ h => h) (by kernel_rfl) (by kernel_rfl) (by assumption) ?_
              try simp only [Act.put, List.setIfInBounds_toArray, List.set_cons_zero, List.set_cons_succ]
              refine rg_skip 13 (some 167) (by kernel_rfl) (by kernel_rfl) (by kernel_rfl) (fun _ _ _ h => h) (by kernel_rfl) (by kernel_rfl) (by assumption) ?_
              try simp only [Act.put, List.setIfInBounds_toArray, List.set_cons_zero, List.set_cons_succ]
              refine rg_skip 14 (some 168) (by kernel_rfl) (by kernel_rfl) (by kernel_rfl) (fun _ _ _ h => h) (by kernel_rfl) (by kernel_rfl) (by assumption) ?_
              try simp only [Act.put, List.setIfInBounds_toArray, List.set_cons_zero, List.set_cons_succ]
              refine rg_skip 15 (some 169) (by kernel_rfl) (by kernel_rfl) (by kernel_rfl) (fun _ _ _ h => h) (by kernel_rfl) (by kernel_rfl) (by assumption) ?_
              try simp only [Act.put, List.setIfInBounds_toArray, List.set_cons_zero, List.set_cons_succ]
              refine rg_skip 16 (some 170) (by kernel_rfl) (by kernel_rfl) (by kernel_rfl) (fun _ _ _ h => h) (by kernel_rfl) (by kernel_rfl) (by assumption) ?_
              try simp only [Act.put, List.setIfInBounds_toArray, List.set_cons_zero, List.set_cons_succ]
              refine rg_skip 17 (some 171) (by kernel_rfl) (by kernel_rfl) (by kernel_rfl) (fun _ _ _ h => h) (by kernel_rfl) (by kernel_rfl) (by assumption) ?_
              try simp only [Act.put, List.setIfInBounds_toArray, List.set_cons_zero, List.set_cons_succ]
              refine rg_skip 18 (some 172) (by kernel_rfl) (by kernel_rfl) (by kernel_rfl) (fun _ _ _ h => h) (by kernel_rfl) (by kernel_rfl) (by assumption) ?_
              try simp only [Act.put, List.setIfInBounds_toArray, List.set_cons_zero, List.set_cons_succ]
              refine rg_skip 19 (some 173) (by kernel_rfl) (by kernel_rfl) (by kernel_rfl) (fun _ _ _ h => h) (by kernel_rfl) (by kernel_rfl) (by assumption) ?_
              try simp only [Act.put, List.setIfInBounds_toArray, List.set_cons_zero, List.set_cons_succ]
              refine rg_skip 20 (some 174) (by kernel_rfl) (by kernel_rfl) (by kernel_rfl) (fun _ _ _ h => h) (by kernel_rfl) (by kernel_rfl) (by assumption) ?_
              try simp only [Act.put, List.setIfInBounds_toArray, List.set_cons_zero, List.set_cons_succ]
              refine rg_take 21 (some 175) (Value.bool false) (by kernel_rfl) (by kernel_rfl) (by kernel_rfl) (fun _ _ _ h => h) (by kernel_rfl) (by kernel_rfl) (by intro w' hSw op_ ho; have q0 := hSw; simp only [List.getElem?_toArray, List.getElem?_cons_succ, List.getElem?_cons_zero, Option.some.injEq] at ho; subst ho; go_simp; (try simp [g0]); (try exact HJ0.out)) (by assumption) ?_
              try simp only [Act.put, List.setIfInBounds_toArray, List.set_cons_zero, List.set_cons_succ]
              refine rg_take 22 (some 176) (Value.bool false) (by kernel_rfl) (by kernel_rfl) (by kernel_rfl) (fun _ _ _ h => h) (by kernel_rfl) (by kernel_rfl) (by intro w' hSw op_ ho; have q0 := hSw; simp only [List.getElem?_toArray, List.getElem?_cons_succ, List.getElem?_cons_zero, Option.some.injEq] at ho; subst ho; go_simp; (try simp [g0]); (try exact HJ0.out)) (by assumption) ?_
              try simp only [Act.put, List.setIfInBounds_toArray, List.set_cons_zero, List.set_cons_succ]
              refine wpAnyH_done (by kernel_rfl) ?_ _
              all_goals go_wp2_with fail
              all_goals go_roundw
              case rel => exact ⟨j + 1, ret_v (by omega), by omega, Duo.on ((Below.refl _ _).drew) HD2.out, HB2.out.drew⟩
              case measure => simp [intOf]; omega
          · as_aux_lemma =>
              obtain ⟨k, hjk⟩ : ∃ k, j = k + 1 := ⟨j - 1, by omega⟩
              have hkL : k < L.length := by rw [HM.out]; omega
              have hxu : L[k]? = some L[k] := List.getElem?_eq_getElem hkL
              obtain ⟨u, hu⟩ : ∃ u, L[k] = u := ⟨_, rfl⟩
              rw [hu] at hxu
              have hlt : u < v := alls_lt (T := T) (j := k) (by rw [HL.out]; exact hxu) (by rw [HL.out, ← hjk]; exact HX.out)
              obtain ⟨ad9', e9, cu⟩ := k1 k u hxu
              cases e9
              have g0 : decide ((0 : Int) < (j : Int)) = true := decide_eq_true (by omega)
              have GJ : Hid (0 < j) := Lib.hid (by omega)
              have g1 : decide (v ≤ u) = false := decide_eq_false (by omega)
              have k0 : (0 : Int) ≤ (k : Int) := by omega
              have k2 : (k : Int) < (m : Int) := by omega
              have GE : Hid (¬ v ≤ u) := Lib.hid (by omega)
              have ks : IntKind.i64.wrap ((j : Int) - 1) = (k : Int) := by rw [IntWalk.i64_in _ (by omega)]; omega
              clear k1 hu hxu hlt hkL hj0 hjk
              go_wp2_with fail
              refine wp_region_held_drew (S := fun W => W.cell? (ad9.add j) = some (.int .i64 v) ∧ W.cell? (ad9.add k) = some (.int .i64 u)) (by kernel_rfl) ?_ (fun hHeld => ?_)
              · exact ⟨cv, cu⟩
              refine rg_take 0 (some 154) (.pointer (some ⟨o, 0, none⟩)) (by kernel_rfl) (by kernel_rfl) (by kernel_rfl) (fun _ _ _ h => h) (by kernel_rfl) (by kernel_rfl) (by intro w' hSw op_ ho; obtain ⟨q0, q1⟩ := hSw; simp only [List.getElem?_toArray, List.getElem?_cons_zero, Option.some.injEq] at ho; subst ho; go_simp; (try simp [g0, ks, GE.out]); (try exact GJ.out); (try omega)) (by assumption) ?_
              try simp only [Act.put, List.setIfInBounds_toArray, List.set_cons_zero, List.set_cons_succ]
              refine rg_take 1 (some 155) (.slice (some ad9) m c9) (by kernel_rfl) (by kernel_rfl) (by kernel_rfl) (fun _ _ _ h => h) (by kernel_rfl) (by kernel_rfl) (by intro w' hSw op_ ho; obtain ⟨q0, q1⟩ := hSw; simp only [List.getElem?_toArray, List.getElem?_cons_succ, List.getElem?_cons_zero, Option.some.injEq] at ho; subst ho; go_simp; (try simp [g0, ks, GE.out]); (try exact GJ.out); (try omega)) (by assumption) ?_
              try simp only [Act.put, List.setIfInBounds_toArray, List.set_cons_zero, List.set_cons_succ]
              refine rg_take 2 (some 156) (.int .i64 ((j : Nat) : Int)) (by kernel_rfl) (by kernel_rfl) (by kernel_rfl) (fun _ _ _ h => h) (by kernel_rfl) (by kernel_rfl) (by intro w' hSw op_ ho; obtain ⟨q0, q1⟩ := hSw; simp only [List.getElem?_toArray, List.getElem?_cons_succ, List.getElem?_cons_zero, Option.some.injEq] at ho; subst ho; go_simp; (try simp [g0, ks, GE.out]); (try exact GJ.out); (try omega)) (by assumption) ?_
              try simp only [Act.put, List.setIfInBounds_toArray, List.set_cons_zero, List.set_cons_succ]
              refine rg_take 3 (some 157) (.pointer (some (ad9.add j))) (by kernel_rfl) (by kernel_rfl) (by kernel_rfl) (fun _ _ _ h => h) (by kernel_rfl) (by kernel_rfl) (by intro w' hSw op_ ho; obtain ⟨q0, q1⟩ := hSw; simp only [List.getElem?_toArray, List.getElem?_cons_succ, List.getElem?_cons_zero, Option.some.injEq] at ho; subst ho; go_simp; (try simp [g0, ks, GE.out]); (try exact GJ.out); (try omega)) (by assumption) ?_
              try simp only [Act.put, List.setIfInBounds_toArray, List.set_cons_zero, List.set_cons_succ]
              refine rg_take 4 (some 158) (.int .i64 v) (by kernel_rfl) (by kernel_rfl) (by kernel_rfl) (fun _ _ _ h => h) (by kernel_rfl) (by kernel_rfl) (by intro w' hSw op_ ho; obtain ⟨q0, q1⟩ := hSw; simp only [List.getElem?_toArray, List.getElem?_cons_succ, List.getElem?_cons_zero, Option.some.injEq] at ho; subst ho; go_simp; (try simp [g0, ks, GE.out]); (try exact GJ.out); (try omega)) (by assumption) ?_
              try simp only [Act.put, List.setIfInBounds_toArray, List.set_cons_zero, List.set_cons_succ]
              refine rg_one 5 (by kernel_rfl) (by kernel_rfl) (fun op_ ho K hK => ?_)
              simp only [List.getElem?_toArray, List.getElem?_cons_succ, List.getElem?_cons_zero, Option.some.injEq] at ho
              subst ho
              go_simp
              go_at_call 14
              refine (HC.out (World.drew _) hGA).mono ?_
              rintro e w5 ⟨rfl, rfl⟩
              go_wp2_with fail
              refine hK.out _ _ (hHeld) (fun hHeld => ?_)
              clear hK
              try simp only [Act.put, List.setIfInBounds_toArray, List.set_cons_zero, List.set_cons_succ]
              refine rg_take 6 (some 160) (.bool false) (by kernel_rfl) (by kernel_rfl) (by kernel_rfl) (fun _ _ _ h => h) (by kernel_rfl) (by kernel_rfl) (by intro w' hSw op_ ho; obtain ⟨q0, q1⟩ := hSw; simp only [List.getElem?_toArray, List.getElem?_cons_succ, List.getElem?_cons_zero, Option.some.injEq] at ho; subst ho; go_simp; (try simp [g0, ks, GE.out]); (try exact GJ.out); (try omega)) (by assumption) ?_
              try simp only [Act.put, List.setIfInBounds_toArray, List.set_cons_zero, List.set_cons_succ]
              refine rg_take 7 (some 161) (.bool false) (by kernel_rfl) (by kernel_rfl) (by kernel_rfl) (fun _ _ _ h => h) (by kernel_rfl) (by kernel_rfl) (by intro w' hSw op_ ho; obtain ⟨q0, q1⟩ := hSw; simp only [List.getElem?_toArray, List.getElem?_cons_succ, List.getElem?_cons_zero, Option.some.injEq] at ho; subst ho; go_simp; (try simp [g0, ks, GE.out]); (try exact GJ.out); (try omega)) (by assumption) ?_
              try simp only [Act.put, List.setIfInBounds_toArray, List.set_cons_zero, List.set_cons_succ]
              refine rg_take 8 (some 162) (.int .i64 ((j : Nat) : Int)) (by kernel_rfl) (by kernel_rfl) (by kernel_rfl) (fun _ _ _ h => h) (by kernel_rfl) (by kernel_rfl) (by intro w' hSw op_ ho; obtain ⟨q0, q1⟩ := hSw; simp only [List.getElem?_toArray, List.getElem?_cons_succ, List.getElem?_cons_zero, Option.some.injEq] at ho; subst ho; go_simp; (try simp [g0, ks, GE.out]); (try exact GJ.out); (try omega)) (by assumption) ?_
              try simp only [Act.put, List.setIfInBounds_toArray, List.set_cons_zero, List.set_cons_succ]
              refine rg_take 9 (some 163) (.bool true) (by kernel_rfl) (by kernel_rfl) (by kernel_rfl) (fun _ _ _ h => h) (by kernel_rfl) (by kernel_rfl) (by intro w' hSw op_ ho; obtain ⟨q0, q1⟩ := hSw; simp only [List.getElem?_toArray, List.getElem?_cons_succ, List.getElem?_cons_zero, Option.some.injEq] at ho; subst ho; go_simp; (try simp [g0, ks, GE.out]); (try exact GJ.out); (try omega)) (by assumption) ?_
              try simp only [Act.put, List.setIfInBounds_toArray, List.set_cons_zero, List.set_cons_succ]
              refine rg_take 10 (some 164) (.bool true) (by kernel_rfl) (by kernel_rfl) (by kernel_rfl) (fun _ _ _ h => h) (by kernel_rfl) (by kernel_rfl) (by intro w' hSw op_ ho; obtain ⟨q0, q1⟩ := hSw; simp only [List.getElem?_toArray, List.getElem?_cons_succ, List.getElem?_cons_zero, Option.some.injEq] at ho; subst ho; go_simp; (try simp [g0, ks, GE.out]); (try exact GJ.out); (try omega)) (by assumption) ?_
              try simp only [Act.put, List.setIfInBounds_toArray, List.set_cons_zero, List.set_cons_succ]
              refine rg_take 11 (some 165) (.slice (some ad9) m c9) (by kernel_rfl) (by kernel_rfl) (by kernel_rfl) (fun _ _ _ h => h) (by kernel_rfl) (by kernel_rfl) (by intro w' hSw op_ ho; obtain ⟨q0, q1⟩ := hSw; simp only [List.getElem?_toArray, List.getElem?_cons_succ, List.getElem?_cons_zero, Option.some.injEq] at ho; subst ho; go_simp; (try simp [g0, ks, GE.out]); (try exact GJ.out); (try omega)) (by assumption) ?_
              try simp only [Act.put, List.setIfInBounds_toArray, List.set_cons_zero, List.set_cons_succ]
              refine rg_take 12 (some 166) (.int .i64 ((j : Nat) : Int)) (by kernel_rfl) (by kernel_rfl) (by kernel_rfl) (fun _ _ _ h => h) (by kernel_rfl) (by kernel_rfl) (by intro w' hSw op_ ho; obtain ⟨q0, q1⟩ := hSw; simp only [List.getElem?_toArray, List.getElem?_cons_succ, List.getElem?_cons_zero, Option.some.injEq] at ho; subst ho; go_simp; (try simp [g0, ks, GE.out]); (try exact GJ.out); (try omega)) (by assumption) ?_
              try simp only [Act.put, List.setIfInBounds_toArray, List.set_cons_zero, List.set_cons_succ]
              refine rg_take 13 (some 167) (.int .i64 (k : Int)) (by kernel_rfl) (by kernel_rfl) (by kernel_rfl) (fun _ _ _ h => h) (by kernel_rfl) (by kernel_rfl) (by intro w' hSw op_ ho; obtain ⟨q0, q1⟩ := hSw; simp only [List.getElem?_toArray, List.getElem?_cons_succ, List.getElem?_cons_zero, Option.some.injEq] at ho; subst ho; go_simp; (try simp [g0, ks, GE.out]); (try exact GJ.out); (try omega)) (by assumption) ?_
              try simp only [Act.put, List.setIfInBounds_toArray, List.set_cons_zero, List.set_cons_succ]
              refine rg_take 14 (some 168) (.pointer (some (ad9.add k))) (by kernel_rfl) (by kernel_rfl) (by kernel_rfl) (fun _ _ _ h => h) (by kernel_rfl) (by kernel_rfl) (by intro w' hSw op_ ho; obtain ⟨q0, q1⟩ := hSw; simp only [List.getElem?_toArray, List.getElem?_cons_succ, List.getElem?_cons_zero, Option.some.injEq] at ho; subst ho; go_simp; (try simp [g0, ks, GE.out]); (try exact GJ.out); (try omega)) (by assumption) ?_
              try simp only [Act.put, List.setIfInBounds_toArray, List.set_cons_zero, List.set_cons_succ]
              refine rg_take 15 (some 169) (.int .i64 u) (by kernel_rfl) (by kernel_rfl) (by kernel_rfl) (fun _ _ _ h => h) (by kernel_rfl) (by kernel_rfl) (by intro w' hSw op_ ho; obtain ⟨q0, q1⟩ := hSw; simp only [List.getElem?_toArray, List.getElem?_cons_succ, List.getElem?_cons_zero, Option.some.injEq] at ho; subst ho; go_simp; (try simp [g0, ks, GE.out]); (try exact GJ.out); (try omega)) (by assumption) ?_
              try simp only [Act.put, List.setIfInBounds_toArray, List.set_cons_zero, List.set_cons_succ]
              refine rg_take 16 (some 170) (.slice (some ad9) m c9) (by kernel_rfl) (by kernel_rfl) (by kernel_rfl) (fun _ _ _ h => h) (by kernel_rfl) (by kernel_rfl) (by intro w' hSw op_ ho; obtain ⟨q0, q1⟩ := hSw; simp only [List.getElem?_toArray, List.getElem?_cons_succ, List.getElem?_cons_zero, Option.some.injEq] at ho; subst ho; go_simp; (try simp [g0, ks, GE.out]); (try exact GJ.out); (try omega)) (by assumption) ?_
              try simp only [Act.put, List.setIfInBounds_toArray, List.set_cons_zero, List.set_cons_succ]
              refine rg_take 17 (some 171) (.int .i64 ((j : Nat) : Int)) (by kernel_rfl) (by kernel_rfl) (by kernel_rfl) (fun _ _ _ h => h) (by kernel_rfl) (by kernel_rfl) (by intro w' hSw op_ ho; obtain ⟨q0, q1⟩ := hSw; simp only [List.getElem?_toArray, List.getElem?_cons_succ, List.getElem?_cons_zero, Option.some.injEq] at ho; subst ho; go_simp; (try simp [g0, ks, GE.out]); (try exact GJ.out); (try omega)) (by assumption) ?_
              try simp only [Act.put, List.setIfInBounds_toArray, List.set_cons_zero, List.set_cons_succ]
              refine rg_take 18 (some 172) (.pointer (some (ad9.add j))) (by kernel_rfl) (by kernel_rfl) (by kernel_rfl) (fun _ _ _ h => h) (by kernel_rfl) (by kernel_rfl) (by intro w' hSw op_ ho; obtain ⟨q0, q1⟩ := hSw; simp only [List.getElem?_toArray, List.getElem?_cons_succ, List.getElem?_cons_zero, Option.some.injEq] at ho; subst ho; go_simp; (try simp [g0, ks, GE.out]); (try exact GJ.out); (try omega)) (by assumption) ?_
              try simp only [Act.put, List.setIfInBounds_toArray, List.set_cons_zero, List.set_cons_succ]
              refine rg_take 19 (some 173) (.int .i64 v) (by kernel_rfl) (by kernel_rfl) (by kernel_rfl) (fun _ _ _ h => h) (by kernel_rfl) (by kernel_rfl) (by intro w' hSw op_ ho; obtain ⟨q0, q1⟩ := hSw; simp only [List.getElem?_toArray, List.getElem?_cons_succ, List.getElem?_cons_zero, Option.some.injEq] at ho; subst ho; go_simp; (try simp [g0, ks, GE.out]); (try exact GJ.out); (try omega)) (by assumption) ?_
              try simp only [Act.put, List.setIfInBounds_toArray, List.set_cons_zero, List.set_cons_succ]
              refine rg_take 20 (some 174) (.bool false) (by kernel_rfl) (by kernel_rfl) (by kernel_rfl) (fun _ _ _ h => h) (by kernel_rfl) (by kernel_rfl) (by intro w' hSw op_ ho; obtain ⟨q0, q1⟩ := hSw; simp only [List.getElem?_toArray, List.getElem?_cons_succ, List.getElem?_cons_zero, Option.some.injEq] at ho; subst ho; go_simp; (try simp [g0, ks, GE.out]); (try exact GJ.out); (try omega)) (by assumption) ?_
              try simp only [Act.put, List.setIfInBounds_toArray, List.set_cons_zero, List.set_cons_succ]
              refine rg_take 21 (some 175) (.bool false) (by kernel_rfl) (by kernel_rfl) (by kernel_rfl) (fun _ _ _ h => h) (by kernel_rfl) (by kernel_rfl) (by intro w' hSw op_ ho; obtain ⟨q0, q1⟩ := hSw; simp only [List.getElem?_toArray, List.getElem?_cons_succ, List.getElem?_cons_zero, Option.some.injEq] at ho; subst ho; go_simp; (try simp [g0, ks, GE.out]); (try exact GJ.out); (try omega)) (by assumption) ?_
              try simp only [Act.put, List.setIfInBounds_toArray, List.set_cons_zero, List.set_cons_succ]
              refine rg_take 22 (some 176) (.bool false) (by kernel_rfl) (by kernel_rfl) (by kernel_rfl) (fun _ _ _ h => h) (by kernel_rfl) (by kernel_rfl) (by intro w' hSw op_ ho; obtain ⟨q0, q1⟩ := hSw; simp only [List.getElem?_toArray, List.getElem?_cons_succ, List.getElem?_cons_zero, Option.some.injEq] at ho; subst ho; go_simp; (try simp [g0, ks, GE.out]); (try exact GJ.out); (try omega)) (by assumption) ?_
              try simp only [Act.put, List.setIfInBounds_toArray, List.set_cons_zero, List.set_cons_succ]
              refine wpAnyH_done (by kernel_rfl) ?_ _
              all_goals go_wp2_with fail
              all_goals go_roundw
              case rel => exact ⟨j + 1, ret_v (by omega), by omega, Duo.on ((Below.refl _ _).drew) HD2.out, HB2.out.drew⟩
              case measure => simp [intOf]; omega
        · have j1 : ¬ (j : Int) < (m : Int) := by omega
          clear HR9 HB2
          go_wp2_with fail
          refine (add_nil s 1 1 _ (HD2.out.sent HS.out)).mono ?_
          rintro e w11 ⟨rfl, rfl⟩
          go_wp2_with fail
          refine (kind_errV s 2 _ (HD2.out.sent HS.out) (by omega)).mono ?_
          rintro e w12 ⟨rfl, b12⟩
          have K12 := Lib.hid (HD2.out.on b12)
          clear b12 HD2
          go_wp2_with fail
          refine (drop_nil s 1 _ (K12.out.sent HS.out)).mono ?_
          rintro e w13 ⟨rfl, rfl⟩
          go_wp2_with fail
          refine (kind_errV s 2 _ (K12.out.sent HS.out) (by omega)).mono ?_
          rintro e w14 ⟨rfl, b14⟩
          have K14 := Lib.hid (K12.out.on b14)
          clear b14 K12
          go_wp2_with fail
          refine (parent_nil 1 _ (by omega) (by omega)).mono ?_
          rintro e w15 ⟨rfl, rfl⟩
          go_wp2_with fail
          refine (is_nil_c 1 _ (by omega) (by omega)).mono ?_
          rintro e w15 ⟨rfl, rfl⟩
          go_wp2_with fail
          refine (below_nil 1 1 _ (by omega) (by omega)).mono ?_
          rintro e w15 ⟨rfl, rfl⟩
          go_wp2_with fail
          refine (path_nil 1 _ (by omega) (by omega)).mono ?_
          rintro e w15 ⟨rfl, rfl⟩
          go_wp2_with fail
          refine (children_nil 1 _ (by omega) (by omega)).mono ?_
          rintro e w15 ⟨rfl, rfl⟩
          go_wp2_with fail
          refine (all_nil _).mono ?_
          rintro e w16 ⟨rfl, b16⟩
          have K16 := Lib.hid (K14.out.on b16)
          clear b16 K14
          go_wp2_with fail
          refine (depth_nil 1 _ (by omega) (by omega)).mono ?_
          rintro e w17 ⟨rfl, rfl⟩
          go_wp2_with fail
          go_ret
          exact ⟨rfl, K16.out.kin.below⟩
end Go.Proofs.YtaibmdjcppeopaaDoor
