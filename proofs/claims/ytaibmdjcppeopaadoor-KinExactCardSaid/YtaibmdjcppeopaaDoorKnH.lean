/- Trees in which each came behind its parent, numbered as they came; the walk of the law KinDown. Condition: the sentinels lie where the program's text lays them. -/
import Derived.Test.YtaibmdjcppeopaaDoorKnG
namespace Go.Proofs.YtaibmdjcppeopaaDoor
open Go Go.RowKit Go.Maps Go.Sort

theorem mod_pos (i : Int) (k : Nat) (h0 : 0 < k) (h1 : k ≤ 1000000) : ∃ m : Nat, m < k ∧ wrap64 ((IntKind.u64.wrap i).tmod (k : Int)) = (m : Int) := by
  have hu : 0 ≤ IntKind.u64.wrap i := by rw [IntKind.wrap_u64]; omega
  have hk : (0 : Int) < (k : Int) := by omega
  have e : (IntKind.u64.wrap i).tmod (k : Int) = IntKind.u64.wrap i % (k : Int) := Int.tmod_eq_emod_of_nonneg hu
  have hlo := Int.emod_nonneg (IntKind.u64.wrap i) (Int.ne_of_gt hk)
  have hhi := Int.emod_lt_of_pos (IntKind.u64.wrap i) hk
  refine ⟨(IntKind.u64.wrap i % (k : Int)).toNat, by omega, ?_⟩
  rw [e]
  have hw : wrap64 (IntKind.u64.wrap i % (k : Int)) = IntKind.u64.wrap i % (k : Int) := by
    generalize IntKind.u64.wrap i % (k : Int) = z at hlo hhi
    unfold wrap64; omega
  rw [hw]; omega

/-- The tenants 1 to n, each below an earlier one. -/
inductive Line : Nat → Kin → Prop
  | one : Line 1 [(1, 0)]
  | more {n : Nat} {T : Kin} {p : Int} (l : Line n T) (h0 : 1 ≤ p) (h1 : p ≤ n) (h2 : n < 16) : Line (n + 1) ((((n : Int) + 1), p) :: T)
theorem Line.keys {n : Nat} {T : Kin} (h : Line n T) (x : Int) : (up T x).isSome = true ↔ 1 ≤ x ∧ x ≤ n := by
  induction h with
  | one =>
    rw [up_cons]
    by_cases e : x = 1
    · subst e; simp
    · rw [if_neg e]; constructor
      · intro k; cases k
      · intro k; omega
  | @more n T p l h0 h1 h2 ih =>
    rw [up_cons]
    by_cases e : x = (n : Int) + 1
    · rw [if_pos e]; simp; omega
    · rw [if_neg e, ih]; omega
theorem Line.out {n : Nat} {T : Kin} (h : Line n T) {x : Int} (hx : ¬ (1 ≤ x ∧ x ≤ n)) : up T x = none := by
  cases e : up T x with
  | none => rfl
  | some p => exact absurd ((h.keys x).1 (by rw [e]; rfl)) hx
theorem Line.len {n : Nat} {T : Kin} (h : Line n T) : T.length = n ∧ 1 ≤ n ∧ n ≤ 16 := by
  induction h with
  | one => exact ⟨rfl, by omega, by omega⟩
  | more l h0 h1 h2 ih => exact ⟨by rw [List.length_cons, ih.1], by omega, by omega⟩
theorem Line.good {n : Nat} {T : Kin} (h : Line n T) : Good T := by
  induction h with
  | one => exact .root
  | @more n T p l h0 h1 h2 ih => exact .add ih (l.out (by omega)) (by omega) (by omega) ((l.keys p).2 ⟨h0, h1⟩)
theorem Line.parent {n : Nat} {T : Kin} (h : Line n T) {x p : Int} (hx : up T x = some p) : p < x := by
  induction h with
  | one =>
    rw [up_cons] at hx
    by_cases e : x = 1
    · rw [if_pos e] at hx; cases hx; omega
    · rw [if_neg e] at hx; cases hx
  | @more n T q l h0 h1 h2 ih =>
    rw [up_cons] at hx
    by_cases e : x = (n : Int) + 1
    · rw [if_pos e] at hx; cases hx; omega
    · rw [if_neg e] at hx; exact ih hx
theorem Line.add {n : Nat} {T : Kin} (h : Line n T) {p : Int} (h0 : 1 ≤ p) (h1 : p ≤ n) (h2 : n < 16) : addErr T ((n : Int) + 1) p = 0 ∧ added T ((n : Int) + 1) p = ((n : Int) + 1, p) :: T := by
  have e : addErr T ((n : Int) + 1) p = 0 := by
    unfold addErr
    have hp := (h.keys p).2 ⟨h0, h1⟩
    rw [if_neg (by omega), if_neg (by rw [h.out (by omega)]; simp), if_neg (by simpa [Option.isSome_iff_ne_none] using hp), if_neg (by have := h.len; omega)]
  exact ⟨e, by unfold added; rw [if_pos e]⟩
theorem Line.last {n : Nat} {T : Kin} (h : Line (n + 1) T) (hn : 0 < n) : ∃ p T', T = ((n : Int) + 1, p) :: T' ∧ Line n T' ∧ 1 ≤ p ∧ p ≤ n := by
  generalize hm : n + 1 = m at h
  cases h with
  | one => omega
  | @more k T' p l h0 h1 h2 =>
    obtain rfl : n = k := by omega
    exact ⟨p, T', rfl, l, h0, h1⟩
theorem nil_of_mem {l : List Int} (h : ∀ x, ¬ x ∈ l) : l = [] := by
  cases l with
  | nil => rfl
  | cons a l => exact absurd (List.mem_cons_self) (h a)
/-- The last that came has nobody below. -/
theorem Line.last_kids {n : Nat} {T : Kin} (h : Line n T) : kids T (n : Int) = [] := nil_of_mem fun y hy => by
  have hu := h.good.kids_mem.1 hy
  have h1 := h.parent hu
  have h2 := (h.keys y).1 (by rw [hu]; rfl)
  omega
theorem Line.drop {n : Nat} {T : Kin} {p : Int} (h : Line (n + 1) (((n : Int) + 1, p) :: T)) (l : Line n T) : dropErr (((n : Int) + 1, p) :: T) ((n : Int) + 1) = 0 ∧ dropped (((n : Int) + 1, p) :: T) ((n : Int) + 1) = T := by
  have hk := h.last_kids
  rw [show (((n + 1 : Nat)) : Int) = (n : Int) + 1 by omega] at hk
  have e : dropErr (((n : Int) + 1, p) :: T) ((n : Int) + 1) = 0 := by
    unfold dropErr
    rw [if_neg (by rw [up_cons, if_pos rfl]; simp), if_neg]
    rintro (e | e)
    · have := l.len; omega
    · exact e hk
  refine ⟨e, ?_⟩
  unfold dropped
  rw [if_pos e, rid_cons, if_pos rfl, rid_none l.good (l.out (by omega))]
theorem Line.kids_more {n : Nat} {T : Kin} {p : Int} (h : Line (n + 1) (((n : Int) + 1, p) :: T)) (l : Line n T) : (kids (((n : Int) + 1, p) :: T) p).length = (kids T p).length + 1 := by
  rw [h.good.kids_len, l.good.kids_len, List.filter_cons, if_pos (by simp), List.length_cons]
theorem Line.childs {n : Nat} {T : Kin} (h : Line n T) {p : Int} (h0 : 1 ≤ p) (h1 : p ≤ n) : childs T p = kids T p := by
  unfold Go.Proofs.YtaibmdjcppeopaaDoor.childs
  rw [if_pos ((h.keys p).2 ⟨h0, h1⟩)]
theorem kids_few (T : Kin) (g : Good T) (hf : T.length ≤ 16) (x : Int) : (kids T x).length ≤ 16 := by
  rw [g.kids_len]
  exact Nat.le_trans (List.length_filter_le _ _) hf
theorem alls_one : alls [(1, 0)] = [1] := by
  have h1 : (alls [(1, 0)]).length = 1 := Good.root.alls_len
  have h2 : (1 : Int) ∈ alls [(1, 0)] := Good.root.alls_mem.2 rfl
  generalize alls [(1, 0)] = L at h1 h2
  match L, h1, h2 with
  | [a], _, h2 => simp at h2; rw [h2]
theorem kids_one : kids [(1, 0)] 1 = [] := Line.one.last_kids
theorem drop_one : dropErr [(1, 0)] 1 = 13 ∧ dropped [(1, 0)] 1 = [(1, 0)] := by
  have e : dropErr [(1, 0)] 1 = 13 := by unfold dropErr; rw [if_neg (by decide), if_pos (.inl rfl)]
  exact ⟨e, by unfold dropped; rw [e]; rfl⟩

/-- What a round of the building begins with. -/
def Build (w : World) (q b m : Nat) (N I : Value) (wr : World) : Prop := ∃ (n : Nat) (T : Kin), N = .int .i64 ((n : Int) + 1) ∧ I = .int .i64 (n : Int) ∧ n ≤ 15 ∧ n ≤ m ∧ Line (n + 1) T ∧ KinAt w wr q b T
/-- What a round of the taking down begins with. -/
def Fell (w : World) (q b : Nat) (N : Value) (wr : World) : Prop := ∃ (n : Nat) (T : Kin), N = .int .i64 ((n : Int) + 1) ∧ Line (n + 1) T ∧ KinAt w wr q b T

set_option maxHeartbeats 3200000 in
set_option maxRecDepth 100000 in
theorem down_any (s : Nat → Addr) (v : Value) (zs : List Int) (w : World) (hs : Sent s w) (hz : RI w v zs) (hl : zs.length ≤ 9223372036854775807) :
    Calls Tryd.prog 5 #[v] w fun e w' => e = .returned (.bool true) ∧ Below w.heap.size w w' := by
  have HS := Lib.hid hs; have HZ := Lib.hid hz
  obtain ⟨A, c, rfl, _⟩ := hz
  clear hs
  go_enter Tryd.func5, Tryd.ntmps5
  go_wp2_with fail
  refine (awake_c s _ HS.out).mono ?_
  rintro e w1 ⟨rfl, b1⟩
  have HB1 := Lib.hid b1; clear b1
  go_wp2_with fail
  refine (new_c _).mono ?_
  rintro e w2 ⟨q, b, rfl, t2, b2, lb, lq⟩
  have HST : Hid (Build w q b zs.length (.int .i64 1) (.int .i64 0) w2) := Lib.hid ⟨0, _, rfl, rfl, by omega, by omega, .one, ⟨t2, HB1.out.trans (b2.mono HB1.out.size), Nat.le_trans HB1.out.size lq, Nat.le_trans HB1.out.size lb⟩⟩
  clear t2 b2 lb lq HB1
  go_wp2_with fail
  go_loopw [4, 5] (fun N I wr => Build w q b zs.length N I wr) (fun _ I _ => 15 - (intOf I).toNat)
  case atStart => exact HST.out
  case round =>
    clear HST
    obtain ⟨n, T, rfl, rfl, hn, hm, hL, hK⟩ := hrel
    have HK := Lib.hid hK; have HL := Lib.hid hL
    clear hK hL
    by_cases hjn : n < zs.length
    · have j1 : (n : Int) < (zs.length : Int) := by omega
      have j0 : (0 : Int) ≤ (n : Int) := by omega
      by_cases h15 : n < 15
      · have j2 : decide ((n : Int) < 15) = true := decide_eq_true (by omega)
        have hx : zs[n]? = some zs[n] := List.getElem?_eq_getElem hjn
        obtain ⟨_, _, e1, k1⟩ := HZ.out.on HK.out.below
        obtain ⟨a, ha, ca⟩ := k1 n _ hx
        cases e1
        subst ha
        clear k1
        obtain ⟨z, hzz⟩ : ∃ z, zs[n] = z := ⟨_, rfl⟩
        rw [hzz] at ca
        clear hx hzz
        obtain ⟨m, hmk, em⟩ := mod_pos z (n + 1) (by omega) (by omega)
        have em2 : wrap64 (1 + wrap64 ((IntKind.u64.wrap z).tmod ((n : Int) + 1))) = (m : Int) + 1 := by
          rw [show ((n : Int) + 1) = (((n + 1 : Nat)) : Int) by omega, em]; unfold wrap64; omega
        clear em
        have HA := Lib.hid (HL.out.add (p := (m : Int) + 1) (by omega) (by omega) (by omega))
        rw [show (((n + 1 : Nat)) : Int) = (n : Int) + 1 by omega] at HA
        have HN : Hid (Line (n + 1 + 1) (((n : Int) + 1 + 1, (m : Int) + 1) :: T)) := Lib.hid (HL.out.more (p := (m : Int) + 1) (by omega) (by omega) (by omega))
        go_wp2_with fail
        rw [em2]
        refine (add_c s q b _ _ _ _ (HK.out.sent HS.out) HK.out.tree (by omega) (by omega) (by omega) (by omega)).mono ?_
        rw [HA.out.1, HA.out.2]
        rintro e w3 ⟨rfl, t3, g3⟩
        have HK3 := Lib.hid (HK.out.grown t3 g3); clear HK t3 g3
        rw [errV_zero]
        clear em2 ca hmk
        go_wp2_with fail
        go_roundw
        case rel => exact ⟨n + 1, _, ret_v (by omega), ret_v (by omega), by omega, by omega, HN.out, HK3.out⟩
        case measure => simp [intOf]; omega
      · have j2 : decide ((n : Int) < 15) = false := decide_eq_false (by omega)
        have HF : Hid (Fell w q b (.int .i64 ((n : Int) + 1)) wr) := Lib.hid ⟨n, T, rfl, HL.out, HK.out⟩
        clear HK HL
        go_wp2_with fail
        go_loopw [4] (fun N wr => Fell w q b N wr) (fun N _ => (intOf N).toNat)
        case atStart => exact HF.out
        case round =>
          clear HF HZ hl
          obtain ⟨n, T, rfl, hL, hK⟩ := hrel
          by_cases h0 : n = 0
          · subst h0
            have hT : T = [(1, 0)] := by cases hL with | one => rfl | more l _ _ _ => have := l.len; omega
            subst hT
            have HK := Lib.hid hK
            clear hK hL
            have g0 : decide ((1 : Int) < ((0 : Nat) : Int) + 1) = false := by decide
            go_wp2_with fail
            refine (all_c q b _ _ HK.out.tree).mono ?_
            rw [alls_one]
            rintro e w3 ⟨v, rfl, ho, b3⟩
            have HK3 := Lib.hid (HK.out.on b3); clear HK b3
            obtain ⟨a, ca, e1, k1⟩ := ho.ri
            obtain ⟨a, rfl, c0⟩ := k1 0 1 rfl
            replace c0 : w3.cell? a = some (.int .i64 1) := c0
            subst e1
            clear k1 ho
            go_wp2_with fail
            refine (drop_c s q b _ 1 _ (HK3.out.sent HS.out) HK3.out.tree (by decide) (by decide)).mono ?_
            rw [drop_one.1, drop_one.2]
            rintro e w4 ⟨rfl, t4, g4⟩
            have HK4 := Lib.hid (HK3.out.chg t4 g4); clear HK3 t4 g4 c0
            go_wp2_with fail
            refine (kind_errV s 13 _ (HK4.out.sent HS.out) (by omega)).mono ?_
            rintro e w5 ⟨rfl, b5⟩
            have HK5 := Lib.hid (HK4.out.on b5); clear HK4 b5
            go_wp2_with fail
            refine (kids_c q b _ 1 _ HK5.out.tree (by decide) (by decide)).mono ?_
            rw [Line.one.childs (by omega) (by omega), kids_one]
            rintro e w6 ⟨v6, rfl, ho, b6⟩
            have HK6 := Lib.hid (HK5.out.on b6); clear HK5 b6
            obtain ⟨a6, c6, rfl⟩ := ho.sl
            clear ho
            go_wp2_with fail
            go_ret
            exact ⟨rfl, HK6.out.below⟩
          · obtain ⟨m, rfl⟩ : ∃ m, n = m + 1 := ⟨n - 1, by omega⟩
            obtain ⟨p, T', rfl, hl', p0, p1⟩ := hL.last (by omega)
            have hlen := hl'.len
            have g0 : decide ((1 : Int) < ((m + 1 : Nat) : Int) + 1) = true := decide_eq_true (by omega)
            have HK := Lib.hid hK
            have HD := Lib.hid (hL.drop hl')
            have HCH : Hid (childs (((((m + 1 : Nat)) : Int) + 1, p) :: T') p = kids (((((m + 1 : Nat)) : Int) + 1, p) :: T') p ∧ childs T' p = kids T' p) := Lib.hid ⟨hL.childs (by omega) (by omega), hl'.childs p0 p1⟩
            have HCL := Lib.hid (hL.kids_more hl')
            have HKF := Lib.hid (kids_few T' hl'.good (by omega) p)
            have HLL := Lib.hid hl'
            have hup : Hid ((up (((((m + 1 : Nat)) : Int) + 1, p) :: T') ((((m + 1 : Nat)) : Int) + 1)).getD 0 = p) := Lib.hid (by rw [up_cons, if_pos rfl]; rfl)
            obtain ⟨N, hN⟩ : ∃ N : Int, ((((m + 1 : Nat)) : Int) + 1) = N := ⟨_, rfl⟩
            have hN0 : 0 ≤ N ∧ N ≤ 100 := by omega
            rw [hN] at HD HCH HCL hup HK g0 ⊢
            have HN := Lib.hid hN
            clear hL hK hl' hN
            go_wp2_with fail
            refine (parent_c q b _ N _ HK.out.tree (by omega) (by omega)).mono ?_
            rw [hup.out]
            rintro e w3 ⟨rfl, rfl⟩
            go_wp2_with fail
            refine (kids_c q b _ p _ HK.out.tree (by omega) (by omega)).mono ?_
            rw [HCH.out.1]
            rintro e w4 ⟨v4, rfl, ho, b4⟩
            have HK4 := Lib.hid (HK.out.on b4); clear HK b4
            obtain ⟨a4, c4, rfl⟩ := ho.sl
            rw [HCL.out]
            clear ho
            go_wp2_with fail
            refine (drop_c s q b _ N _ (HK4.out.sent HS.out) HK4.out.tree (by omega) (by omega)).mono ?_
            rw [HD.out.1, HD.out.2]
            rintro e w5 ⟨rfl, t5, g5⟩
            have HK5 := Lib.hid (HK4.out.chg t5 g5); clear HK4 t5 g5
            rw [errV_zero]
            go_wp2_with fail
            refine (kids_c q b _ p _ HK5.out.tree (by omega) (by omega)).mono ?_
            rw [HCH.out.2]
            rintro e w6 ⟨v6, rfl, ho, b6⟩
            have HK6 := Lib.hid (HK5.out.on b6); clear HK5 b6
            obtain ⟨a6, c6, rfl⟩ := ho.sl
            clear ho
            obtain ⟨kk, hkk⟩ : ∃ kk, (kids T' p).length = kk := ⟨_, rfl⟩
            have hkf : kk ≤ 16 := by rw [← hkk]; exact HKF.out
            rw [hkk]
            go_wp2_with fail
            go_roundw
            case rel => exact ⟨m, T', ret_v (by have := HN.out; omega), HLL.out, HK6.out⟩
            case measure => have := HN.out; simp [intOf]; omega
    · have j1 : ¬ (n : Int) < (zs.length : Int) := by omega
      have HF : Hid (Fell w q b (.int .i64 ((n : Int) + 1)) wr) := Lib.hid ⟨n, T, rfl, HL.out, HK.out⟩
      clear HK HL
      go_wp2_with fail
      go_loopw [4] (fun N wr => Fell w q b N wr) (fun N _ => (intOf N).toNat)
      case atStart => exact HF.out
      case round =>
        clear HF HZ hl
        obtain ⟨n, T, rfl, hL, hK⟩ := hrel
        by_cases h0 : n = 0
        · subst h0
          have hT : T = [(1, 0)] := by cases hL with | one => rfl | more l _ _ _ => have := l.len; omega
          subst hT
          have HK := Lib.hid hK
          clear hK hL
          have g0 : decide ((1 : Int) < ((0 : Nat) : Int) + 1) = false := by decide
          go_wp2_with fail
          refine (all_c q b _ _ HK.out.tree).mono ?_
          rw [alls_one]
          rintro e w3 ⟨v, rfl, ho, b3⟩
          have HK3 := Lib.hid (HK.out.on b3); clear HK b3
          obtain ⟨a, ca, e1, k1⟩ := ho.ri
          obtain ⟨a, rfl, c0⟩ := k1 0 1 rfl
          replace c0 : w3.cell? a = some (.int .i64 1) := c0
          subst e1
          clear k1 ho
          go_wp2_with fail
          refine (drop_c s q b _ 1 _ (HK3.out.sent HS.out) HK3.out.tree (by decide) (by decide)).mono ?_
          rw [drop_one.1, drop_one.2]
          rintro e w4 ⟨rfl, t4, g4⟩
          have HK4 := Lib.hid (HK3.out.chg t4 g4); clear HK3 t4 g4 c0
          go_wp2_with fail
          refine (kind_errV s 13 _ (HK4.out.sent HS.out) (by omega)).mono ?_
          rintro e w5 ⟨rfl, b5⟩
          have HK5 := Lib.hid (HK4.out.on b5); clear HK4 b5
          go_wp2_with fail
          refine (kids_c q b _ 1 _ HK5.out.tree (by decide) (by decide)).mono ?_
          rw [Line.one.childs (by omega) (by omega), kids_one]
          rintro e w6 ⟨v6, rfl, ho, b6⟩
          have HK6 := Lib.hid (HK5.out.on b6); clear HK5 b6
          obtain ⟨a6, c6, rfl⟩ := ho.sl
          clear ho
          go_wp2_with fail
          go_ret
          exact ⟨rfl, HK6.out.below⟩
        · obtain ⟨m, rfl⟩ : ∃ m, n = m + 1 := ⟨n - 1, by omega⟩
          obtain ⟨p, T', rfl, hl', p0, p1⟩ := hL.last (by omega)
          have hlen := hl'.len
          have g0 : decide ((1 : Int) < ((m + 1 : Nat) : Int) + 1) = true := decide_eq_true (by omega)
          have HK := Lib.hid hK
          have HD := Lib.hid (hL.drop hl')
          have HCH : Hid (childs (((((m + 1 : Nat)) : Int) + 1, p) :: T') p = kids (((((m + 1 : Nat)) : Int) + 1, p) :: T') p ∧ childs T' p = kids T' p) := Lib.hid ⟨hL.childs (by omega) (by omega), hl'.childs p0 p1⟩
          have HCL := Lib.hid (hL.kids_more hl')
          have HKF := Lib.hid (kids_few T' hl'.good (by omega) p)
          have HLL := Lib.hid hl'
          have hup : Hid ((up (((((m + 1 : Nat)) : Int) + 1, p) :: T') ((((m + 1 : Nat)) : Int) + 1)).getD 0 = p) := Lib.hid (by rw [up_cons, if_pos rfl]; rfl)
          obtain ⟨N, hN⟩ : ∃ N : Int, ((((m + 1 : Nat)) : Int) + 1) = N := ⟨_, rfl⟩
          have hN0 : 0 ≤ N ∧ N ≤ 100 := by omega
          rw [hN] at HD HCH HCL hup HK g0 ⊢
          have HN := Lib.hid hN
          clear hL hK hl' hN
          go_wp2_with fail
          refine (parent_c q b _ N _ HK.out.tree (by omega) (by omega)).mono ?_
          rw [hup.out]
          rintro e w3 ⟨rfl, rfl⟩
          go_wp2_with fail
          refine (kids_c q b _ p _ HK.out.tree (by omega) (by omega)).mono ?_
          rw [HCH.out.1]
          rintro e w4 ⟨v4, rfl, ho, b4⟩
          have HK4 := Lib.hid (HK.out.on b4); clear HK b4
          obtain ⟨a4, c4, rfl⟩ := ho.sl
          rw [HCL.out]
          clear ho
          go_wp2_with fail
          refine (drop_c s q b _ N _ (HK4.out.sent HS.out) HK4.out.tree (by omega) (by omega)).mono ?_
          rw [HD.out.1, HD.out.2]
          rintro e w5 ⟨rfl, t5, g5⟩
          have HK5 := Lib.hid (HK4.out.chg t5 g5); clear HK4 t5 g5
          rw [errV_zero]
          go_wp2_with fail
          refine (kids_c q b _ p _ HK5.out.tree (by omega) (by omega)).mono ?_
          rw [HCH.out.2]
          rintro e w6 ⟨v6, rfl, ho, b6⟩
          have HK6 := Lib.hid (HK5.out.on b6); clear HK5 b6
          obtain ⟨a6, c6, rfl⟩ := ho.sl
          clear ho
          obtain ⟨kk, hkk⟩ : ∃ kk, (kids T' p).length = kk := ⟨_, rfl⟩
          have hkf : kk ≤ 16 := by rw [← hkk]; exact HKF.out
          rw [hkk]
          go_wp2_with fail
          go_roundw
          case rel => exact ⟨m, T', ret_v (by have := HN.out; omega), HLL.out, HK6.out⟩
          case measure => have := HN.out; simp [intOf]; omega
end Go.Proofs.YtaibmdjcppeopaaDoor
