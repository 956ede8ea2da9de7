/- The law SpareForced: whatever evictions are forced, it returns true. No conditions. -/
import Derived.Test.YtbfbhlpibclccaaDoorSqY
import Derived.Test.YtbfbhlpibclccaaDoorLieO
import Derived.Test.YtbfbhlpibclccaaDoorMd
namespace Go.Proofs.YtbfbhlpibclccaaDoor
open Go Go.RowKit Go.Maps Go.Sort

def natQ : Value → Nat
  | .int _ z => z.toNat
  | _ => 0
def encB : EncK Bool 1 where
  enc x := [.bool x]
  len _ := rfl
  one x u hu := by simp at hu; rcases hu with rfl; rfl
theorem mod20 (n : Int) : ∃ p : Nat, p ≤ 19 ∧ wrap64 ((IntKind.u64.wrap n).tmod 20) = (p : Int) := by
  obtain ⟨p, hp, h⟩ := mod_pos n 20 (by omega) (by omega)
  exact ⟨p, by omega, h⟩
/-- All evictions are of one job in one window. -/
def OneK (E : List Ev) : Prop := ∀ e ∈ E, keyE e = ⟨7, 3⟩
theorem OneK.snoc {E : List Ev} (h : OneK E) (f : Bool) : OneK (E ++ [⟨7, 3, f⟩]) := fun e he => by
  rcases List.mem_append.1 he with h1 | h1
  · exact h e h1
  · simp at h1; rw [h1]; rfl
theorem OneK.other {E : List Ev} (h : OneK E) {j w : Int} (hk : (⟨j, w⟩ : K2) ≠ ⟨7, 3⟩) (f : Bool) : cntE E j w f = 0 := by
  by_cases h0 : cntE E j w f = 0
  · exact h0
  · obtain ⟨e, he, hek⟩ := cnt_some (show 1 ≤ cntE E j w f by omega)
    exact absurd (hek.symm.trans (h e he)) hk
theorem OneK.all {E : List Ev} (h : OneK E) : cntE E 7 3 false + cntE E 7 3 true = E.length := by
  have h1 := len_split E ⟨7, 3⟩
  have h2 : lessE (fun x => decide (x = ⟨7, 3⟩)) E = [] := by
    unfold lessE
    rw [List.filter_eq_nil_iff]
    intro e he; simp [h e he]
  rw [h2] at h1; simp at h1; omega
theorem OneK.exp3 {E : List Ev} (h : OneK E) : lessE (fun k => decide (k.win < 3)) E = E := by
  unfold lessE
  rw [List.filter_eq_self]
  intro e he; rw [h e he]; rfl
theorem OneK.exp4 {E : List Ev} (h : OneK E) : lessE (fun k => decide (k.win < 4)) E = [] := by
  unfold lessE
  rw [List.filter_eq_nil_iff]
  intro e he; rw [h e he]; simp
theorem left_zero {n : Int} (h : 0 ≤ n) : leftI 0 n = n := by unfold leftI; split <;> omega
theorem left_less (p c : Int) : leftI (c + 1) p = if 0 < leftI c p then leftI c p - 1 else leftI c p := by
  by_cases h1 : p ≤ c
  · have e1 : leftI c p = 0 := if_pos h1
    have e2 : leftI (c + 1) p = 0 := if_pos (by omega)
    rw [e1, e2]; rfl
  · have e1 : leftI c p = p - c := if_neg h1
    rw [e1, if_pos (by omega)]
    by_cases h2 : p ≤ c + 1
    · have e2 : leftI (c + 1) p = 0 := if_pos h2
      rw [e2]; omega
    · have e2 : leftI (c + 1) p = p - (c + 1) := if_neg h2
      rw [e2]; omega
theorem cnt_snocF (E : List Ev) (f : Bool) : cntE (E ++ [⟨7, 3, f⟩]) 7 3 false = cntE E 7 3 false + (if f then 0 else 1) := by
  rw [cntE_snoc]; cases f <;> rfl

set_option maxRecDepth 100000 in
set_option maxHeartbeats 6400000 in
theorem sforced_any (A : Option Addr) (c : Nat) (X : List Bool) (bud : Int) (w : World) (hr : ReadsE encB w A X) (hll : X.length ≤ 9223372036854775807) :
    Calls Tryd.prog 5 #[.slice A X.length c, .int .i64 bud] w fun e w' => e = .returned (.bool true) ∧ Below w.heap.size w w' := by
  have HR : Hid (∀ W, Below w.heap.size w W → ReadsE encB W A X) := Lib.hid fun W hb => hr.on hb
  obtain ⟨p, hp, hmod⟩ := mod20 bud
  have HMD := Lib.hid hmod
  have HP := Lib.hid hp
  have ik : okQ ⟨7, 3⟩ := by unfold okQ i64; simp
  have ik4 : okQ ⟨7, 4⟩ := by unfold okQ i64; simp
  have ik8 : okQ ⟨8, 3⟩ := by unfold okQ i64; simp
  have ip : i64 (p : Int) := by unfold i64; omega
  have IK := Lib.hid ik; have IK4 := Lib.hid ik4; have IK8 := Lib.hid ik8; have IP := Lib.hid ip
  have HLL := Lib.hid hll
  clear hr hp hmod ik ik4 ik8 ip hll
  go_enter Tryd.func5, Tryd.ntmps5
  go_wp2_with fail
  refine (awake19_c w).mono ?_
  rintro e w0 ⟨rfl, b0⟩
  have HB0 := Lib.hid b0
  clear b0
  go_wp2_with fail
  refine (sx_new HB0.out).mono ?_
  rintro e w1 ⟨q, b, rfl, h1⟩
  have H1 := Lib.hid h1
  clear h1 HB0
  go_upto_block 0 with fail
  rw [HMD.out]
  go_cut [7] (fun L wx => ∃ E : List Ev, E.length = min X.length 40 ∧ OneK E ∧ L = .int .i64 (leftI (cntE E 7 3 false : Int) (p : Int)) ∧ SqX w wx q b E)
  case first =>
    go_wp2_with fail
    go_loopw [7, 8] (fun L v wr => ∃ (i : Nat) (E : List Ev), i ≤ 40 ∧ i ≤ X.length ∧ v = .int .i64 (i : Int) ∧ E.length = i ∧ OneK E ∧ L = .int .i64 (leftI (cntE E 7 3 false : Int) (p : Int)) ∧ SqX w wr q b E) (fun _ v _ => 40 - natQ v)
    case atStart => exact ⟨0, [], by omega, by omega, rfl, rfl, fun _ h => (by cases h), by rw [cntE_nil]; exact congrArg (Value.int .i64) (left_zero (by omega)).symm, H1.out⟩
    case round =>
      obtain ⟨i, E, hi40, hiX, rfl, hE, hO, rfl, hK⟩ := hrel
      have HK := Lib.hid hK; have HE := Lib.hid hE; have HO := Lib.hid hO
      obtain ⟨cf, hcf⟩ : ∃ cf : Nat, cntE E 7 3 false = cf := ⟨_, rfl⟩
      rw [hcf]
      have HCF := Lib.hid hcf
      clear hK hE hO H1 hcf
      by_cases hlt : i < X.length ∧ i < 40
      · obtain ⟨h1, h2⟩ := hlt
        obtain ⟨f, hx⟩ : ∃ f, X[i]? = some f := ⟨_, List.getElem?_eq_getElem h1⟩
        have hi0 : (0 : Int) ≤ (i : Int) := by omega
        have hi1 : (i : Int) < (X.length : Int) := by omega
        have hd1 : decide ((i : Int) < (X.length : Int)) = true := decide_eq_true hi1
        have hd2 : decide ((i : Int) < 40) = true := decide_eq_true (by omega)
        have hw1 : wrap64 ((i : Int) + 1) = ((i + 1 : Nat) : Int) := by unfold wrap64; omega
        obtain ⟨ad, pa, rfl, hadd, -, hcc⟩ := HR.out wr HK.out.below i f hx
        rw [Nat.mul_one] at hadd
        have z0 := hcc 0 _ rfl
        rw [add_zeroE, ← hadd] at z0
        have HCC : Hid (∀ W, Below w.heap.size w W → W.cell? (ad.add i) = some (.bool f)) := Lib.hid fun W hb => by
          obtain ⟨ad', pa', e1, e2, -, e3⟩ := HR.out W hb i f hx
          obtain rfl := Option.some.inj e1
          rw [Nat.mul_one] at e2
          have := e3 0 _ rfl
          rw [add_zeroE, ← e2] at this; exact this
        have HW1 := Lib.hid hw1
        clear hx hadd hcc hw1
        go_wp2_with fail
        refine (HK.out.add_c ⟨7, 3, f⟩ IK.out (by rw [HE.out]; omega)).mono ?_
        rintro e w2 ⟨rfl, h2', -⟩
        have H2 := Lib.hid h2'
        have hO2 : OneK (E ++ [⟨7, 3, f⟩]) := HO.out.snoc f
        have hE2 : (E ++ [(⟨7, 3, f⟩ : Ev)]).length = i + 1 := by rw [List.length_append, HE.out]; rfl
        have hc2 := cnt_snocF E f
        rw [HCF.out] at hc2
        obtain ⟨E', hE'⟩ : ∃ E' : List Ev, E ++ [⟨7, 3, f⟩] = E' := ⟨_, rfl⟩
        rw [hE'] at hO2 hE2 hc2 H2
        have HO2 := Lib.hid hO2; have HE2 := Lib.hid hE2; have HC2 := Lib.hid hc2
        have HLF : Hid (∀ W, SqX w W q b E' → Calls Tryd.prog 39 #[.pointer (some ⟨q, 0, none⟩), .int .i64 7, .int .i64 3, .int .i64 (p : Int)] W fun r w' => r = .returned (.int .i64 (leftI (cntE E' 7 3 false : Int) (p : Int))) ∧ Below W.heap.size W w') := Lib.hid fun W h => h.left_c IK.out IP.out
        have HL4 : Hid (∀ W, SqX w W q b E' → Calls Tryd.prog 39 #[.pointer (some ⟨q, 0, none⟩), .int .i64 7, .int .i64 4, .int .i64 (p : Int)] W fun r w' => r = .returned (.int .i64 (p : Int)) ∧ Below W.heap.size W w') := Lib.hid fun W h => by
          have := h.left_c IK4.out IP.out
          simp only at this
          rw [HO2.out.other (by simp), show leftI ((0 : Nat) : Int) (p : Int) = (p : Int) from left_zero (by omega)] at this
          exact this
        have HL8 : Hid (∀ W, SqX w W q b E' → Calls Tryd.prog 39 #[.pointer (some ⟨q, 0, none⟩), .int .i64 8, .int .i64 3, .int .i64 (p : Int)] W fun r w' => r = .returned (.int .i64 (p : Int)) ∧ Below W.heap.size W w') := Lib.hid fun W h => by
          have := h.left_c IK8.out IP.out
          simp only at this
          rw [HO2.out.other (by simp), show leftI ((0 : Nat) : Int) (p : Int) = (p : Int) from left_zero (by omega)] at this
          exact this
        clear z0
        have z0 := HCC.out w2 H2.out.below
        have hpp : ((p : Int) != (p : Int)) = false := by simp
        obtain ⟨l, hl⟩ : ∃ l, leftI (cntE E' 7 3 false : Int) (p : Int) = l := ⟨_, rfl⟩
        have hll : ((l : Int) != (l : Int)) = false := by simp
        rw [hl] at HLF
        have HL := Lib.hid hl
        obtain ⟨k, hk⟩ : ∃ k, leftI (cf : Int) (p : Int) = k := ⟨_, rfl⟩
        rw [hk]
        have hkl : l = if f = false ∧ 0 < k then k - 1 else k := by
          rw [← hl, ← hk]
          cases f
          · have h9 : cntE E' 7 3 false = cf + 1 := by simpa using hc2
            rw [h9, show (((cf + 1 : Nat) : Int)) = (cf : Int) + 1 from rfl, left_less]
            simp
          · have h9 : cntE E' 7 3 false = cf := by simpa using hc2
            rw [h9]; simp
        have hk0 : 0 ≤ k ∧ k ≤ 19 := by
          rw [← hk]; unfold leftI; have := HP.out; split <;> omega
        have HKL := Lib.hid hkl
        have hw9 : wrap64 (k - 1) = k - 1 := by unfold wrap64; omega
        have HW9 := Lib.hid hw9
        clear hO2 hE2 hc2 hE' hl hk hkl hk0 hw9 HK
        have hfin : ∀ W, SqX w W q b E' → ∃ (i' : Nat) (E'' : List Ev), i' ≤ 40 ∧ i' ≤ X.length ∧ Value.int .i64 (((i + 1 : Nat) : Int)) = .int .i64 (i' : Int) ∧ E''.length = i' ∧ OneK E'' ∧ Value.int .i64 l = .int .i64 (leftI (cntE E'' 7 3 false : Int) (p : Int)) ∧ SqX w W q b E'' := fun W h => ⟨i + 1, E', by omega, by omega, rfl, HE2.out, HO2.out, by rw [HL.out], h⟩
        have HF := Lib.hid hfin
        clear hfin
        cases f with
        | true =>
          have hlk : k = l := by have := HKL.out; simpa using this.symm
          subst hlk
          go_wp2_with fail
          refine (HLF.out _ H2.out).mono ?_
          rintro e w3 ⟨rfl, b3⟩
          have H3 := Lib.hid (H2.out.on b3)
          clear b3 H2
          go_wp2_with fail
          refine (HL4.out _ H3.out).mono ?_
          rintro e w4 ⟨rfl, b4⟩
          have H4 := Lib.hid (H3.out.on b4)
          clear b4 H3
          go_wp2_with fail
          refine (HL8.out _ H4.out).mono ?_
          rintro e w5 ⟨rfl, b5⟩
          have H5 := Lib.hid (H4.out.on b5)
          clear b5 H4
          go_wp2_with fail
          go_roundw
          case rel => exact HF.out _ H5.out
          case measure => simp [natQ] <;> omega
        | false =>
          by_cases h0 : 0 < k
          · have e0 : decide (0 < k) = true := decide_eq_true h0
            have hlk : k - 1 = l := by have := HKL.out; rw [if_pos ⟨rfl, h0⟩] at this; exact this.symm
            have hw9 := HW9.out
            rw [hlk] at hw9
            clear h0 HKL
            go_wp2_with fail
            refine (HLF.out _ H2.out).mono ?_
            rintro e w3 ⟨rfl, b3⟩
            have H3 := Lib.hid (H2.out.on b3)
            clear b3 H2
            go_wp2_with fail
            refine (HL4.out _ H3.out).mono ?_
            rintro e w4 ⟨rfl, b4⟩
            have H4 := Lib.hid (H3.out.on b4)
            clear b4 H3
            go_wp2_with fail
            refine (HL8.out _ H4.out).mono ?_
            rintro e w5 ⟨rfl, b5⟩
            have H5 := Lib.hid (H4.out.on b5)
            clear b5 H4
            go_wp2_with fail
            go_roundw
            case rel => exact HF.out _ H5.out
            case measure => simp [natQ] <;> omega
          · have e0 : decide (0 < k) = false := decide_eq_false h0
            have hlk : k = l := by have := HKL.out; rw [if_neg (fun h => h0 h.2)] at this; exact this.symm
            subst hlk
            clear h0
            go_wp2_with fail
            refine (HLF.out _ H2.out).mono ?_
            rintro e w3 ⟨rfl, b3⟩
            have H3 := Lib.hid (H2.out.on b3)
            clear b3 H2
            go_wp2_with fail
            refine (HL4.out _ H3.out).mono ?_
            rintro e w4 ⟨rfl, b4⟩
            have H4 := Lib.hid (H3.out.on b4)
            clear b4 H3
            go_wp2_with fail
            refine (HL8.out _ H4.out).mono ?_
            rintro e w5 ⟨rfl, b5⟩
            have H5 := Lib.hid (H4.out.on b5)
            clear b5 H4
            go_wp2_with fail
            go_roundw
            case rel => exact HF.out _ H5.out
            case measure => simp [natQ] <;> omega
      · have hdd : ¬ ((i : Int) < (X.length : Int)) ∨ ((i : Int) < (X.length : Int) ∧ ¬ (i : Int) < 40) := by omega
        have hmin : Hid (E.length = min X.length 40) := Lib.hid (by rw [HE.out]; omega)
        clear hlt
        rcases hdd with hd | ⟨hd, hd40⟩
        · have hd1 : decide ((i : Int) < (X.length : Int)) = false := decide_eq_false hd
          go_wp2_with fail
          go_meet
          exact ⟨E, hmin.out, HO.out, by rw [HCF.out], HK.out⟩
        · have hd1 : decide ((i : Int) < (X.length : Int)) = true := decide_eq_true hd
          have hd2 : decide ((i : Int) < 40) = false := decide_eq_false hd40
          go_wp2_with fail
          go_meet
          exact ⟨E, hmin.out, HO.out, by rw [HCF.out], HK.out⟩
  case rest =>
    obtain ⟨E, hE, hO, rfl, hK⟩ := hcut
    have HK := Lib.hid hK; have HE := Lib.hid hE; have HO := Lib.hid hO
    clear hK hE hO H1 HR
    go_wp2_with fail
    refine (HK.out.expire_c 3).mono ?_
    rintro e w2 ⟨rfl, h2, -⟩
    rw [HO.out.exp3] at h2
    have H2 := Lib.hid h2
    clear h2 HK
    go_wp2_with fail
    refine (H2.out.of_c IK.out).mono ?_
    rintro e w3 ⟨rfl, b3⟩
    obtain ⟨x, hx⟩ : ∃ x : Int, (cntE E 7 3 false : Int) = x := ⟨_, rfl⟩
    obtain ⟨y, hy⟩ : ∃ y : Int, (cntE E 7 3 true : Int) = y := ⟨_, rfl⟩
    simp only
    rw [hx, hy]
    have hsum : wrap64 (x + y) = min (X.length : Int) 40 := by
      have := HO.out.all; have := HE.out
      rw [← hx, ← hy]; unfold wrap64; omega
    obtain ⟨W4, hW4⟩ : ∃ W4, w3.alloc (.cells #[.int .i64 7, .int .i64 3, .int .i64 x, .int .i64 y] 85) = W4 := ⟨_, rfl⟩
    obtain ⟨g, hg⟩ : ∃ g, w3.heap.size = g := ⟨_, rfl⟩
    have hg4 : W4.heap[g]? = some (.cells #[.int .i64 7, .int .i64 3, .int .i64 x, .int .i64 y] 85 (0, 0)) := by rw [← hW4, ← hg]; exact heap_alloc_new _ _
    have h4 : SqX w W4 q b E := by rw [← hW4]; exact (H2.out.on b3).on ((Below.refl _ _).alloc (Nat.le_refl _) _)
    have H4 := Lib.hid h4; have HG4 := Lib.hid hg4; have HW4 := Lib.hid hW4; have HG := Lib.hid hg; have HSUM := Lib.hid hsum
    clear b3 hx hy hsum hW4 hg hg4 h4 H2
    go_upto_region 17 with fail
    rw [HW4.out, HG.out]
    go_wp2_with fail
    refine (H4.out.expire_c 4).mono ?_
    rintro e w5 ⟨rfl, h5, c5⟩
    rw [HO.out.exp4] at h5
    have hg5 := c5.row HG4.out (fun e : g = b => by
      have h1 := H4.out.lt.2
      have h2 := HG4.out
      rw [e] at h2
      obtain ⟨T, k1, _⟩ := H4.out.p
      obtain ⟨D, ⟨es, cl, hb, _⟩, _⟩ := k1.m
      rw [hb] at h2; cases h2)
    have x2 := cell_of_heap hg5 2
    have x3 := cell_of_heap hg5 3
    simp at x2 x3
    have H5 := Lib.hid h5
    clear h5 c5 hg5 H4 HG4
    have HL := Lib.hid (H5.out.left_c IK.out IP.out)
    simp only [cntE_nil] at HL
    rw [show leftI ((0 : Nat) : Int) (p : Int) = (p : Int) from left_zero (by omega)] at HL
    have hpp : ((p : Int) == (p : Int)) = true := by simp
    have hs := HSUM.out
    have hmm : ((min (X.length : Int) 40) == (min (X.length : Int) 40)) = true := by simp
    go_wp2_with fail
    refine HL.out.mono ?_
    rintro e w6 ⟨rfl, b6⟩
    have H6 := Lib.hid (H5.out.on b6)
    clear b6 H5 HL
    go_wp2_with fail
    refine (H6.out.list_c (by simp)).mono ?_
    rintro e w7 ⟨A7, c7, M, rfl, hls, -, b7⟩
    have hm : M.length = 0 := by have := hls.few; simp at this; simp [this]
    rw [hm]
    have HB7 := Lib.hid (H6.out.on b7).below
    clear b7 H6 hls hm
    go_wp2_with fail
    go_ret
    exact ⟨rfl, HB7.out⟩
end Go.Proofs.YtbfbhlpibclccaaDoor
