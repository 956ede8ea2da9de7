/- The reference's fit by contract: Rest. Conditions: the spots, the demands and the numbers lie in memory. -/
import Derived.Test.YtejaljcgcmdlgaaDoorFtX
import Derived.Deep.QuietTactic
namespace Go.Proofs.YtejaljcgcmdlgaaDoor
open Go Go.RowKit

theorem no_next {m : List Spt} {k : Nat} {s : Spt} {P : Spt → Prop} (hs : m[k]? = some s) (h : ∀ y ∈ m.take k, ¬ P y) (hp : ¬ P s) : ∀ y ∈ m.take (k + 1), ¬ P y := by
  intro y hy
  rw [List.take_add_one, hs, Option.toList_some] at hy
  rcases List.mem_append.1 hy with hy | hy
  · exact h y hy
  · rw [List.mem_singleton.1 hy]; exact hp

theorem own_block {e : TypeId} {w : World} {base m c i ga : Nat} {ad : Addr} {L : List Spt} {s : Spt} (h : OwnE encSpt e w base (.slice (some ad) m c) L) (hi : L[i]? = some s) (ha : ad.add (i * 5) = ⟨ga, i * 5, none⟩) : ad = ⟨ga, 0, none⟩ ∧ base ≤ ga := by
  obtain ⟨g, cap, hv, _, hb, _, _, _⟩ := h.some (Nat.lt_of_le_of_lt (Nat.zero_le _) (List.getElem?_eq_some_iff.1 hi).1)
  simp only [Value.slice.injEq, Option.some.injEq] at hv
  obtain ⟨rfl, _, _⟩ := hv
  rw [Addr.add_lit] at ha
  simp only [Addr.mk.injEq, and_true] at ha
  obtain ⟨rfl, _⟩ := ha
  exact ⟨rfl, hb⟩
theorem own_low {e : TypeId} {w : World} {base m c i ga : Nat} {ad : Addr} {L : List Spt} {s : Spt} (h : OwnE encSpt e w base (.slice (some ad) m c) L) (hi : L[i]? = some s) (ha : ad.add (i * 5) = ⟨ga, i * 5, none⟩) : base ≤ ga := (own_block h hi ha).2
theorem own_cut' {e : TypeId} {w : World} {base n cap i ga : Nat} {ad : Addr} {L : List Spt} {s : Spt} (h : OwnE encSpt e w base (.slice (some ad) n cap) L) (hi : L[i]? = some s) (ha : ad.add (i * 5) = ⟨ga, i * 5, none⟩) (hn : L.length = n) (y : V4) :
    OwnE encSpt e ((((w.setCell ⟨ga, i * 5 + 1, none⟩ (.int .i64 y.a)).setCell ⟨ga, i * 5 + 1 + 1, none⟩ (.int .i64 y.b)).setCell ⟨ga, i * 5 + 1 + 2, none⟩ (.int .i64 y.c)).setCell ⟨ga, i * 5 + 1 + 3, none⟩ (.int .i64 y.d)) base (.slice (some ad) n cap) (L.set i ⟨s.id, y⟩) := by
  obtain ⟨rfl, _⟩ := own_block h hi ha
  subst hn
  exact own_cut h hi y
theorem below_set4 {B : Nat} {w w' : World} (h : Below B w w') {g : Nat} (hg : B ≤ g) {o1 o2 o3 o4 : Nat} (a b c d : Value) : Below B w ((((w'.setCell ⟨g, o1, none⟩ a).setCell ⟨g, o2, none⟩ b).setCell ⟨g, o3, none⟩ c).setCell ⟨g, o4, none⟩ d) :=
  (((h.setCell hg _).setCell hg _).setCell hg _).setCell hg _

set_option maxRecDepth 100000 in
set_option maxHeartbeats 6400000 in
theorem rrest_c (base : Nat) (v : Value) (L : List Spt) (needs : List V4) (ids : List Int) (An Ai : Option Addr) (cn ci : Nat) (w : World) (h : OwnE encSpt 34 w base v L) (hN : ReadsE encV16 w An needs) (hI : ReadsE encI w Ai ids) (hn : L.length ≤ 1000000) (hn2 : needs.length ≤ 1000000) (_hn3 : ids.length ≤ 1000000) :
    Calls Tryd.prog 13 #[v, .slice An needs.length cn, .slice Ai ids.length ci] w fun e w' => Below w.heap.size w w' ∧ ∃ v', e = .returned v' ∧ OwnE encSpt 34 w' w.heap.size v' (restS L needs ids) := by
  obtain ⟨i0, hi0, hz0, hz1, hz2⟩ := info_parts Tryd.infoRS
  have A1 := Lib.hid (OwnE.none (E := encSpt) (e := 34) w (base := w.heap.size) (Nat.le_refl _))
  have A2 := Lib.hid (h.lies.onB (w' := w.alloc (.cells #[] 34)) ((Below.refl _ _).alloc (Nat.le_refl _) _))
  have A3 : Hid (([] : List Spt).length + L.length ≤ maxLen) := by simp only [Hid, List.length_nil, maxLen]; omega
  have A4 : Hid ((([] : List Spt).length + L.length) * 40 ≤ 140737488355328) := by simp only [Hid, List.length_nil]; omega
  have A5 : Hid (w.heap.size ≤ (w.alloc (.cells #[] 34)).heap.size) := by simp only [Hid, World.size_alloc]; omega
  have HN := Lib.hid hN
  have HI := Lib.hid hI
  obtain ⟨A0, c0, rfl⟩ := h.form
  clear h hN hI
  go_enter Tryd.func13, Tryd.ntmps13
  go_upto_region 1 with fail
  go_upto_region 2 with (at_builtin; refine wpList_append_E rfl _ _ 26 rfl i0 _ 40 Tryd.underlying26 hi0 hz0 hz1 hz2 rfl (by decide) rfl A1.out rfl A2.out A3.out A4.out A5.out ?_; intro v1 w1 hv hgr hown)
  rw [List.nil_append] at hv
  have HB1 : Hid (Below w.heap.size w w1) := Lib.hid (((Below.refl _ _).alloc (Nat.le_refl _) _).grown hgr (by simp) (fun k hk => by have e : some w.heap.size = some k := hk; cases e; exact Nat.le_refl _))
  obtain ⟨Am, cap, rfl⟩ := hv.form
  have HV1 := Lib.hid hv
  clear hv hgr hown A1 A2 A3 A4 A5 hi0 hz0 hz1 hz2
  go_upto_region 3 with fail
  go_loopg [8] ids.length (fun gk s8 wr => ∃ (i : Nat) (m : List Spt), s8 = .int .i64 i ∧ i ≤ ids.length ∧ i ≤ needs.length ∧ ids.length - i ≤ gk ∧ Aside (m.length = L.length ∧ restS m (needs.drop i) (ids.drop i) = restS L needs ids ∧ OwnE encSpt 34 wr w.heap.size (.slice Am L.length cap) m ∧ Below w.heap.size w wr))
  case atStart => exact ⟨0, L, rfl, Nat.zero_le _, Nat.zero_le _, Nat.le_refl _, rfl, rfl, HV1.out, HB1.out⟩
  case round =>
    obtain ⟨wo, hwo⟩ : ∃ wo, wo = wr := ⟨_, rfl⟩
    subst hwo
    obtain ⟨i, m, rfl, hi, hi', hgk, IN⟩ := hrel
    have HML := Lib.hid IN.out.1
    have HRS := Lib.hid IN.out.2.1
    have HO := Lib.hid IN.out.2.2.1
    have HB := Lib.hid IN.out.2.2.2
    clear IN
    by_cases hlt : i < ids.length
    · by_cases hlt' : i < needs.length
      · obtain ⟨x, hx⟩ : ∃ x, needs[i]? = some x := ⟨_, List.getElem?_eq_getElem hlt'⟩
        obtain ⟨d, hd⟩ : ∃ d, ids[i]? = some d := ⟨_, List.getElem?_eq_getElem hlt⟩
        obtain ⟨ad2, p2, rfl, had2, hg2, hv2⟩ := HN.out i x hx
        obtain ⟨ad3, p3, rfl, had3, hg3, hv3⟩ := HI.out i d hd
        have hstep := restS_step (m := m) hx hd
        rw [Nat.mul_one] at had3
        have HST := Lib.hid hstep
        have HA2 := Lib.hid had2
        have HC2 := Lib.hid hv2
        have HG2 := Lib.hid hg2
        have HC3 : Hid (w.cell? p3 = some (.int .i64 d)) := Lib.hid ((congrArg w.cell? (add_zeroE p3).symm).trans (hv3 0 _ rfl))
        have HG3 := Lib.hid hg3
        have HLT := Lib.hid hlt
        have HLT' := Lib.hid hlt'
        have hz1 : (i : Int) < (ids.length : Int) := by omega
        have hz2 : (i : Int) < (needs.length : Int) := by omega
        clear hx hd had2 hg2 hv2 hg3 hv3 hstep
        go_upto_region 6 with fail
        go_loopg [9] L.length (fun gk2 s9 wq => ∃ (k : Nat), s9 = .int .i64 k ∧ k ≤ L.length ∧ L.length - k ≤ gk2 ∧ Aside ((∀ y ∈ m.take k, ¬ (y.id = d ∧ fitS y x)) ∧ Below wo.heap.size wo wq))
        case atStart => exact ⟨0, rfl, Nat.zero_le _, Nat.le_refl _, (fun y hy => absurd hy (by simp)), Below.refl _ _⟩
        case round =>
          obtain ⟨k, rfl, hk, hgk2, IN⟩ := hrel
          have HNO := Lib.hid IN.out.1
          have HBQ := Lib.hid IN.out.2
          clear IN
          have HOQ := Lib.hid (HO.out.on HBQ.out)
          have HB0 : Hid (Below w.heap.size w wr) := Lib.hid (HB.out.trans (HBQ.out.mono HB.out.size))
          have HNX : Hid (restS (subS d x m) (needs.drop (i + 1)) (ids.drop (i + 1)) = restS L needs ids) := Lib.hid (HST.out.symm.trans HRS.out)
          by_cases hkl : k < L.length
          · obtain ⟨s, hs⟩ : ∃ s, m[k]? = some s := ⟨_, List.getElem?_eq_getElem (by have := HML.out; omega)⟩
            have hkz : (k : Int) < (L.length : Int) := by omega
            obtain ⟨ad, ga, rfl, hadd, hsp, _⟩ := own_spt HOQ.out hs
            have HS := Lib.hid hsp
            have HX := Lib.hid hs
            have HADD := Lib.hid (hadd k (by have := HML.out; omega))
            clear hadd hsp hs
            go_upto_region 8 with fail
            refine wp_reg (opsOf Tryd.f13 8) (by kernel_rfl) ?_
            refine rest_r8 _ _ _ _ _ _ _ _ _ _ _ _ _ _ _ _ _ _ _ _ _ _ _ _ _ _ _ _ _ _ _ _ _ _ _ _ _ _ _ _ _ _ _ _ _ _ _ _ _ _ _ _ _ _ _ _ _ _ _ _ ad ad2 p2 L.length cap needs.length cn ga k i s x _ wr HADD.out hkz HA2.out hz2 HS.out (fun r u hu => (HB0.out.cell (p := p2.add r) (by rw [block_add16]; exact HG2.out)).trans (HC2.out r u hu)) (Nat.lt_of_lt_of_le HG2.out HB0.out.size) ?_
            intro _ _ _ _ _ _ _ _ _ _ _ _ g7 w5 z5 hg7 b5
            have HZ5 := Lib.hid z5
            have HB5 := Lib.hid b5
            clear z5 hg7 b5
            have HB05 : Hid (Below w.heap.size w w5) := Lib.hid (HB0.out.trans (HB5.out.mono HB0.out.size))
            obtain ⟨s0, s1, s2, s3, s4, sl, sf⟩ := HS.out.on HB5.out
            have q0 := (HB05.out.cell (p := p3) HG3.out).trans HC3.out
            have a1 := HADD.out
            by_cases hf : s.id = d
            · have heq : (s.id == d) = true := by simpa using hf
              by_cases hfit : fitS s x
              · rw [decide_eq_true hfit]
                have hhit : subS d x m = m.set k (cutS s x) := subS_hit m k HX.out HNO.out ⟨hf, hfit⟩
                have HRN : Hid (restS (m.set k (cutS s x)) (needs.drop (i + 1)) (ids.drop (i + 1)) = restS L needs ids) := Lib.hid (by have := HNX.out; rwa [hhit] at this)
                clear hhit hf hfit
                obtain ⟨z0, z1, z2, z3, _, _⟩ := HZ5.out.cells
                go_upto_region 9 with fail
                go_quiet (fail)
                go_wp2_with fail
                have hlo : w.heap.size ≤ ga := own_low HOQ.out HX.out HADD.out
                have hown := own_cut' (HOQ.out.on (w' := w5.drewN nq) (by have := HB5.out; (repeat' (first | (with_reducible exact Below.refl _ _) | (with_reducible refine below_drewN ?_ _) | (with_reducible refine Below.drew ?_) | (with_reducible refine Below.alloc ?_ ?_ _) | (with_reducible refine Below.setCell ?_ ?_ _) | (with_reducible refine Below.trans ?_ (Below.mono (by with_reducible assumption) ?_)) | omega | (simp only [World.size_alloc, World.size_setCell, World.size_drew, Go.Proofs.YtejaljcgcmdlgaaDoor.World.size_drewN] at *; omega) | (with_reducible refine Below.size (B := 0) ?_))))) HX.out HADD.out HML.out (remS s x)
                have hbel : Below w.heap.size w (w5.drewN nq) := by have := HB05.out; (repeat' (first | (with_reducible exact Below.refl _ _) | (with_reducible refine below_drewN ?_ _) | (with_reducible refine Below.drew ?_) | (with_reducible refine Below.alloc ?_ ?_ _) | (with_reducible refine Below.setCell ?_ ?_ _) | (with_reducible refine Below.trans ?_ (Below.mono (by with_reducible assumption) ?_)) | omega | (simp only [World.size_alloc, World.size_setCell, World.size_drew, Go.Proofs.YtejaljcgcmdlgaaDoor.World.size_drewN] at *; omega) | (with_reducible refine Below.size (B := 0) ?_)))
                have HOW := Lib.hid hown
                have HBE := Lib.hid hbel
                clear hown hbel
                go_roundg (ids.length - (i + 1))
                case measure => omega
                case rel => exact ⟨i + 1, m.set k (cutS s x), by go_num, by omega, by omega, Nat.le_refl _, by rw [List.length_set]; exact HML.out, HRN.out, HOW.out, below_set4 HBE.out hlo _ _ _ _⟩
              · rw [decide_eq_false hfit]
                have HNF : Hid (¬ (s.id = d ∧ fitS s x)) := Lib.hid fun h => hfit h.2
                clear hf hfit
                go_upto_region 9 with fail
                go_quiet (fail)
                go_wp2_with fail
                go_roundg (L.length - (k + 1))
                case measure => omega
                case rel => exact ⟨k + 1, by go_num, by omega, Nat.le_refl _, no_next HX.out HNO.out HNF.out, HBQ.out.trans (Below.mono (by have := HB5.out; (repeat' (first | (with_reducible exact Below.refl _ _) | (with_reducible refine below_drewN ?_ _) | (with_reducible refine Below.drew ?_) | (with_reducible refine Below.alloc ?_ ?_ _) | (with_reducible refine Below.setCell ?_ ?_ _) | (with_reducible refine Below.trans ?_ (Below.mono (by with_reducible assumption) ?_)) | omega | (simp only [World.size_alloc, World.size_setCell, World.size_drew, Go.Proofs.YtejaljcgcmdlgaaDoor.World.size_drewN] at *; omega) | (with_reducible refine Below.size (B := 0) ?_)))) HBQ.out.size)⟩
            · have hne : (s.id == d) = false := by simpa using hf
              have HNF : Hid (¬ (s.id = d ∧ fitS s x)) := Lib.hid fun h => hf h.1
              clear hf
              go_upto_region 9 with fail
              go_quiet (fail)
              go_wp2_with fail
              go_roundg (L.length - (k + 1))
              case measure => omega
              case rel => exact ⟨k + 1, by go_num, by omega, Nat.le_refl _, no_next HX.out HNO.out HNF.out, HBQ.out.trans (Below.mono (by have := HB5.out; (repeat' (first | (with_reducible exact Below.refl _ _) | (with_reducible refine below_drewN ?_ _) | (with_reducible refine Below.drew ?_) | (with_reducible refine Below.alloc ?_ ?_ _) | (with_reducible refine Below.setCell ?_ ?_ _) | (with_reducible refine Below.trans ?_ (Below.mono (by with_reducible assumption) ?_)) | omega | (simp only [World.size_alloc, World.size_setCell, World.size_drew, Go.Proofs.YtejaljcgcmdlgaaDoor.World.size_drewN] at *; omega) | (with_reducible refine Below.size (B := 0) ?_)))) HBQ.out.size)⟩
          · obtain rfl : k = L.length := by omega
            have hkz : ¬ (L.length : Int) < (L.length : Int) := by omega
            have hmiss : subS d x m = m := subS_miss m (by have := HNO.out; rwa [List.take_of_length_le (by have := HML.out; omega)] at this)
            have HRN : Hid (restS m (needs.drop (i + 1)) (ids.drop (i + 1)) = restS L needs ids) := Lib.hid (by have := HNX.out; rwa [hmiss] at this)
            clear hmiss
            go_wp2_with fail
            go_roundg (ids.length - (i + 1))
            case measure => omega
            case rel => exact ⟨i + 1, m, by go_num, by omega, by omega, Nat.le_refl _, HML.out, HRN.out, HOQ.out, HB0.out⟩
      · obtain rfl : i = needs.length := by omega
        have he := restS_end (m := m) (needs := needs) (ids := ids) (i := needs.length) (.inl (Nat.le_refl _))
        have HE : Hid (m = restS L needs ids) := Lib.hid (by rw [← HRS.out, he])
        have hz1 : (needs.length : Int) < (ids.length : Int) := by omega
        have hz2 : ¬ (needs.length : Int) < (needs.length : Int) := by omega
        clear he
        go_wp2_with fail
        go_ret
        exact ⟨HB.out, _, rfl, by rw [← HE.out]; exact HO.out⟩
    · obtain rfl : i = ids.length := by omega
      have he := restS_end (m := m) (needs := needs) (ids := ids) (i := ids.length) (.inr (Nat.le_refl _))
      have HE : Hid (m = restS L needs ids) := Lib.hid (by rw [← HRS.out, he])
      have hz1 : ¬ (ids.length : Int) < (ids.length : Int) := by omega
      clear he
      go_wp2_with fail
      go_ret
      exact ⟨HB.out, _, rfl, by rw [← HE.out]; exact HO.out⟩
end Go.Proofs.YtejaljcgcmdlgaaDoor
