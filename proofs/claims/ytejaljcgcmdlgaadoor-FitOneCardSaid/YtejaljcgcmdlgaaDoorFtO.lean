/- The law FitOne, walked by contracts. Conditions: the program's functions keep their contracts (FitC); the arguments lie in memory. -/
import Derived.Test.YtejaljcgcmdlgaaDoorFtOa
namespace Go.Proofs.YtejaljcgcmdlgaaDoor
open Go Go.RowKit

theorem reads_take {α : Type} {n : Nat} {E : EncK α n} {w : World} {A : Option Addr} {L : List α} (h : ReadsE E w A L) (k : Nat) : ReadsE E w A (L.take k) := fun i x hi => by
  rw [List.getElem?_take] at hi
  split at hi
  · exact h i x hi
  · cases hi

set_option maxRecDepth 100000 in
set_option maxHeartbeats 6400000 in
theorem fitOne_any (s : Nat → Addr) (F : FitC s) (A : Option Addr) (c : Nat) (L : List Spt) (An : Option Addr) (cn : Nat) (N : List V4) (w : World) (hs : Sent s w) (hL : LiesE encSpt w (.slice A L.length c) L) (hN : ReadsE encV16 w An N) (hcn : N.length ≤ cn) :
    Calls Tryd.prog 5 #[.slice A L.length c, .slice An N.length cn] w fun e w' => e = .returned (.bool true) ∧ Below w.heap.size w w' := by
  have HF := Lib.hid F
  have HLS := Lib.hid hL
  have HL := Lib.hid (lies_reads (by decide) hL)
  have HS := Lib.hid hs
  have HN := Lib.hid hN
  have HAW := Lib.hid (awake16_c s F w hs)
  clear F hL hN hs
  go_enter Tryd.func5, Tryd.ntmps5
  go_wp2_with fail
  refine HAW.out.mono ?_
  rintro e w1 ⟨rfl, b1⟩
  have HB1 := Lib.hid b1
  clear b1
  by_cases h1 : 12 < L.length
  · have d1 : (12 : Int) < (L.length : Int) := by omega
    clear h1 hcn
    go_wp2_with fail
    go_ret
    exact ⟨rfl, HB1.out⟩
  · have d1 : ¬ (12 : Int) < (L.length : Int) := by omega
    by_cases h2 : 12 < N.length
    · have d2 : (12 : Int) < (N.length : Int) := by omega
      clear h1 h2 hcn
      go_wp2_with fail
      go_ret
      exact ⟨rfl, HB1.out⟩
    · have d2 : ¬ (12 : Int) < (N.length : Int) := by omega
      cases hNN : N with
      | nil =>
        subst hNN
        clear h1 h2 hcn
        go_wp2_with fail
        go_ret
        exact ⟨rfl, HB1.out⟩
      | cons x r =>
        rw [← hNN]
        have hx : N[0]? = some x := by rw [hNN]; rfl
        obtain ⟨ad2, q, rfl, had2, hq, hd⟩ := HN.out 0 x hx
        have e0 : ad2 = q := by rw [← had2, Nat.zero_mul]; exact (add_zeroE ad2).symm
        subst e0
        have hnl : N.length = r.length + 1 := by rw [hNN]; rfl
        have d3 : ((N.length : Int) == 0) = false := by rw [beq_eq_false_iff_ne]; omega
        have d4 : (0 : Int) < (N.length : Int) := by omega
        have HX := Lib.hid hNN
        have HNL := Lib.hid hnl
        have HLL : Hid (L.length ≤ 12) := Lib.hid (by omega)
        have HN12 : Hid (N.length ≤ 12) := Lib.hid (by omega)
        have HCN := Lib.hid hcn
        have HD := Lib.hid hd
        have HQ2 := Lib.hid hq
        have v0 := (HB1.out.cell (p := ad2) hq).trans ((congrArg w.cell? (add_zeroE ad2).symm).trans (hd 0 _ rfl))
        have v1 := (HB1.out.cell (p := ⟨ad2.block, ad2.off + 1, none⟩) hq).trans (hd 1 _ rfl)
        have v2 := (HB1.out.cell (p := ⟨ad2.block, ad2.off + 2, none⟩) hq).trans (hd 2 _ rfl)
        have v3 := (HB1.out.cell (p := ⟨ad2.block, ad2.off + 3, none⟩) hq).trans (hd 3 _ rfl)
        have hz := add_zeroE ad2
        clear h1 h2 hcn hNN hnl hd hq hx had2
        go_upto_region 5 with fail
        go_wp2_with fail
        refine (HF.out.best A c L x w1 (HS.out.below HB1.out (Nat.le_refl _)) (HLS.out.onB HB1.out) (by have := HLL.out; omega)).mono ?_
        rintro e w2 ⟨rfl, b2⟩
        have HB2 : Hid (Below w.heap.size w w2) := Lib.hid (HB1.out.trans (b2.mono HB1.out.size))
        clear b2 v0 v1 v2 v3
        have hsl : ∀ W, (Instr.slice 23 (.slice (some ad2) N.length cn) none (some (.int .i64 1)) none).run Tryd.prog W = .ok (.slice (some ad2) 1 cn) W := fun W => by
          have he : Tryd.prog.elem 23 = 31 := by kernel_rfl
          rw [run_slice_h W _ (some ad2) N.length cn (by rw [he]; exact Tryd.underlying23) .i64 1 (by omega) (by have := HCN.out; omega), he]
          simp [Tryd.sizeOf31, Result.andThen, sliced, add_zeroE]
        have hr1 : ReadsE encV16 w (some ad2) [x] := by have := reads_take HN.out 1; rwa [HX.out] at this
        have HA1 : Hid (Calls Tryd.prog 10 #[.slice A L.length c, .slice (some ad2) 1 cn] w2 fun e w' => Below w2.heap.size w2 w' ∧ ∃ B c', e = .returned (.tuple #[.slice B (allS L [x] [] 0).1.length c', .int .i64 (allS L [x] [] 0).2]) ∧ OwnE encI 3 w' w2.heap.size (.slice B (allS L [x] [] 0).1.length c') (allS L [x] [] 0).1) := Lib.hid (HF.out.all A c L (some ad2) cn [x] w2 (HS.out.below HB2.out (Nat.le_refl _)) (HLS.out.onB HB2.out) (hr1.on HB2.out) (by have := HLL.out; omega) (by simp))
        rw [allS_one] at HA1
        clear hr1
        cases hb : bestS x L with
        | none =>
          rw [hb] at HA1
          simp only [List.length_nil] at HA1
          rw [show idS none = 0 from rfl]
          go_wp2_with fail
          refine HA1.out.mono ?_
          rintro e w3 ⟨b3, B, c', rfl, _⟩
          have HB3 : Hid (Below w.heap.size w w3) := Lib.hid (HB2.out.trans (b3.mono HB2.out.size))
          have HNO := Lib.hid ((bestS_none x _ L rfl).1 hb)
          clear b3 hb hsl HA1
          go_upto_region 11 with fail
          go_loopg [9] L.length (fun gk s9 wr => ∃ (k : Nat), s9 = .int .i64 k ∧ k ≤ L.length ∧ L.length - k ≤ gk ∧ Aside (Below w.heap.size w wr))
          case atStart => exact ⟨0, rfl, Nat.zero_le _, Nat.le_refl _, HB3.out⟩
          case round =>
            obtain ⟨k, rfl, hk, hgk, IN⟩ := hrel
            have HBR := Lib.hid IN.out
            clear IN
            by_cases hlt : k < L.length
            · obtain ⟨s, hs⟩ : ∃ s, L[k]? = some s := ⟨_, List.getElem?_eq_getElem hlt⟩
              have hkz : (k : Int) < (L.length : Int) := by omega
              obtain ⟨ad, p, rfl, hadd, hp, hc⟩ := HL.out k s hs
              have hnf : decide (fitS s x) = false := decide_eq_false (HNO.out s (List.mem_of_getElem? hs))
              rw [fitB] at hnf
              have HNF := Lib.hid hnf
              have HAD := Lib.hid hadd
              have HP := Lib.hid hp
              have HC := Lib.hid hc
              clear hs hadd hp hc hnf
              go_upto_region 13 with fail
              refine wp_reg (opsOf Tryd.f5 13) (by kernel_rfl) ?_
              refine one_r13 _ _ _ _ _ _ _ _ _ _ _ _ _ _ _ _ _ _ _ _ _ _ _ _ _ _ _ _ _ _ _ _ _ _ _ _ _ _ _ _ _ _ _ _ _ _ _ _ _ _ _ _ _ _ _ _ _ _ _ _ _ _ _ _ _ _ _ _ _ _ _ _ _ _ _ _ _ _ _ _ _ _ _ _ _ _ _ _ _ _ _ _ _ _ _ _ _ _ _ _ _ _ _ _ _ _ _ _ _ _ _ _ _ _ _ _ _ _ _ _ _ _ _ _ _ _ _ _ _ _ _ _ _ _ ad p ad2 L.length c N.length cn k s x _ wr HAD.out hkz d4 (fun r u hu => (HBR.out.cell (p := p.add r) (by rw [block_add16]; exact HP.out)).trans (HC.out r u hu)) (fun r u hu => (HBR.out.cell (p := ad2.add r) (by rw [block_add16]; exact HQ2.out)).trans (HD.out r u hu)) (Nat.lt_of_lt_of_le HP.out HBR.out.size) (Nat.lt_of_lt_of_le HQ2.out HBR.out.size) ?_
              intro _ _ _ _ _ _ _ _ _ _ _ _ _ _ _ _ _ _ _ _ _ _ w5 b5
              have HB5 : Hid (Below w.heap.size w w5) := Lib.hid (HBR.out.trans (b5.mono HBR.out.size))
              rw [HNF.out]
              clear b5
              go_wp2_with fail
              go_roundg (L.length - (k + 1))
              case measure => omega
              case rel => exact ⟨k + 1, by go_num, by omega, Nat.le_refl _, HB5.out⟩
            · obtain rfl : k = L.length := by omega
              have hlz : ¬ ((L.length : Int) < (L.length : Int)) := by omega
              go_wp2_with fail
              go_ret
              exact ⟨rfl, HBR.out⟩
        | some p =>
          obtain ⟨a, t⟩ := p
          rw [hb] at HA1
          simp only [List.length_cons, List.length_nil, Nat.zero_add] at HA1
          rw [show idS (some (a, t)) = t.id from rfl]
          go_wp2_with fail
          refine HA1.out.mono ?_
          rintro e w3 ⟨b3, B, c', rfl, own⟩
          have HB3 : Hid (Below w.heap.size w w3) := Lib.hid (HB2.out.trans (b3.mono HB2.out.size))
          have HFI := Lib.hid (allS_first (r := r) hb)
          obtain ⟨ad3, p3, rfl, had3, hg3, hv3⟩ := own_reads own 0 t.id rfl
          have e3 : ad3 = p3 := by rw [← had3, Nat.zero_mul]; exact (add_zeroE ad3).symm
          subst e3
          have o0 := (congrArg w3.cell? (add_zeroE ad3).symm).trans (hv3 0 _ rfl)
          have hz3 := add_zeroE ad3
          clear b3 hb hsl HA1 own had3 hg3 hv3
          go_wp2_with fail
          refine (HF.out.all A c L (some ad2) cn N w3 (HS.out.below HB3.out (Nat.le_refl _)) (HLS.out.onB HB3.out) (HN.out.on HB3.out) (by have := HLL.out; omega) (by have := HN12.out; omega)).mono ?_
          rintro e w4 ⟨b4, B4, c4, rfl, own⟩
          have HB4 : Hid (Below w.heap.size w w4) := Lib.hid (HB3.out.trans (b4.mono HB3.out.size))
          clear b4 o0 hz3
          rw [HX.out] at own ⊢
          rcases HFI.out with ⟨l, h1, h2⟩ | ⟨k, h1, h2⟩
          · rw [h1] at own ⊢
            simp only [List.length_cons, h2] at own ⊢
            obtain ⟨ad4, p4, rfl, had4, hg4, hv4⟩ := own_reads own 0 t.id rfl
            have e4 : ad4 = p4 := by rw [← had4, Nat.zero_mul]; exact (add_zeroE ad4).symm
            subst e4
            have o4 := (congrArg w4.cell? (add_zeroE ad4).symm).trans (hv4 0 _ rfl)
            have hz4 := add_zeroE ad4
            clear own had4 hg4 hv4 h1 h2
            go_wp2_with fail
            go_ret
            exact ⟨rfl, HB4.out⟩
          · rw [h1] at own ⊢
            have hk0 : (0 : Int) ≤ (k : Int) := by omega
            have hk1 : (k : Int) < (((x :: r).length : Nat) : Int) := by omega
            simp only [List.length_cons, List.length_nil] at own hk1 ⊢
            clear own h1 h2
            go_wp2_with fail
            go_ret
            exact ⟨rfl, HB4.out⟩
end Go.Proofs.YtejaljcgcmdlgaaDoor
