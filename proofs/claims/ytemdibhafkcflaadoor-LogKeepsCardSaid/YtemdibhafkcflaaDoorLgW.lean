/- Contract of a log's wiping: blocks are wiped in ascending order until the power goes. Conditions: the sentinels lie as the program's text lays them; the log lies in memory, there is power; the disk has seen fewer than a million writes. -/
import Derived.Test.YtemdibhafkcflaaDoorLgA
import Derived.LoopTactic
namespace Go.Proofs.YtemdibhafkcflaaDoor
open Go Go.RowKit

/-- The blocks of a log and of its disk. -/
def Log3 (q p g : Nat) : Nat → Prop := fun k => k = q ∨ k = p ∨ k = g
theorem LogMem.wrote {w w' : World} {B q p g cap : Nat} {d r : DS} {a m b : Nat} {v : Value} {rs : List (List UInt8)} {fell : Bool} (h : LogMem w B q p g cap d a m b v rs false) (hw : Wrote w w' q p g cap r (logV p a m b v (layR b rs).length false) fell) (hn : r.n = d.n) :
    LogMem w' B q p g cap r a m b v rs fell :=
  ⟨hw.blk, hw.disk, hw.chg.own h.own (fun k hk hs => by obtain ⟨h1, h2, h3⟩ := h.apart k hk; rcases hs with hs | hs | hs <;> contradiction), h.nil0, h.lo, h.ne, by rw [hn]; exact h.fits, h.room, h.base, h.apart⟩
theorem LogMem.lo3 {w : World} {B q p g cap : Nat} {d : DS} {a m b : Nat} {v : Value} {rs : List (List UInt8)} {fell : Bool} (h : LogMem w B q p g cap d a m b v rs fell) : ∀ k, Log3 q p g k → B ≤ k := by
  have hl := h.lt
  rintro k (rfl | rfl | rfl) <;> omega

/-- What a round of the wiping begins with. -/
def WRel (w0 w : World) (q p g cap : Nat) (d : DS) (a m b : Nat) (v : Value) (rs : List (List UInt8)) (i n : Nat) (x : Value) (wr : World) : Prop :=
  ∃ (j : Nat) (e : DS), x = .int .i64 ((i + j : Nat) : Int) ∧ j ≤ n ∧ WipeAt d i n j e ∧ LogMem wr w0.heap.size q p g cap e a m b v rs false ∧ Below w0.heap.size w0 wr ∧ ChgS (Log3 q p g) w wr
theorem zero_eq (s : ByteArray) : (s.toList == (bst zeroF).toList) = decide (s.data.toList = zeroF) := by
  rw [Bool.eq_iff_iff, beq_iff_eq, decide_eq_true_eq, toList_is, toList_is]; rfl

set_option maxHeartbeats 3200000 in
set_option maxRecDepth 100000 in
theorem wipe_c (s : Nat → Addr) (w0 : World) (q p g cap : Nat) (d : DS) (a m b : Nat) (v : Value) (rs : List (List UInt8)) (i n : Nat) (w : World) (hs : Sent s w0) (hb : Below w0.heap.size w0 w) (h : LogMem w w0.heap.size q p g cap d a m b v rs false)
    (hin : i + n = a + m) (ho : d.on = true) (hw : d.wr + n ≤ 1000000) :
    Calls Tryd.prog 28 #[.pointer (some ⟨q, 0, none⟩), .int .i64 (i : Int)] w fun e w' => e = .returned (errV s (d.wipe i n).1) ∧ LogMem w' w0.heap.size q p g cap (d.wipe i n).2 a m b v rs (fellOf (d.wipe i n).1) ∧ ChgS (Log3 q p g) w w' := by
  have hsz := h.sizes
  have hfit := h.fits
  have HR : Hid (∀ W, Calls Tryd.prog 37 #[.string ⟨#[0]⟩, .int .i64 64] W fun e w' => e = .returned (.string (bst zeroF)) ∧ Below W.heap.size W w') := Lib.hid fun W => by
    have h := repeat_c ⟨#[0]⟩ 64 W (by omega) (by decide)
    rw [show (⟨#[0]⟩ : ByteArray).data.toList = [0] from rfl, repeatL_one] at h
    exact h
  obtain ⟨Z, hZ⟩ : ∃ Z, bst zeroF = Z := ⟨_, rfl⟩
  have hZs : Z.size = 64 := by rw [← hZ]; rfl
  have hZe := zero_eq
  have hZl : Z.data.toList = zeroF := by rw [← hZ]; rfl
  rw [hZ] at HR hZe
  have HZ := Lib.hid hZe; have HZL := Lib.hid hZl
  have HS := Lib.hid hs; have HB := Lib.hid hb; have HM := Lib.hid h
  have HST := Lib.hid (WipeAt.start i n ho)
  clear hZ hs hb h hZe hZl
  go_enter Tryd.func28, Tryd.ntmps28
  go_wp2_with fail
  refine (HR.out _).mono ?_
  rintro e w1 ⟨rfl, b1⟩
  have HST2 : Hid (WRel w0 w q p g cap d a m b v rs i n (.int .i64 (i : Int)) w1) := Lib.hid ⟨0, d, rfl, Nat.zero_le _, HST.out, HM.out.below b1 (Nat.le_refl _), HB.out.trans (b1.mono HB.out.size), ChgS.of_below b1⟩
  clear HST HM HB b1
  go_wp2_with fail
  go_loopw [6] (fun x wr => WRel w0 w q p g cap d a m b v rs i n x wr) (fun x _ => (a + m) - (intOf x).toNat)
  case atStart => exact HST2.out
  case round =>
    obtain ⟨j, e, rfl, hj, hwa, hm, hb, hc⟩ := hrel
    clear HST2
    obtain ⟨_, _, c2, _, _, _, _⟩ := hm.cells
    by_cases hjn : j < n
    · have hen : e.n = d.n := hwa.like.n
      have hlr := lread_c s w0.heap.size q p g cap e a m b v rs (i + j) wr (HS.out.below hb (Nat.le_refl _)) hm (by omega) hwa.on
      have HLR := Lib.hid hlr
      obtain ⟨X, hX⟩ : ∃ X, bst (e.blk (i + j)) = X := ⟨_, rfl⟩
      have hXl : X.data.toList = e.blk (i + j) := by rw [← hX]; rfl
      rw [hX] at HLR
      have hlt : ((i + j : Nat) : Int) < ((a + m : Nat) : Int) := by omega
      have HWA := Lib.hid hwa; have HM := Lib.hid hm; have HB := Lib.hid hb; have HC := Lib.hid hc; have HXL := Lib.hid hXl
      clear hwa hm hb hc hlr hX hXl
      by_cases hz : e.blk (i + j) = zeroF
      · have hq : (X.toList == Z.toList) = true := by rw [HZ.out, HXL.out]; exact decide_eq_true hz
        go_wp2_with fail
        refine (HLR.out).mono ?_
        rintro e1 w2 ⟨rfl, hs2⟩
        have HN : Hid (WRel w0 w q p g cap d a m b v rs i n (.int .i64 (((i + j : Nat) : Int) + 1)) w2) := Lib.hid ⟨j + 1, e, ret_v (by omega), hjn, HWA.out.zero hjn hz, HM.out.same hs2, HB.out.trans (hs2.below _), HC.out.trans (hs2.chg (Log3 q p g)) fun _ _ h => h⟩
        clear hs2 HWA HM HB HC
        go_wp2_with fail
        go_roundw
        case rel => exact HN.out
        case measure => simp [intOf]; omega
      · have hq : (X.toList == Z.toList) = false := by rw [HZ.out, HXL.out]; exact decide_eq_false hz
        go_wp2_with fail
        refine (HLR.out).mono ?_
        rintro e1 w2 ⟨rfl, hs2⟩
        have hm2 := HM.out.same hs2
        have hlw := lwrite_c s q p g cap e (logV p a m b v (layR b rs).length false) (i + j) Z w2 (HS.out.below (HB.out.trans (hs2.below _)) (Nat.le_refl _)) hm2.blk rfl rfl hm2.disk hm2.ne hZs (by omega) HWA.out.on (by have := HWA.out.wr; omega)
        rw [HZL.out] at hlw
        have HLW := Lib.hid hlw
        have HM2 := Lib.hid hm2
        have HS2 := Lib.hid hs2
        clear hlw hm2 hs2
        go_wp2_with fail
        refine (HLW.out).mono ?_
        rintro e2 w3 ⟨he2, hwr⟩
        have hrn : (e.write ((i + j : Nat) : Int) zeroF).2.n = e.n := by
          rcases write_fst (d := e) (i := i + j) (s := zeroF) (by omega) rfl HWA.out.on with ⟨_, h2, _⟩ | ⟨_, h2, _⟩
          · rw [h2]; exact (wrote_like (by omega) rfl).n
          · rw [h2]; exact torn_n (by omega) rfl
        have hm3 := HM2.out.wrote hwr hrn
        have hc3 : ChgS (Log3 q p g) w w3 := (HC.out.trans (HS2.out.chg (Log3 q p g)) fun _ _ h => h).trans hwr.chg fun _ _ h => h
        have hb3 : Below w0.heap.size w0 w3 := (HB.out.trans (HS2.out.below _)).trans (hwr.chg.below (HM2.out.lo3) (HB.out.trans (HS2.out.below _)).size)
        rcases HWA.out.step hjn (by omega) hz with ⟨hr, hn⟩ | ⟨hr, hn⟩
        · rw [hr] at hm3 he2
          rw [errV_zero] at he2
          subst he2
          have HN : Hid (WRel w0 w q p g cap d a m b v rs i n (.int .i64 (((i + j : Nat) : Int) + 1)) w3) := Lib.hid ⟨j + 1, _, ret_v (by omega), hjn, hn, hm3, hb3, hc3⟩
          clear HWA HM HB HC HM2 HS2 hwr hm3 hc3 hb3 hn
          go_wp2_with fail
          go_roundw
          case rel => exact HN.out
          case measure => simp [intOf]; omega
        · have he3 := he2
          rw [hr, errV_pos] at he2
          subst he2
          have HF : Hid (LogMem w3 w0.heap.size q p g cap (d.wipe i n).2 a m b v rs (fellOf (d.wipe i n).1) ∧ ChgS (Log3 q p g) w w3) := Lib.hid ⟨by rw [hn]; exact hm3, hc3⟩
          have HE : Hid (errV s (d.wipe i n).1 = .iface 135 (.pointer (some (s 13)))) := Lib.hid (by rw [hn, hr]; rfl)
          clear HWA HM HB HC HM2 HS2 hwr hm3 hc3 hb3 hn he3
          go_wp2_with fail
          go_ret
          exact ⟨by rw [HE.out]; rfl, HF.out⟩
    · have hfin := hwa.fin (by omega)
      have HF : Hid (LogMem wr w0.heap.size q p g cap (d.wipe i n).2 a m b v rs (fellOf (d.wipe i n).1) ∧ ChgS (Log3 q p g) w wr) := Lib.hid ⟨by rw [hfin]; exact hm, hc⟩
      have HE : Hid (errV s (d.wipe i n).1 = .nilIface) := Lib.hid (by rw [hfin]; rfl)
      have hge : ¬ ((i + j : Nat) : Int) < ((a + m : Nat) : Int) := by omega
      clear hwa hm hb hc hfin
      go_wp2_with fail
      go_ret
      exact ⟨by rw [HE.out]; rfl, HF.out⟩
end Go.Proofs.YtemdibhafkcflaaDoor
