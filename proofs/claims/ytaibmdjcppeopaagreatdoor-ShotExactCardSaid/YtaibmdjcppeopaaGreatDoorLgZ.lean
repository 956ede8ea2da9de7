/- Contracts of log's Reset. Conditions: the sentinels lie as the program's text lays them; the log lies in memory, there is power where it is written; the disk has seen fewer than a million writes. -/
import Derived.Test.YtaibmdjcppeopaaGreatDoorLgO
import Derived.Deep.RegionHeld3
namespace Go.Proofs.YtaibmdjcppeopaaGreatDoor
open Go Go.RowKit

set_option maxHeartbeats 1600000 in
set_option maxRecDepth 100000 in
/-- A base that is none. -/
theorem reset_bad (s : Nat → Addr) (q : Nat) (x : Int) (w : World) (hs : Sent s w) (hx : x < 0 ∨ 1073741824 < x) :
    Calls Tryz.prog 53 #[.pointer (some ⟨q, 0, none⟩), .int .i64 x] w fun e w' => e = .returned (errV s (0 + 1)) ∧ w = w' := by
  have hisb := isBase_c x
  have e1 : (decide ((0 : Int) ≤ x) && decide (x ≤ 1073741824)) = false := by
    rw [Bool.and_eq_false_iff, decide_eq_false_iff_not, decide_eq_false_iff_not]; omega
  simp only [e1] at hisb
  have HIS := Lib.hid hisb
  have gA := (sent_err s w hs).2.1
  clear hisb hs hx e1
  go_enter Tryz.func53, Tryz.ntmps53
  go_wp2_with fail
  refine (HIS.out _).mono ?_
  rintro e w1 ⟨rfl, rfl⟩
  go_wp2_with fail
  go_ret
  exact ⟨rfl, rfl⟩

set_option maxHeartbeats 1600000 in
set_option maxRecDepth 100000 in
/-- The power failed during an earlier call. -/
theorem reset_fell (s : Nat → Addr) (B q p g cap : Nat) (d : DS) (a m b : Nat) (v : Value) (rs : List (List UInt8)) (x : Int) (w : World) (hs : Sent s w) (h : LogMem w B q p g cap d a m b v rs true) (hx : 0 ≤ x ∧ x ≤ 1073741824) :
    Calls Tryz.prog 53 #[.pointer (some ⟨q, 0, none⟩), .int .i64 x] w fun e w' => e = .returned (errV s (13 + 1)) ∧ w = w' := by
  have hisb := isBase_c x
  have e1 : (decide ((0 : Int) ≤ x) && decide (x ≤ 1073741824)) = true := by
    rw [decide_eq_true hx.1, decide_eq_true hx.2]; rfl
  simp only [e1] at hisb
  have HIS := Lib.hid hisb
  have gD := (sent_err s w hs).2.2.2
  have c6 := h.cells.2.2.2.2.2.2
  clear hisb hs hx e1 h
  go_enter Tryz.func53, Tryz.ntmps53
  go_wp2_with fail
  refine (HIS.out _).mono ?_
  rintro e w1 ⟨rfl, rfl⟩
  go_wp2_with fail
  go_ret
  exact ⟨rfl, rfl⟩

/-- What Reset answers and leaves. -/
def ResetPost (s : Nat → Addr) (B q p g cap a m b : Nat) (v : Value) (rs : List (List UInt8)) (c : Nat) (r : Nat × DS) (w : World) (e : Ending) (w' : World) : Prop :=
  (r.1 = 0 ∧ e = .returned .nilIface ∧ LogMem w' B q p g cap r.2 a m c (.slice none 0 0) [] false ∧ ChgS (Log3 q p g) w w') ∨
  (r.1 = 14 ∧ e = .returned (errV s 14) ∧ LogMem w' B q p g cap r.2 a m b v rs true ∧ ChgS (Log3 q p g) w w')
theorem wipe_fst {d : DS} {m i : Nat} (hi : i + m ≤ d.n) (ho : d.on = true) : (d.wipe i m).1 = 0 ∨ (d.wipe i m).1 = 14 := by
  induction m generalizing d i with
  | zero => exact .inl rfl
  | succ m ih =>
    rw [wipe_succ]
    split
    · exact ih (d := d) (i := i + 1) (by omega) ho
    · rcases write_fst (d := d) (i := i) (s := zeroF) (by omega) rfl ho with ⟨h1, h2, _⟩ | ⟨h1, h2, _⟩
      · rw [if_pos h1, h2]
        have hn := (wrote_like (d := d) (i := i) (s := zeroF) (by omega) rfl).n
        exact ih (d := d.wrote i zeroF) (i := i + 1) (by omega) ho
      · rw [if_neg (by rw [h1]; decide)]; exact .inr h1
theorem LogMem.emptied {w : World} {B q p g cap : Nat} {d : DS} {a m b c : Nat} {v x y : Value} {rs : List (List UInt8)} (h : LogMem w B q p g cap d a m b v rs false) (hc : c ≤ 1073741824) (hx : x = .int .i64 (c : Int)) (hy : y = .int .i64 (a : Int)) :
    LogMem (((w.setCell ⟨q, 3, none⟩ x).setCell ⟨q, 4, none⟩ (.slice none 0 0)).setCell ⟨q, 5, none⟩ y) B q p g cap d a m c (.slice none 0 0) [] false ∧ ChgS (Log3 q p g) w (((w.setCell ⟨q, 3, none⟩ x).setCell ⟨q, 4, none⟩ (.slice none 0 0)).setCell ⟨q, 5, none⟩ y) := by
  have hl := h.lt
  have hold : ∀ k, k ≠ q → (((w.setCell ⟨q, 3, none⟩ x).setCell ⟨q, 4, none⟩ (.slice none 0 0)).setCell ⟨q, 5, none⟩ y).heap[k]? = w.heap[k]? := fun k hk =>
    (Below.heap_setCell _ ⟨q, 5, none⟩ _ k hk).trans ((Below.heap_setCell _ ⟨q, 4, none⟩ _ k hk).trans (Below.heap_setCell w ⟨q, 3, none⟩ _ k hk))
  refine ⟨⟨?_, h.disk.same (hold p (by omega)) (hold g (by omega)), World.ownsRow_nil _ _ _ _, fun _ => rfl, h.lo, h.ne, h.fits, by simp [layR], hc, fun k hk => by simp [Value.ownBlock] at hk⟩, ((((ChgS.refl _ w).setCell (.inl (.inl rfl)) _).setCell (.inl (.inl rfl)) _).setCell (.inl (.inl rfl)) _)⟩
  rw [set_cells (set_cells (set_cells h.blk)), hx, hy]; rfl

set_option maxHeartbeats 1600000 in
set_option maxRecDepth 100000 in
theorem reset_c (s : Nat → Addr) (w0 : World) (q p g cap : Nat) (d : DS) (a m b : Nat) (v : Value) (rs : List (List UInt8)) (c : Nat) (x : Int) (w : World) (hs : Sent s w0) (hb : Below w0.heap.size w0 w) (h : LogMem w w0.heap.size q p g cap d a m b v rs false)
    (hx : x = (c : Int)) (hc : c ≤ 1073741824) (ho : d.on = true) (hw : d.wr + m ≤ 1000000) :
    Calls Tryz.prog 53 #[.pointer (some ⟨q, 0, none⟩), .int .i64 x] w fun e w' => ResetPost s w0.heap.size q p g cap a m b v rs c (d.wipe a m) w e w' := by
  subst hx
  have hisb := isBase_c (c : Int)
  have e1 : (decide ((0 : Int) ≤ (c : Int)) && decide ((c : Int) ≤ 1073741824)) = true := by
    rw [decide_eq_true (by omega), decide_eq_true (by omega)]; rfl
  simp only [e1] at hisb
  have HIS := Lib.hid hisb
  have c6 := h.cells.2.2.2.2.2.2
  have hfst := wipe_fst h.fits ho
  have hwn := wipe_n h.fits ho
  obtain ⟨R, hR⟩ : ∃ R, d.wipe a m = R := ⟨_, rfl⟩
  obtain ⟨TT, hTT⟩ : ∃ TT : Int, ((a + m : Nat) : Int) = TT := ⟨_, rfl⟩
  have hcel : ∀ (W : World) (e : DS) (f : Bool), LogMem W w0.heap.size q p g cap e a m b v rs f → Cel W q [(0, .pointer (some ⟨p, 0, none⟩)), (1, .int .i64 (a : Int)), (2, .int .i64 TT)] := fun W e f h => by
    have h2 := h.cells.2.2.1
    rw [hTT] at h2
    exact Cel.mk3 h.cells.1 h.cells.2.1 h2
  have hCEL := Lib.hid (hcel w d false h)
  have HCE := Lib.hid hcel
  have HMID : Hid (LgMid w w w0.heap.size q p g cap d a m b v rs false) := Lib.hid (LgMid.start h)
  have hwp : ∀ W : World, LgMid w W w0.heap.size q p g cap d a m b v rs false → Calls Tryz.prog 44 #[.pointer (some ⟨p, 0, none⟩), .int .i64 (a : Int), .int .i64 TT] W fun e w' => e = .returned (errV s R.1) ∧ LgMid w w' w0.heap.size q p g cap R.2 a m b v rs false := fun W hW => by
    have hbW : Below w0.heap.size w0 W := hb.trans (hW.chg.below hW.mem.lo3 hb.size)
    have hrp := rwipe_c s w0 p g cap d a m (a : Int) TT W hs hbW hW.mem.disk h.lo rfl hTT.symm h.fits ho hw
    rw [hR] at hrp
    refine hrp.mono ?_
    rintro e w' ⟨he, hd, hc⟩
    exact ⟨he, hW.mem.disked hd hc (by rw [← hR]; exact hwn.1), hW.chg.trans (hc.mono fun _ _ h => dsk2_log3 h) fun _ _ h => h⟩
  have HRPW := Lib.hid hwp
  rw [hR] at hfst ⊢
  clear hisb hs e1 h hwp hb hcel hR hTT hwn
  rcases hfst with h1 | h1
  · rw [h1] at HRPW
    simp only [errV_zero] at HRPW
    go_enter Tryz.func53, Tryz.ntmps53
    go_wp2_with fail
    refine (HIS.out _).mono ?_
    rintro e w1 ⟨rfl, rfl⟩
    go_wp2_with fail
    go_region_held3 (fun W => W.cell? ⟨q, 0, none⟩ = some (.pointer (some ⟨p, 0, none⟩)) ∧ W.cell? ⟨q, 1, none⟩ = some (.int .i64 (a : Int)) ∧ W.cell? ⟨q, 2, none⟩ = some (.int .i64 TT))
      (exact Cel.three (by (repeat' (first | (with_reducible assumption) | (with_reducible exact Hid.out (by with_reducible assumption)) | (with_reducible refine Cel.drewN ?_ _) | (with_reducible refine Cel.drew ?_)))))
      (first
        | (go_at_call 44; (with_reducible refine (HRPW.out _ (by (repeat' (first | (with_reducible assumption) | (with_reducible exact Hid.out (by with_reducible assumption)) | (with_reducible refine LgMid.drewN ?_ _) | (with_reducible refine LgMid.drew ?_))))).mono ?_); rintro e w5 ⟨rfl, i5⟩; have c5 : Cel w5 q [(0, .pointer (some ⟨p, 0, none⟩)), (1, .int .i64 (a : Int)), (2, .int .i64 TT)] := HCE.out _ _ _ i5.mem)
        | (go_at_call 55; (with_reducible refine (note_ok2 _ _ q p g cap R.2 a m b v rs _ (by (repeat' (first | (with_reducible assumption) | (with_reducible exact Hid.out (by with_reducible assumption)) | (with_reducible refine LgMid.drewN ?_ _) | (with_reducible refine LgMid.drew ?_))))).mono ?_); rintro e w6 ⟨rfl, i6⟩; have c7 : Cel w6 q [(0, .pointer (some ⟨p, 0, none⟩)), (1, .int .i64 (a : Int)), (2, .int .i64 TT)] := HCE.out _ _ _ i6.mem))
    all_goals (
      have hm := i6.mem
      have hch := i6.chg
      have d1 := hm.cells.2.1
      have d3 := hm.cells.2.2.2.1
      have d4 := hm.cells.2.2.2.2.1
      have d5 := hm.cells.2.2.2.2.2.1
      have f3 := frozen_of_heap hm.blk 3
      have f4 := frozen_of_heap hm.blk 4
      have f5 := frozen_of_heap hm.blk 5
      have HF : Hid (∀ x y, x = .int .i64 (c : Int) → y = .int .i64 (a : Int) → ResetPost s w0.heap.size q p g cap a m b v rs c R w (.returned .nilIface) (((w6.setCell ⟨q, 3, none⟩ x).setCell ⟨q, 4, none⟩ (.slice none 0 0)).setCell ⟨q, 5, none⟩ y)) := Lib.hid fun x y hx hy => by
        obtain ⟨k1, k2⟩ := LogMem.emptied hm hc hx hy
        exact .inl ⟨h1, rfl, k1, hch.trans k2 fun _ _ h => h⟩
      clear hm hch i5 i6 c5 c6 c7 hCEL HCE HMID HRPW
      go_wp2_with fail
      go_ret
      exact HF.out _ _ rfl rfl)
  · rw [h1] at HRPW
    simp only [errV_pos] at HRPW
    go_enter Tryz.func53, Tryz.ntmps53
    go_wp2_with fail
    refine (HIS.out _).mono ?_
    rintro e w1 ⟨rfl, rfl⟩
    go_wp2_with fail
    go_region_held3 (fun W => W.cell? ⟨q, 0, none⟩ = some (.pointer (some ⟨p, 0, none⟩)) ∧ W.cell? ⟨q, 1, none⟩ = some (.int .i64 (a : Int)) ∧ W.cell? ⟨q, 2, none⟩ = some (.int .i64 TT))
      (exact Cel.three (by (repeat' (first | (with_reducible assumption) | (with_reducible exact Hid.out (by with_reducible assumption)) | (with_reducible refine Cel.drewN ?_ _) | (with_reducible refine Cel.drew ?_)))))
      (first
        | (go_at_call 44; (with_reducible refine (HRPW.out _ (by (repeat' (first | (with_reducible assumption) | (with_reducible exact Hid.out (by with_reducible assumption)) | (with_reducible refine LgMid.drewN ?_ _) | (with_reducible refine LgMid.drew ?_))))).mono ?_); rintro e w5 ⟨rfl, i5⟩; have c5 : Cel w5 q [(0, .pointer (some ⟨p, 0, none⟩)), (1, .int .i64 (a : Int)), (2, .int .i64 TT)] := HCE.out _ _ _ i5.mem)
        | (go_at_call 55; (with_reducible refine (note_bad2 _ _ q p g cap R.2 a m b v rs (s 13) _ (by (repeat' (first | (with_reducible assumption) | (with_reducible exact Hid.out (by with_reducible assumption)) | (with_reducible refine LgMid.drewN ?_ _) | (with_reducible refine LgMid.drew ?_))))).mono ?_); rintro e w6 ⟨rfl, i6⟩; have c7 : Cel w6 q [(0, .pointer (some ⟨p, 0, none⟩)), (1, .int .i64 (a : Int)), (2, .int .i64 TT)] := HCE.out _ _ _ i6.mem))
    all_goals (
      have HF : Hid (ResetPost s w0.heap.size q p g cap a m b v rs c R w (.returned (errV s 14)) w6) := Lib.hid (.inr ⟨h1, rfl, i6.mem, i6.chg⟩)
      clear i5 i6 c5 c6 c7 hCEL HCE HMID HRPW
      go_wp2_with fail
      go_ret
      exact HF.out)

set_option maxHeartbeats 3200000 in
set_option maxRecDepth 100000 in
/-- Without power a Reset wipes nothing, and the log keeps that in mind. -/
theorem reset_off (s : Nat → Addr) (w0 : World) (q p g cap : Nat) (d : DS) (a m b : Nat) (v : Value) (rs : List (List UInt8)) (c : Nat) (x : Int) (w : World) (hs : Sent s w0) (hb : Below w0.heap.size w0 w) (h : LogMem w w0.heap.size q p g cap d a m b v rs false)
    (hx : x = (c : Int)) (hc : c ≤ 1073741824) (hm0 : 0 < m) (ho : d.on = false) :
    Calls Tryz.prog 53 #[.pointer (some ⟨q, 0, none⟩), .int .i64 x] w fun e w' => e = .returned (errV s 14) ∧ LogMem w' w0.heap.size q p g cap d a m b v rs true ∧ ChgS (Log3 q p g) w w' := by
  subst hx
  have hisb := isBase_c (c : Int)
  have e1 : (decide ((0 : Int) ≤ (c : Int)) && decide ((c : Int) ≤ 1073741824)) = true := by
    rw [decide_eq_true (by omega), decide_eq_true (by omega)]; rfl
  simp only [e1] at hisb
  have HIS := Lib.hid hisb
  have c6 := h.cells.2.2.2.2.2.2
  obtain ⟨TT, hTT⟩ : ∃ TT : Int, ((a + m : Nat) : Int) = TT := ⟨_, rfl⟩
  have hcel : ∀ (W : World) (e : DS) (f : Bool), LogMem W w0.heap.size q p g cap e a m b v rs f → Cel W q [(0, .pointer (some ⟨p, 0, none⟩)), (1, .int .i64 (a : Int)), (2, .int .i64 TT)] := fun W e f h => by
    have h2 := h.cells.2.2.1
    rw [hTT] at h2
    exact Cel.mk3 h.cells.1 h.cells.2.1 h2
  have hCEL := Lib.hid (hcel w d false h)
  have HCE := Lib.hid hcel
  have HMID : Hid (LgMid w w w0.heap.size q p g cap d a m b v rs false) := Lib.hid (LgMid.start h)
  have hwp : ∀ W : World, LgMid w W w0.heap.size q p g cap d a m b v rs false → Calls Tryz.prog 44 #[.pointer (some ⟨p, 0, none⟩), .int .i64 (a : Int), .int .i64 TT] W fun e w' => e = .returned (errV s 14) ∧ LgMid w w' w0.heap.size q p g cap d a m b v rs false := fun W hW => by
    have hsW : Sent s W := hs.below (hb.trans (hW.chg.below hW.mem.lo3 hb.size)) (Nat.le_refl _)
    have hrp := rwipe_off s p g cap d a m (a : Int) TT W hsW hW.mem.disk rfl hTT.symm h.fits hm0 ho
    refine hrp.mono ?_
    rintro e w' ⟨he, hb⟩
    exact ⟨he, hW.mem.below hb (Nat.le_refl _), hW.chg.trans (ChgS.of_below hb) fun _ _ h => h⟩
  have HRPW := Lib.hid hwp
  clear hisb hs hb e1 h hwp hcel hTT
  simp only [errV_pos] at HRPW ⊢
  go_enter Tryz.func53, Tryz.ntmps53
  go_wp2_with fail
  refine (HIS.out _).mono ?_
  rintro e w1 ⟨rfl, rfl⟩
  go_wp2_with fail
  go_region_held3 (fun W => W.cell? ⟨q, 0, none⟩ = some (.pointer (some ⟨p, 0, none⟩)) ∧ W.cell? ⟨q, 1, none⟩ = some (.int .i64 (a : Int)) ∧ W.cell? ⟨q, 2, none⟩ = some (.int .i64 TT))
    (exact Cel.three (by (repeat' (first | (with_reducible assumption) | (with_reducible exact Hid.out (by with_reducible assumption)) | (with_reducible refine Cel.drewN ?_ _) | (with_reducible refine Cel.drew ?_)))))
    (first
      | (go_at_call 44; (with_reducible refine (HRPW.out _ (by (repeat' (first | (with_reducible assumption) | (with_reducible exact Hid.out (by with_reducible assumption)) | (with_reducible refine LgMid.drewN ?_ _) | (with_reducible refine LgMid.drew ?_))))).mono ?_); rintro e w5 ⟨rfl, i5⟩; have c5 : Cel w5 q [(0, .pointer (some ⟨p, 0, none⟩)), (1, .int .i64 (a : Int)), (2, .int .i64 TT)] := HCE.out _ _ _ i5.mem)
      | (go_at_call 55; (with_reducible refine (note_bad2 _ _ q p g cap d a m b v rs (s 13) _ (by (repeat' (first | (with_reducible assumption) | (with_reducible exact Hid.out (by with_reducible assumption)) | (with_reducible refine LgMid.drewN ?_ _) | (with_reducible refine LgMid.drew ?_))))).mono ?_); rintro e w6 ⟨rfl, i6⟩; have c7 : Cel w6 q [(0, .pointer (some ⟨p, 0, none⟩)), (1, .int .i64 (a : Int)), (2, .int .i64 TT)] := HCE.out _ _ _ i6.mem))
  all_goals (
    have HF := Lib.hid (And.intro i6.mem i6.chg)
    clear i5 i6 c5 c6 c7 hCEL HCE HMID HRPW
    go_wp2_with fail
    go_ret
    exact ⟨rfl, HF.out⟩)
end Go.Proofs.YtaibmdjcppeopaaGreatDoor
