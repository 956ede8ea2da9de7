/- Contracts of log's Open and Reset. Conditions: the sentinels lie as the program's text lays them; the disk lies in memory, there is power where it is read or written; it has seen fewer than a million writes. -/
import Derived.Test.YtaibmdjcppeopaaGreatDoorLgL
import Derived.Test.YtaibmdjcppeopaaGreatDoorLgAdd
namespace Go.Proofs.YtaibmdjcppeopaaGreatDoor
open Go Go.RowKit

set_option maxHeartbeats 1600000 in
set_option maxRecDepth 100000 in
theorem isBase_c (n : Int) (w : World) :
    Calls Tryz.prog 42 #[.int .i64 n] w fun e w' => e = .returned (.bool (decide (0 ≤ n) && decide (n ≤ 1073741824))) ∧ w = w' := by
  go_enter Tryz.func42, Tryz.ntmps42
  by_cases h0 : 0 ≤ n
  · go_wp2_with fail
    all_goals go_ret
    all_goals exact ⟨by simp [h0], rfl⟩
  · go_wp2_with fail
    all_goals go_ret
    all_goals exact ⟨by simp; omega, rfl⟩

/-- A log round a disk, before its blocks were read. -/
theorem LogMem.new {w : World} {B p g cap : Nat} {d : DS} {a m b : Nat} (h : DiskAt w p g cap d) (hlo : B ≤ g) (hfit : a + m ≤ d.n) (hb : b ≤ 1073741824) :
    LogMem (w.alloc (.cells (logV p a m b (.slice none 0 0) 0 false) 80)) B w.heap.size p g cap d a m b (.slice none 0 0) [] false :=
  ⟨heap_alloc_new w _, h.alloc _, World.ownsRow_nil _ _ _ _, fun _ => rfl, hlo, h.lt.1, hfit, by simp [layR], hb, fun k hk => by simp [Value.ownBlock] at hk⟩

/-- What Open leaves. -/
def OpenPost (w0 w : World) (p g cap : Nat) (r : DS) (a m b : Nat) (rs : List (List UInt8)) (e : Ending) (w' : World) : Prop :=
  ∃ q v, e = .returned (.tuple #[.pointer (some ⟨q, 0, none⟩), .nilIface]) ∧ LogMem w' w0.heap.size q p g cap r a m b v rs false ∧ ChgS (fun k => k = p ∨ k = g) w w' ∧ w.heap.size ≤ q ∧ ∀ k, v.ownBlock = some k → w.heap.size ≤ k

set_option maxHeartbeats 3200000 in
set_option maxRecDepth 100000 in
theorem open_c (s : Nat → Addr) (w0 : World) (p g cap : Nat) (d : DS) (a m b : Nat) (rs : List (List UInt8)) (x y z : Int) (w : World) (hs : Sent s w0) (hb : Below w0.heap.size w0 w) (h : DiskAt w p g cap d) (hlo : w0.heap.size ≤ g) (hx : x = (a : Int)) (hy : y = ((a + m : Nat) : Int)) (hz : z = (b : Int))
    (hm0 : 0 < m) (hfit : a + m ≤ d.n) (hbb : b ≤ 1073741824) (ho : d.on = true) (hw : d.wr + m ≤ 1000000) (hfol : Follows (rowsD d a m) b rs) (hr : (d.wipe (a + (layR b rs).length) (m - (layR b rs).length)).1 = 0) :
    Calls Tryz.prog 27 #[.pointer (some ⟨p, 0, none⟩), .int .i64 x, .int .i64 y, .int .i64 z] w fun e w' => OpenPost w0 w p g cap (d.wipe (a + (layR b rs).length) (m - (layR b rs).length)).2 a m b rs e w' := by
  subst hx; subst hy; subst hz
  obtain ⟨u, hu⟩ : ∃ u, (layR b rs).length = u := ⟨_, rfl⟩
  rw [hu] at hr ⊢
  have hlen := len_c p g cap d w h
  have hn4 := DS.n_le h.ok
  have hisb := isBase_c (b : Int)
  have e1 : (decide ((0 : Int) ≤ (b : Int)) && decide ((b : Int) ≤ 1073741824)) = true := by
    rw [decide_eq_true (by omega), decide_eq_true (by omega)]; rfl
  simp only [e1] at hisb
  have HIS := Lib.hid hisb
  have HLEN := Lib.hid hlen
  have HNEW := Lib.hid (LogMem.new (B := w0.heap.size) h hlo hfit hbb)
  have hbn : Below w.heap.size w (w.alloc (.cells (logV p a m b (.slice none 0 0) 0 false) 80)) := (Below.refl _ _).alloc (Nat.le_refl _) _
  obtain ⟨W1, hW1⟩ : ∃ W1, w.alloc (.cells (logV p a m b (.slice none 0 0) 0 false) 80) = W1 := ⟨_, rfl⟩
  have hload := load_c s w0 w.heap.size p g cap d a m b (w.alloc (.cells (logV p a m b (.slice none 0 0) 0 false) 80)) hs (hb.trans (hbn.mono hb.size)) HNEW.out hm0 ho
  rw [hW1] at hload hbn
  have HLOAD := Lib.hid hload
  have HBN := Lib.hid hbn
  have hW1' : w.alloc (.cells #[.pointer (some ⟨p, 0, none⟩), .int .i64 (a : Int), .int .i64 ((a : Int) + (m : Int)), .int .i64 (b : Int), .slice none 0 0, .int .i64 (a : Int), .bool false] 80) = W1 := by
    rw [← hW1, logV, show ((a + m : Nat) : Int) = (a : Int) + (m : Int) by omega]; rfl
  have f1 : ¬ ((a : Int) < 0) := by omega
  have f2 : ¬ ((a : Int) + (m : Int) ≤ (a : Int)) := by omega
  have f3 : ¬ ((d.n : Int) < (a : Int) + (m : Int)) := by omega
  have hsw : w.heap.size < W1.heap.size := by rw [← hW1, World.size_alloc]; omega
  have HS := Lib.hid hs; have HB := Lib.hid hb
  have hpl := h.lt
  clear hload hbn HNEW hlen hisb h hW1 hs hb
  go_enter Tryz.func27, Tryz.ntmps27
  go_wp2_with fail
  refine (HLEN.out).mono ?_
  rintro e w1 ⟨rfl, rfl⟩
  go_wp2_with fail
  refine (HIS.out _).mono ?_
  rintro e w1 ⟨rfl, rfl⟩
  go_wp2_with fail
  (try rw [hW1'])
  refine (HLOAD.out).mono ?_
  rintro e w2 ⟨rfl, rs', v, hf, hm, hc, hv⟩
  obtain rfl := follows_uniq hf hfol
  have c5 := hm.cells.2.2.2.2.2.1
  have hul : u ≤ m := by rw [← hu]; exact hm.room
  rw [hu] at c5
  have hb2 : Below w0.heap.size w0 w2 := (HB.out.trans (HBN.out.mono HB.out.size)).trans (hc.below (fun k hk => by have := HB.out.size; omega) (Nat.le_trans HB.out.size (by omega)))
  have hwp := rwipe_c s w0 p g cap d (a + u) (m - u) _ ((a : Int) + (m : Int)) w2 HS.out hb2 hm.disk hm.lo rfl (by omega) (by omega) ho (by omega)
  have hwn := wipe_n (d := d) (i := a + u) (m := m - u) (by omega) ho
  have HM2 := Lib.hid hm
  rw [hr] at hwp
  have HWP := Lib.hid hwp
  have HC := Lib.hid hc
  have HV := Lib.hid hv
  clear hf hm hc hv hwp hb2 hfol
  go_wp2_with fail
  refine (HWP.out).mono ?_
  rintro e w3 ⟨he, hd3, hc3⟩
  have hm3 := HM2.out.disked hd3 hc3 hwn.1
  rw [errV_zero] at he
  subst he
  have HF : Hid (OpenPost w0 w p g cap (d.wipe (a + u) (m - u)).2 a m b rs' (.returned (.tuple #[.pointer (some ⟨w.heap.size, 0, none⟩), .nilIface])) w3) := Lib.hid
    ⟨w.heap.size, v, rfl, hm3, ((ChgS.of_below (S := fun k => k = p ∨ k = g) HBN.out).trans (HC.out.mono (T := fun k => k = w.heap.size) fun _ _ h => h) fun k hk h => by omega).trans hc3 fun _ _ h => h, Nat.le_refl _, fun k hk => by have := HV.out k hk; omega⟩
  clear hm3 hc3 hd3 HC HV HM2
  go_wp2_with fail
  go_ret2
  exact HF.out
end Go.Proofs.YtaibmdjcppeopaaGreatDoor
