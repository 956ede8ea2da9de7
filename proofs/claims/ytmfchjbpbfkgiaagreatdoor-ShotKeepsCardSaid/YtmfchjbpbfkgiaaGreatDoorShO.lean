/- Contracts of a store's Open. Conditions: the sentinels lie as the program's text lays them; the disk lies in memory, there is power; it has seen fewer than a million writes. -/
import Derived.Test.YtmfchjbpbfkgiaaGreatDoorShL
import Derived.Test.YtmfchjbpbfkgiaaGreatDoorShK2
namespace Go.Proofs.YtmfchjbpbfkgiaaGreatDoor
open Go Go.RowKit

set_option maxHeartbeats 3200000 in
set_option maxRecDepth 100000 in
/-- The power goes while the blocks behind the records are wiped. -/
theorem open_cut (s : Nat → Addr) (w0 : World) (p g cap : Nat) (d : DS) (a m b : Nat) (rs : List (List UInt8)) (x y z : Int) (w : World) (hs : Sent s w0) (hb : Below w0.heap.size w0 w) (h : DiskAt w p g cap d) (hlo : w0.heap.size ≤ g) (hx : x = (a : Int)) (hy : y = ((a + m : Nat) : Int)) (hz : z = (b : Int))
    (hm0 : 0 < m) (hfit : a + m ≤ d.n) (hbb : b ≤ 1073741824) (ho : d.on = true) (hw : d.wr + m ≤ 1000000) (hfol : Follows (rowsD d a m) b rs) (hr : (d.wipe (a + (layR b rs).length) (m - (layR b rs).length)).1 = 14) :
    Calls Tryz.prog 9 #[.pointer (some ⟨p, 0, none⟩), .int .i64 x, .int .i64 y, .int .i64 z] w fun e w' => e = .returned (.tuple #[.pointer none, errV s 14]) ∧ DiskAt w' p g cap (d.wipe (a + (layR b rs).length) (m - (layR b rs).length)).2 ∧ ChgS (fun k => k = p ∨ k = g) w w' := by
  subst hx; subst hy; subst hz
  obtain ⟨u, hu⟩ : ∃ u, (layR b rs).length = u := ⟨_, rfl⟩
  rw [hu] at hr ⊢
  have hlen := len_c p g cap d w h
  have hn4 := DS.n_le h.ok
  have hisb := isBase_c (b : Int)
  have e1 : (decide ((0 : Int) ≤ (b : Int)) && decide ((b : Int) ≤ 1073741824)) = true := by
    rw [decide_eq_true (by omega), decide_eq_true (by omega)]; rfl
  simp only [e1] at hisb
  have HIS := Lib.hid hisb
  have HLEN := Lib.hid hlen
  have HNEW := Lib.hid (LogMem.new (B := w0.heap.size) h hlo hfit hbb)
  have hbn : Below w.heap.size w (w.alloc (.cells (logV p a m b (.slice none 0 0) 0 false) 67)) := (Below.refl _ _).alloc (Nat.le_refl _) _
  obtain ⟨W1, hW1⟩ : ∃ W1, w.alloc (.cells (logV p a m b (.slice none 0 0) 0 false) 67) = W1 := ⟨_, rfl⟩
  have hload := load_c s w0 w.heap.size p g cap d a m b (w.alloc (.cells (logV p a m b (.slice none 0 0) 0 false) 67)) hs (hb.trans (hbn.mono hb.size)) HNEW.out hm0 ho
  rw [hW1] at hload hbn
  have HLOAD := Lib.hid hload
  have HBN := Lib.hid hbn
  have hW1' : w.alloc (.cells #[.pointer (some ⟨p, 0, none⟩), .int .i64 (a : Int), .int .i64 ((a : Int) + (m : Int)), .int .i64 (b : Int), .slice none 0 0, .int .i64 (a : Int), .bool false] 67) = W1 := by
    rw [← hW1, logV, show ((a + m : Nat) : Int) = (a : Int) + (m : Int) by omega]; rfl
  have f1 : ¬ ((a : Int) < 0) := by omega
  have f2 : ¬ ((a : Int) + (m : Int) ≤ (a : Int)) := by omega
  have f3 : ¬ ((d.n : Int) < (a : Int) + (m : Int)) := by omega
  have hsw : w.heap.size < W1.heap.size := by rw [← hW1, World.size_alloc]; omega
  have HS := Lib.hid hs; have HB := Lib.hid hb
  have hpl := h.lt
  clear hload hbn HNEW hlen hisb h hW1 hs hb
  go_enter Tryz.func9, Tryz.ntmps9
  go_wp2_with fail
  refine (HLEN.out).mono ?_
  rintro e w1 ⟨rfl, rfl⟩
  go_wp2_with fail
  refine (HIS.out _).mono ?_
  rintro e w1 ⟨rfl, rfl⟩
  go_wp2_with fail
  (try rw [hW1'])
  refine (HLOAD.out).mono ?_
  rintro e w2 ⟨rfl, rs', v, hf, hm, hc, hv⟩
  obtain rfl := follows_uniq hf hfol
  have c5 := hm.cells.2.2.2.2.2.1
  have hul : u ≤ m := by rw [← hu]; exact hm.room
  rw [hu] at c5
  have hb2 : Below w0.heap.size w0 w2 := (HB.out.trans (HBN.out.mono HB.out.size)).trans (hc.below (fun k hk => by have := HB.out.size; omega) (Nat.le_trans HB.out.size (by omega)))
  have hwp := rwipe_c s w0 p g cap d (a + u) (m - u) _ ((a : Int) + (m : Int)) w2 HS.out hb2 hm.disk hm.lo rfl (by omega) (by omega) ho (by omega)
  have hwn := wipe_n (d := d) (i := a + u) (m := m - u) (by omega) ho
  have HM2 := Lib.hid hm
  rw [hr] at hwp
  have HWP := Lib.hid hwp
  have HC := Lib.hid hc
  have HV := Lib.hid hv
  clear hf hm hc hv hwp hb2 hfol
  go_wp2_with fail
  refine (HWP.out).mono ?_
  rintro e w3 ⟨he, hd3, hc3⟩
  rw [errV_pos] at he
  subst he
  have HF : Hid (DiskAt w3 p g cap (d.wipe (a + u) (m - u)).2 ∧ ChgS (fun k => k = p ∨ k = g) w w3) := Lib.hid
    ⟨hd3, ((ChgS.of_below (S := fun k => k = p ∨ k = g) HBN.out).trans (HC.out.mono (T := fun k => k = w.heap.size) fun _ _ h => h) fun k hk h => by omega).trans hc3 fun _ _ h => h⟩
  clear hc3 hd3 HC HV HM2
  go_wp2_with fail
  go_ret2
  exact ⟨rfl, HF.out⟩

/-- A store was made round a disk. -/
def SOpenPost (w0 w : World) (p g cap : Nat) (r : DS) (z m N nx : Nat) (T : List UInt8) (rs : List (List UInt8)) (e : Ending) (w' : World) : Prop :=
  ∃ u q v, e = .returned (.tuple #[.pointer (some ⟨u, 0, none⟩), .nilIface]) ∧ StoMem w' w0.heap.size u q p g cap r z m N (bst T) nx v rs false false ∧ ChgS (fun k => k = p ∨ k = g) w w' ∧ w.heap.size ≤ u ∧ ∀ k, v.ownBlock = some k → w.heap.size ≤ k
/-- The cells of a store that is made, but for its log. -/
theorem StoMem.made {w w3 : World} {B u q p g cap : Nat} {r : DS} {z m N nx : Nat} {T : ByteArray} {v x : Value} {rs : List (List UInt8)} (hx : x = .pointer (some ⟨q, 0, none⟩)) (hblk : w.heap[u]? = some (.cells (stoV1 p z T nx) 85 (0, 0))) (hc : ChgS (fun k => k = p ∨ k = g) w w3) (hl : LogMem w3 B q p g cap r (2 * z) m N v rs false)
    (hB : B ≤ u) (hpu : p < u) (hgu : g < u) (huq : u < q) (hv : ∀ k, v.ownBlock = some k → k ≠ u) : StoMem (w3.setCell ⟨u, 4, none⟩ x) B u q p g cap r z m N T nx v rs false false := by
  have hb3 : w3.heap[u]? = some (.cells (stoV1 p z T nx) 85 (0, 0)) := hc.row hblk (by rintro (h | h) <;> omega)
  refine ⟨?_, hl.kept (S := fun k => k = u) ((ChgS.refl (fun k => k = u) _).setCell (ad := ⟨u, 4, none⟩) (.inl rfl) _) ?_, hB, hpu, huq, hv⟩
  · rw [set_cells hb3, hx]; rfl
  · rintro k (h | h | h | h) h2
    · omega
    · omega
    · omega
    · exact hv k h h2

set_option maxHeartbeats 6400000 in
set_option maxRecDepth 100000 in
theorem sopen_c (s : Nat → Addr) (w0 : World) (p g cap : Nat) (d : DS) (z m N nx : Nat) (T : List UInt8) (rs : List (List UInt8)) (x : Int) (w : World) (hs : Sent s w0) (hb : Below w0.heap.size w0 w) (h : DiskAt w p g cap d) (hlo : w0.heap.size ≤ g) (hx : x = (z : Int))
    (hz : 0 < z) (hz2 : z ≤ 108) (hm0 : 0 < m) (hfit : 2 * z + m = d.n) (ho : d.on = true) (ht : Tells7 d z N nx T) (hN : N ≤ 1073741824) (hw : d.wr + m ≤ 1000000) (hfol : Follows (rowsD d (2 * z) m) N rs) (hr : (d.wipe (2 * z + (layR N rs).length) (m - (layR N rs).length)).1 = 0) :
    Calls Tryz.prog 24 #[.pointer (some ⟨p, 0, none⟩), .int .i64 x] w fun e w' => SOpenPost w0 w p g cap (d.wipe (2 * z + (layR N rs).length) (m - (layR N rs).length)).2 z m N nx T rs e w' := by
  subst hx
  have hn4 := DS.n_le h.ok
  have hpl := h.lt
  have hlen := len_c p g cap d w h
  have HLEN := Lib.hid hlen
  obtain ⟨R, hR⟩ : ∃ R, (d.wipe (2 * z + (layR N rs).length) (m - (layR N rs).length)).2 = R := ⟨_, rfl⟩
  rw [hR]
  obtain ⟨W1, hW1⟩ : ∃ W1, w.alloc (.cells (stoV0 p z) 85) = W1 := ⟨_, rfl⟩
  have hbn : Below w.heap.size w W1 := by rw [← hW1]; exact (Below.refl _ _).alloc (Nat.le_refl _) _
  have hsw : W1.heap.size = w.heap.size + 1 := by rw [← hW1, World.size_alloc]
  have hblk : W1.heap[w.heap.size]? = some (.cells (stoV0 p z) 85 (0, 0)) := by rw [← hW1]; exact heap_alloc_new w _
  have hload := sload_c s w.heap.size p g cap d z N nx T W1 (hs.below (hb.trans (hbn.mono hb.size)) (Nat.le_refl _)) hblk (h.below hbn hpl.1) hpl.1 hz hz2 (by omega) ho ht
  have HLOAD := Lib.hid hload
  have hW1' : w.alloc (.cells #[.pointer (some ⟨p, 0, none⟩), .int .i64 (z : Int), .string ⟨#[]⟩, .int .i64 0, .pointer none, .bool false] 85) = W1 := hW1
  have f1 : ¬ ((z : Int) < 1) := by omega
  have f2 : ¬ ((108 : Int) < (z : Int)) := by omega
  have hwz : IntKind.i64.wrap (2 * (z : Int)) = 2 * (z : Int) := IntWalk.i64_in _ (by omega)
  have f3 : ¬ ((d.n : Int) ≤ 2 * (z : Int)) := by omega
  have f4 : ¬ ((1073741824 : Int) < (N : Int)) := by omega
  have HS := Lib.hid hs; have HB := Lib.hid hb; have HBN := Lib.hid hbn; have HDK := Lib.hid h; have HR := Lib.hid hR; have HFO := Lib.hid hfol; have HRR := Lib.hid hr
  clear hload hbn hlen h hW1 hs hb hblk ht hR hfol hr
  go_enter Tryz.func24, Tryz.ntmps24
  go_wp2_with fail
  refine (HLEN.out).mono ?_
  rintro e w1 ⟨rfl, rfl⟩
  go_wp2_with fail
  (try rw [hW1'])
  refine (HLOAD.out).mono ?_
  rintro e w2 ⟨rfl, hu2, hc2⟩
  have hb2 : Below w.heap.size w w2 := HBN.out.trans (hc2.below (fun k hk => by omega) (by omega))
  have hd2 : DiskAt w2 p g cap d := HDK.out.below hb2 hpl.1
  have hlen2 := len_c p g cap d w2 hd2
  have HLEN2 := Lib.hid hlen2
  have hb02 : Below w0.heap.size w0 w2 := HB.out.trans (hb2.mono HB.out.size)
  have hop := open_c s w0 p g cap d (2 * z) m N rs (2 * (z : Int)) (d.n : Int) (N : Int) w2 HS.out hb02 hd2 hlo (by omega) (by omega) rfl hm0 (by omega) hN ho hw HFO.out HRR.out
  rw [HR.out] at hop
  have HOP := Lib.hid hop
  have HU2 := Lib.hid hu2; have HC2 := Lib.hid hb2
  have hus : w.heap.size < w2.heap.size := lt_of_block hu2
  clear hlen2 hop hu2 hc2 hb2 hd2 hb02
  go_wp2_with fail
  refine (HLEN2.out).mono ?_
  rintro e w3 ⟨rfl, rfl⟩
  go_wp2_with fail
  refine (HOP.out).mono ?_
  rintro e w3 ⟨q, v, rfl, hm, hc, hq, hv⟩
  have hl := hm.lt
  have hu3 : w3.heap[w.heap.size]? = some (.cells (stoV1 p z (bst T) nx) 85 (0, 0)) := hc.row HU2.out (by rintro (h | h) <;> omega)
  have c4 : w3.cell? ⟨w.heap.size, 4, none⟩ = some (.pointer none) := cell_of_heap hu3 4
  have f4' := frozen_of_heap hu3 4
  have HF : Hid (∀ x, x = .pointer (some ⟨q, 0, none⟩) → SOpenPost w0 w p g cap R z m N nx T rs (.returned (.tuple #[.pointer (some ⟨w.heap.size, 0, none⟩), .nilIface])) (w3.setCell ⟨w.heap.size, 4, none⟩ x)) := Lib.hid fun x hx =>
    ⟨w.heap.size, q, v, rfl, StoMem.made hx HU2.out hc hm (by have := HB.out.size; omega) hpl.1 (by omega) (by omega) fun k hk => by have := hv k hk; omega,
      ((ChgS.of_below (S := fun k => k = p ∨ k = g) HC2.out).trans hc fun _ _ h => h).setCell (ad := ⟨w.heap.size, 4, none⟩) (.inr (Nat.le_refl _)) _, Nat.le_refl _, fun k hk => by have := hv k hk; omega⟩
  clear hu3 hm hc hv
  go_wp2_with fail
  go_ret2
  exact HF.out _ rfl

set_option maxHeartbeats 6400000 in
set_option maxRecDepth 100000 in
/-- The power goes while the store is opened. -/
theorem sopen_cut (s : Nat → Addr) (w0 : World) (p g cap : Nat) (d : DS) (z m N nx : Nat) (T : List UInt8) (rs : List (List UInt8)) (x : Int) (w : World) (hs : Sent s w0) (hb : Below w0.heap.size w0 w) (h : DiskAt w p g cap d) (hlo : w0.heap.size ≤ g) (hx : x = (z : Int))
    (hz : 0 < z) (hz2 : z ≤ 108) (hm0 : 0 < m) (hfit : 2 * z + m = d.n) (ho : d.on = true) (ht : Tells7 d z N nx T) (hN : N ≤ 1073741824) (hw : d.wr + m ≤ 1000000) (hfol : Follows (rowsD d (2 * z) m) N rs) (hr : (d.wipe (2 * z + (layR N rs).length) (m - (layR N rs).length)).1 = 14) :
    Calls Tryz.prog 24 #[.pointer (some ⟨p, 0, none⟩), .int .i64 x] w fun e w' => e = .returned (.tuple #[.pointer none, errV s 14]) ∧ DiskAt w' p g cap (d.wipe (2 * z + (layR N rs).length) (m - (layR N rs).length)).2 ∧ ChgS (fun k => k = p ∨ k = g) w w' := by
  subst hx
  have hn4 := DS.n_le h.ok
  have hpl := h.lt
  have hlen := len_c p g cap d w h
  have HLEN := Lib.hid hlen
  obtain ⟨R, hR⟩ : ∃ R, (d.wipe (2 * z + (layR N rs).length) (m - (layR N rs).length)).2 = R := ⟨_, rfl⟩
  rw [hR]
  obtain ⟨W1, hW1⟩ : ∃ W1, w.alloc (.cells (stoV0 p z) 85) = W1 := ⟨_, rfl⟩
  have hbn : Below w.heap.size w W1 := by rw [← hW1]; exact (Below.refl _ _).alloc (Nat.le_refl _) _
  have hsw : W1.heap.size = w.heap.size + 1 := by rw [← hW1, World.size_alloc]
  have hblk : W1.heap[w.heap.size]? = some (.cells (stoV0 p z) 85 (0, 0)) := by rw [← hW1]; exact heap_alloc_new w _
  have hload := sload_c s w.heap.size p g cap d z N nx T W1 (hs.below (hb.trans (hbn.mono hb.size)) (Nat.le_refl _)) hblk (h.below hbn hpl.1) hpl.1 hz hz2 (by omega) ho ht
  have HLOAD := Lib.hid hload
  have hW1' : w.alloc (.cells #[.pointer (some ⟨p, 0, none⟩), .int .i64 (z : Int), .string ⟨#[]⟩, .int .i64 0, .pointer none, .bool false] 85) = W1 := hW1
  have f1 : ¬ ((z : Int) < 1) := by omega
  have f2 : ¬ ((108 : Int) < (z : Int)) := by omega
  have hwz : IntKind.i64.wrap (2 * (z : Int)) = 2 * (z : Int) := IntWalk.i64_in _ (by omega)
  have f3 : ¬ ((d.n : Int) ≤ 2 * (z : Int)) := by omega
  have f4 : ¬ ((1073741824 : Int) < (N : Int)) := by omega
  have HS := Lib.hid hs; have HB := Lib.hid hb; have HBN := Lib.hid hbn; have HDK := Lib.hid h; have HR := Lib.hid hR; have HFO := Lib.hid hfol; have HRR := Lib.hid hr
  clear hload hbn hlen h hW1 hs hb hblk ht hR hfol hr
  go_enter Tryz.func24, Tryz.ntmps24
  go_wp2_with fail
  refine (HLEN.out).mono ?_
  rintro e w1 ⟨rfl, rfl⟩
  go_wp2_with fail
  (try rw [hW1'])
  refine (HLOAD.out).mono ?_
  rintro e w2 ⟨rfl, hu2, hc2⟩
  have hb2 : Below w.heap.size w w2 := HBN.out.trans (hc2.below (fun k hk => by omega) (by omega))
  have hd2 : DiskAt w2 p g cap d := HDK.out.below hb2 hpl.1
  have hlen2 := len_c p g cap d w2 hd2
  have HLEN2 := Lib.hid hlen2
  have hb02 : Below w0.heap.size w0 w2 := HB.out.trans (hb2.mono HB.out.size)
  have hop := open_cut s w0 p g cap d (2 * z) m N rs (2 * (z : Int)) (d.n : Int) (N : Int) w2 HS.out hb02 hd2 hlo (by omega) (by omega) rfl hm0 (by omega) hN ho hw HFO.out HRR.out
  rw [HR.out] at hop
  simp only [errV_pos] at hop ⊢
  have HOP := Lib.hid hop
  have HU2 := Lib.hid hu2; have HC2 := Lib.hid hb2
  have hus : w.heap.size < w2.heap.size := lt_of_block hu2
  clear hlen2 hop hu2 hc2 hb2 hd2 hb02
  go_wp2_with fail
  refine (HLEN2.out).mono ?_
  rintro e w3 ⟨rfl, rfl⟩
  go_wp2_with fail
  refine (HOP.out).mono ?_
  rintro e w3 ⟨rfl, hd3, hc⟩
  have hu3 : w3.heap[w.heap.size]? = some (.cells (stoV1 p z (bst T) nx) 85 (0, 0)) := hc.row HU2.out (by rintro (h | h) <;> omega)
  have c4 : w3.cell? ⟨w.heap.size, 4, none⟩ = some (.pointer none) := cell_of_heap hu3 4
  have f4' := frozen_of_heap hu3 4
  have HF : Hid (∀ x, DiskAt (w3.setCell ⟨w.heap.size, 4, none⟩ x) p g cap R ∧ ChgS (fun k => k = p ∨ k = g) w (w3.setCell ⟨w.heap.size, 4, none⟩ x)) := Lib.hid fun x =>
    ⟨hd3.same (Below.heap_setCell w3 ⟨w.heap.size, 4, none⟩ x p (by show p ≠ w.heap.size; omega)) (Below.heap_setCell w3 ⟨w.heap.size, 4, none⟩ x g (by show g ≠ w.heap.size; omega)),
      ((ChgS.of_below (S := fun k => k = p ∨ k = g) HC2.out).trans hc fun _ _ h => h).setCell (ad := ⟨w.heap.size, 4, none⟩) (.inr (Nat.le_refl _)) _⟩
  clear hu3 hc hd3
  go_wp2_with fail
  go_ret2
  exact ⟨rfl, HF.out _⟩
end Go.Proofs.YtmfchjbpbfkgiaaGreatDoor
