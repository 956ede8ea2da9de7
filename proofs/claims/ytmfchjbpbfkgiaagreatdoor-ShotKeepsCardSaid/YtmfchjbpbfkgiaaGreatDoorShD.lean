/- Contracts of a store's Keep and Add during which the power goes. Conditions: the sentinels lie as the program's text lays them; the store lies in memory; the disk has seen fewer than a million writes. -/
import Derived.Test.YtmfchjbpbfkgiaaGreatDoorShV
import Derived.Test.YtmfchjbpbfkgiaaGreatDoorShK2
namespace Go.Proofs.YtmfchjbpbfkgiaaGreatDoor
open Go Go.RowKit

set_option maxHeartbeats 6400000 in
set_option maxRecDepth 100000 in
/-- The power goes while the area is wiped. -/
theorem replace_cut1 (s : Nat → Addr) (w0 : World) (u q p g cap gb : Nat) (d E : DS) (z m N nx : Nat) (T : ByteArray) (v : Value) (rs L : List (List UInt8)) (N' : Nat) (x : Int) (w : World) (hs : Sent s w0) (hb : Below w0.heap.size w0 w) (h : StoMem w w0.heap.size u q p g cap d z m N T nx v rs false false)
    (hx : x = (N' : Int)) (hN' : N' ≤ 1073741824) (_hrow : RowV w gb (strVs L)) (_hgb : ∀ k, StoS u q p g v k → k ≠ gb) (_hL64 : ∀ x ∈ L, x.length = 64) (hLz : L.length ≤ z) (hside : nx = 0 ∨ nx = z) (hm0 : 0 < m) (ho : d.on = true) (hw : d.wr + 2 * z + m ≤ 1000000)
    (a1 : d.wipe nx z = (14, E)) (n1 : E.n = d.n) (oE : E.on = false) :
    Calls Tryz.prog 57 #[.pointer (some ⟨u, 0, none⟩), .slice (some ⟨gb, 0, none⟩) L.length L.length, .int .i64 x] w fun e w' => e = .returned (errV s 14) ∧ DiskAt w' p g cap E ∧ w'.heap[u]? = some (.cells (stoV p q z T nx false) 85 (0, 0)) ∧ ChgS (StoS u q p g v) w w' := by
  have hfit := h.log.fits
  have hn4 := DS.n_le h.log.disk.ok
  have hxz : nx + z ≤ 2 * z := by omega
  have hcel : ∀ (W : World) (r : DS), StoMem W w0.heap.size u q p g cap r z m N T nx v rs false false → Cel W u [(0, .pointer (some ⟨p, 0, none⟩)), (1, .int .i64 (z : Int)), (3, .int .i64 (nx : Int))] := fun W r h => Cel.mk3 h.cells.1 h.cells.2.1 h.cells.2.2.2.1
  have hCEL := Lib.hid (hcel w d h)
  have HCE := Lib.hid hcel
  have hbS : ∀ W, ChgS (StoS u q p g v) w W → Below w0.heap.size w0 W := fun W hW => hb.trans (hW.below (fun k hk => (h.lts k hk).1) hb.size)
  have HW : Hid (∀ W : World, Same w W → Calls Tryz.prog 45 #[.pointer (some ⟨p, 0, none⟩), .int .i64 (nx : Int), .int .i64 ((nx : Int) + (z : Int))] W fun e w' => e = .returned (.iface 163 (.pointer (some (s 13)))) ∧ StoMem w' w0.heap.size u q p g cap E z m N T nx v rs false false ∧ ChgS (StoS u q p g v) w w') := Lib.hid fun W hW => by
    have h1 := rwipe_c s w0 p g cap d nx z (nx : Int) ((nx : Int) + (z : Int)) W hs (hbS W (hW.chg _)) (h.same hW).log.disk h.log.lo rfl (by omega) (by omega) ho (by omega)
    rw [a1] at h1
    refine h1.mono ?_
    rintro e w' ⟨he, hd, hc⟩
    exact ⟨he, (h.same hW).disked hd hc n1, (hW.chg _).trans (hc.mono fun _ _ h => dsk2_stoS h) fun _ _ h => h⟩
  have HO : Hid (∀ w2 : World, ChgS (StoS u q p g v) w w2 → StoMem w2 w0.heap.size u q p g cap E z m N T nx v rs false false → Calls Tryz.prog 19 #[.pointer (some ⟨q, 0, none⟩), .int .i64 x] w2 fun e w' => e = .returned (.iface 163 (.pointer (some (s 13)))) ∧ DiskAt w' p g cap E ∧ w'.heap[u]? = some (.cells (stoV p q z T nx false) 85 (0, 0)) ∧ ChgS (StoS u q p g v) w w') := Lib.hid fun w2 hc2 hm2 => by
    have h1 := reset_off s w0 q p g cap E (2 * z) m N v rs N' x w2 hs (hbS w2 hc2) hm2.log hx hN' hm0 oE
    refine h1.mono ?_
    rintro e w' ⟨rfl, hl, hc⟩
    have hu := hm2.log.lt
    have h2 := hm2.uq
    have h3 := hm2.pu
    exact ⟨rfl, hl.disk, hc.row hm2.blk (by rintro (h | h | h) <;> omega), hc2.trans (hc.mono fun _ _ h => log3_logS h) fun _ _ h => .inr h⟩
  have HSM := Lib.hid (Same.refl w)
  have hwv : IntKind.i64.wrap ((nx : Int) + (z : Int)) = (nx : Int) + (z : Int) := IntWalk.i64_in _ (by omega)
  clear hcel hs hb h hbS a1 hx
  simp only [errV_pos]
  go_enter Tryz.func57, Tryz.ntmps57
  go_wp2_with fail
  go_region_held3 (fun W => W.cell? ⟨u, 0, none⟩ = some (.pointer (some ⟨p, 0, none⟩)) ∧ W.cell? ⟨u, 1, none⟩ = some (.int .i64 (z : Int)) ∧ W.cell? ⟨u, 3, none⟩ = some (.int .i64 (nx : Int)))
    (exact Cel.three (by (repeat' (first | (with_reducible assumption) | (with_reducible exact Hid.out (by with_reducible assumption)) | (with_reducible refine Cel.drewN ?_ _) | (with_reducible refine Cel.drew ?_)))))
    (first
      | (go_at_call 45; (with_reducible refine (HW.out _ (by (repeat' (first | (with_reducible assumption) | (with_reducible exact Hid.out (by with_reducible assumption)) | (with_reducible refine Same.thenN ?_ _) | (with_reducible refine Same.thenD ?_) | (with_reducible refine Same.refl _))))).mono ?_); rintro e w5 ⟨rfl, hm5, hc5⟩; have c5 : Cel w5 u [(0, .pointer (some ⟨p, 0, none⟩)), (1, .int .i64 (z : Int)), (3, .int .i64 (nx : Int))] := HCE.out _ _ hm5))
  all_goals (
    have HR6 := Lib.hid (HO.out w5 hc5 hm5)
    have c4 := hm5.cells.2.2.2.2.1
    clear c5 hCEL HW HSM HCE HO hm5 hc5
    go_wp2_with fail
    refine (HR6.out).mono ?_
    rintro e w7 ⟨rfl, hd7, hb7, hc7⟩
    have HF := Lib.hid (And.intro hd7 (And.intro hb7 hc7))
    clear hd7 hb7 hc7
    go_wp2_with fail
    go_ret
    exact ⟨rfl, HF.out⟩)

set_option maxHeartbeats 6400000 in
set_option maxRecDepth 100000 in
/-- The power goes while the state is written. -/
theorem replace_cut2 (s : Nat → Addr) (w0 : World) (u q p g cap gb : Nat) (d e1 E : DS) (z m N nx : Nat) (T : ByteArray) (v : Value) (rs L : List (List UInt8)) (N' : Nat) (x : Int) (w : World) (hs : Sent s w0) (hb : Below w0.heap.size w0 w) (h : StoMem w w0.heap.size u q p g cap d z m N T nx v rs false false)
    (hx : x = (N' : Int)) (hN' : N' ≤ 1073741824) (hrow : RowV w gb (strVs L)) (hgb : ∀ k, StoS u q p g v k → k ≠ gb) (hL64 : ∀ x ∈ L, x.length = 64) (hLz : L.length ≤ z) (hside : nx = 0 ∨ nx = z) (hm0 : 0 < m) (ho : d.on = true) (hw : d.wr + 2 * z + m ≤ 1000000)
    (a1 : d.wipe nx z = (0, e1)) (o1 : e1.on = true) (n1 : e1.n = d.n) (w1 : e1.wr ≤ d.wr + z) (a2 : e1.puts nx L = (14, E)) (n2 : E.n = d.n) (oE : E.on = false) :
    Calls Tryz.prog 57 #[.pointer (some ⟨u, 0, none⟩), .slice (some ⟨gb, 0, none⟩) L.length L.length, .int .i64 x] w fun e w' => e = .returned (errV s 14) ∧ DiskAt w' p g cap E ∧ w'.heap[u]? = some (.cells (stoV p q z T nx false) 85 (0, 0)) ∧ ChgS (StoS u q p g v) w w' := by
  have hfit := h.log.fits
  have hn4 := DS.n_le h.log.disk.ok
  have hxz : nx + z ≤ 2 * z := by omega
  have hcel : ∀ (W : World) (r : DS), StoMem W w0.heap.size u q p g cap r z m N T nx v rs false false → Cel W u [(0, .pointer (some ⟨p, 0, none⟩)), (1, .int .i64 (z : Int)), (3, .int .i64 (nx : Int))] := fun W r h => Cel.mk3 h.cells.1 h.cells.2.1 h.cells.2.2.2.1
  have hCEL := Lib.hid (hcel w d h)
  have HCE := Lib.hid hcel
  have hbS : ∀ W, ChgS (StoS u q p g v) w W → Below w0.heap.size w0 W := fun W hW => hb.trans (hW.below (fun k hk => (h.lts k hk).1) hb.size)
  have HW : Hid (∀ W : World, Same w W → Calls Tryz.prog 45 #[.pointer (some ⟨p, 0, none⟩), .int .i64 (nx : Int), .int .i64 ((nx : Int) + (z : Int))] W fun e w' => e = .returned .nilIface ∧ StoMem w' w0.heap.size u q p g cap e1 z m N T nx v rs false false ∧ ChgS (StoS u q p g v) w w') := Lib.hid fun W hW => by
    have h1 := rwipe_c s w0 p g cap d nx z (nx : Int) ((nx : Int) + (z : Int)) W hs (hbS W (hW.chg _)) (h.same hW).log.disk h.log.lo rfl (by omega) (by omega) ho (by omega)
    rw [a1] at h1
    refine h1.mono ?_
    rintro e w' ⟨he, hd, hc⟩
    exact ⟨he, (h.same hW).disked hd hc n1, (hW.chg _).trans (hc.mono fun _ _ h => dsk2_stoS h) fun _ _ h => h⟩
  have HP : Hid (∀ w1 W : World, ChgS (StoS u q p g v) w w1 → StoMem w1 w0.heap.size u q p g cap e1 z m N T nx v rs false false → Same w1 W → Calls Tryz.prog 51 #[.pointer (some ⟨p, 0, none⟩), .int .i64 (nx : Int), .slice (some ⟨gb, 0, none⟩) L.length L.length] W fun e w' => e = .returned (.iface 163 (.pointer (some (s 13)))) ∧ StoMem w' w0.heap.size u q p g cap E z m N T nx v rs false false ∧ ChgS (StoS u q p g v) w w') := Lib.hid fun w1 W hc1 hm1 hW => by
    have hcW : ChgS (StoS u q p g v) w W := hc1.trans (hW.chg _) fun _ _ h => h
    have hmW := hm1.same hW
    have h1 := rput_c s w0 p g gb cap e1 nx (nx : Int) L W hs (hbS W hcW) hmW.log.disk hmW.log.lo rfl (hcW.row hrow fun hk => hgb gb hk rfl) (fun hk => hgb p (.inr (.inr (.inl rfl))) hk.symm) (fun hk => hgb g (.inr (.inr (.inr (.inl rfl)))) hk.symm) hL64 (by omega) o1 (by omega)
    rw [a2] at h1
    refine h1.mono ?_
    rintro e w' ⟨he, hd, hc⟩
    exact ⟨he, hmW.disked hd hc (n2.trans n1.symm), hcW.trans (hc.mono fun _ _ h => dsk2_stoS h) fun _ _ h => h⟩
  have HO : Hid (∀ w2 : World, ChgS (StoS u q p g v) w w2 → StoMem w2 w0.heap.size u q p g cap E z m N T nx v rs false false → Calls Tryz.prog 19 #[.pointer (some ⟨q, 0, none⟩), .int .i64 x] w2 fun e w' => e = .returned (.iface 163 (.pointer (some (s 13)))) ∧ DiskAt w' p g cap E ∧ w'.heap[u]? = some (.cells (stoV p q z T nx false) 85 (0, 0)) ∧ ChgS (StoS u q p g v) w w') := Lib.hid fun w2 hc2 hm2 => by
    have h1 := reset_off s w0 q p g cap E (2 * z) m N v rs N' x w2 hs (hbS w2 hc2) hm2.log hx hN' hm0 oE
    refine h1.mono ?_
    rintro e w' ⟨rfl, hl, hc⟩
    have hu := hm2.log.lt
    have h2 := hm2.uq
    have h3 := hm2.pu
    exact ⟨rfl, hl.disk, hc.row hm2.blk (by rintro (h | h | h) <;> omega), hc2.trans (hc.mono fun _ _ h => log3_logS h) fun _ _ h => .inr h⟩
  have HSM := Lib.hid (Same.refl w)
  have hwv : IntKind.i64.wrap ((nx : Int) + (z : Int)) = (nx : Int) + (z : Int) := IntWalk.i64_in _ (by omega)
  clear hcel hs hb h hrow hbS a1 a2 hx
  simp only [errV_pos]
  go_enter Tryz.func57, Tryz.ntmps57
  go_wp2_with fail
  go_region_held3 (fun W => W.cell? ⟨u, 0, none⟩ = some (.pointer (some ⟨p, 0, none⟩)) ∧ W.cell? ⟨u, 1, none⟩ = some (.int .i64 (z : Int)) ∧ W.cell? ⟨u, 3, none⟩ = some (.int .i64 (nx : Int)))
    (exact Cel.three (by (repeat' (first | (with_reducible assumption) | (with_reducible exact Hid.out (by with_reducible assumption)) | (with_reducible refine Cel.drewN ?_ _) | (with_reducible refine Cel.drew ?_)))))
    (first
      | (go_at_call 45; (with_reducible refine (HW.out _ (by (repeat' (first | (with_reducible assumption) | (with_reducible exact Hid.out (by with_reducible assumption)) | (with_reducible refine Same.thenN ?_ _) | (with_reducible refine Same.thenD ?_) | (with_reducible refine Same.refl _))))).mono ?_); rintro e w5 ⟨rfl, hm5, hc5⟩; have c5 : Cel w5 u [(0, .pointer (some ⟨p, 0, none⟩)), (1, .int .i64 (z : Int)), (3, .int .i64 (nx : Int))] := HCE.out _ _ hm5))
  all_goals (
    have hCEL5 := Lib.hid c5
    have HP5 := Lib.hid (fun W => HP.out w5 W hc5 hm5)
    have HSM5 := Lib.hid (Same.refl w5)
    clear c5 hCEL HW HSM hm5 hc5 HP
    go_wp2_with fail
    go_region_held3 (fun W => W.cell? ⟨u, 0, none⟩ = some (.pointer (some ⟨p, 0, none⟩)) ∧ W.cell? ⟨u, 1, none⟩ = some (.int .i64 (z : Int)) ∧ W.cell? ⟨u, 3, none⟩ = some (.int .i64 (nx : Int)))
      (exact Cel.three (by (repeat' (first | (with_reducible assumption) | (with_reducible exact Hid.out (by with_reducible assumption)) | (with_reducible refine Cel.drewN ?_ _) | (with_reducible refine Cel.drew ?_)))))
      (first
        | (go_at_call 51; (with_reducible refine (HP5.out _ (by (repeat' (first | (with_reducible assumption) | (with_reducible exact Hid.out (by with_reducible assumption)) | (with_reducible refine Same.thenN ?_ _) | (with_reducible refine Same.thenD ?_) | (with_reducible refine Same.refl _))))).mono ?_); rintro e w6 ⟨rfl, hm6, hc6⟩; have c6 : Cel w6 u [(0, .pointer (some ⟨p, 0, none⟩)), (1, .int .i64 (z : Int)), (3, .int .i64 (nx : Int))] := HCE.out _ _ hm6))
    all_goals (
      have HR6 := Lib.hid (HO.out w6 hc6 hm6)
      have c4 := hm6.cells.2.2.2.2.1
      clear c6 hCEL5 HP5 HSM5 HCE HO hm6 hc6
      go_wp2_with fail
      refine (HR6.out).mono ?_
      rintro e w7 ⟨rfl, hd7, hb7, hc7⟩
      have HF := Lib.hid (And.intro hd7 (And.intro hb7 hc7))
      clear hd7 hb7 hc7
      go_wp2_with fail
      go_ret
      exact ⟨rfl, HF.out⟩))

set_option maxHeartbeats 6400000 in
set_option maxRecDepth 100000 in
/-- The power goes while the records are wiped. -/
theorem replace_cut3 (s : Nat → Addr) (w0 : World) (u q p g cap gb : Nat) (d e1 e2 E : DS) (z m N nx : Nat) (T : ByteArray) (v : Value) (rs L : List (List UInt8)) (N' : Nat) (x : Int) (w : World) (hs : Sent s w0) (hb : Below w0.heap.size w0 w) (h : StoMem w w0.heap.size u q p g cap d z m N T nx v rs false false)
    (hx : x = (N' : Int)) (hN' : N' ≤ 1073741824) (hrow : RowV w gb (strVs L)) (hgb : ∀ k, StoS u q p g v k → k ≠ gb) (hL64 : ∀ x ∈ L, x.length = 64) (hLz : L.length ≤ z) (hside : nx = 0 ∨ nx = z) (hm0 : 0 < m) (ho : d.on = true) (hw : d.wr + 2 * z + m ≤ 1000000)
    (a1 : d.wipe nx z = (0, e1)) (o1 : e1.on = true) (n1 : e1.n = d.n) (w1 : e1.wr ≤ d.wr + z) (a2 : e1.puts nx L = (0, e2)) (o2 : e2.on = true) (n2 : e2.n = d.n) (w2 : e2.wr ≤ d.wr + 2 * z) (a3 : e2.wipe (2 * z) m = (14, E)) :
    Calls Tryz.prog 57 #[.pointer (some ⟨u, 0, none⟩), .slice (some ⟨gb, 0, none⟩) L.length L.length, .int .i64 x] w fun e w' => e = .returned (errV s 14) ∧ DiskAt w' p g cap E ∧ w'.heap[u]? = some (.cells (stoV p q z T nx false) 85 (0, 0)) ∧ ChgS (StoS u q p g v) w w' := by
  have hfit := h.log.fits
  have hn4 := DS.n_le h.log.disk.ok
  have hxz : nx + z ≤ 2 * z := by omega
  have hcel : ∀ (W : World) (r : DS), StoMem W w0.heap.size u q p g cap r z m N T nx v rs false false → Cel W u [(0, .pointer (some ⟨p, 0, none⟩)), (1, .int .i64 (z : Int)), (3, .int .i64 (nx : Int))] := fun W r h => Cel.mk3 h.cells.1 h.cells.2.1 h.cells.2.2.2.1
  have hCEL := Lib.hid (hcel w d h)
  have HCE := Lib.hid hcel
  have hbS : ∀ W, ChgS (StoS u q p g v) w W → Below w0.heap.size w0 W := fun W hW => hb.trans (hW.below (fun k hk => (h.lts k hk).1) hb.size)
  have HW : Hid (∀ W : World, Same w W → Calls Tryz.prog 45 #[.pointer (some ⟨p, 0, none⟩), .int .i64 (nx : Int), .int .i64 ((nx : Int) + (z : Int))] W fun e w' => e = .returned .nilIface ∧ StoMem w' w0.heap.size u q p g cap e1 z m N T nx v rs false false ∧ ChgS (StoS u q p g v) w w') := Lib.hid fun W hW => by
    have h1 := rwipe_c s w0 p g cap d nx z (nx : Int) ((nx : Int) + (z : Int)) W hs (hbS W (hW.chg _)) (h.same hW).log.disk h.log.lo rfl (by omega) (by omega) ho (by omega)
    rw [a1] at h1
    refine h1.mono ?_
    rintro e w' ⟨he, hd, hc⟩
    exact ⟨he, (h.same hW).disked hd hc n1, (hW.chg _).trans (hc.mono fun _ _ h => dsk2_stoS h) fun _ _ h => h⟩
  have HP : Hid (∀ w1 W : World, ChgS (StoS u q p g v) w w1 → StoMem w1 w0.heap.size u q p g cap e1 z m N T nx v rs false false → Same w1 W → Calls Tryz.prog 51 #[.pointer (some ⟨p, 0, none⟩), .int .i64 (nx : Int), .slice (some ⟨gb, 0, none⟩) L.length L.length] W fun e w' => e = .returned .nilIface ∧ StoMem w' w0.heap.size u q p g cap e2 z m N T nx v rs false false ∧ ChgS (StoS u q p g v) w w') := Lib.hid fun w1 W hc1 hm1 hW => by
    have hcW : ChgS (StoS u q p g v) w W := hc1.trans (hW.chg _) fun _ _ h => h
    have hmW := hm1.same hW
    have h1 := rput_c s w0 p g gb cap e1 nx (nx : Int) L W hs (hbS W hcW) hmW.log.disk hmW.log.lo rfl (hcW.row hrow fun hk => hgb gb hk rfl) (fun hk => hgb p (.inr (.inr (.inl rfl))) hk.symm) (fun hk => hgb g (.inr (.inr (.inr (.inl rfl)))) hk.symm) hL64 (by omega) o1 (by omega)
    rw [a2] at h1
    refine h1.mono ?_
    rintro e w' ⟨he, hd, hc⟩
    exact ⟨he, hmW.disked hd hc (n2.trans n1.symm), hcW.trans (hc.mono fun _ _ h => dsk2_stoS h) fun _ _ h => h⟩
  have HR : Hid (∀ w2 : World, ChgS (StoS u q p g v) w w2 → StoMem w2 w0.heap.size u q p g cap e2 z m N T nx v rs false false → Calls Tryz.prog 19 #[.pointer (some ⟨q, 0, none⟩), .int .i64 x] w2 fun e w' => e = .returned (.iface 163 (.pointer (some (s 13)))) ∧ DiskAt w' p g cap E ∧ w'.heap[u]? = some (.cells (stoV p q z T nx false) 85 (0, 0)) ∧ ChgS (StoS u q p g v) w w') := Lib.hid fun w2 hc2 hm2 => by
    have h1 := reset_c s w0 q p g cap e2 (2 * z) m N v rs N' x w2 hs (hbS w2 hc2) hm2.log hx hN' o2 (by omega)
    rw [a3] at h1
    refine h1.mono ?_
    have hu := hm2.log.lt
    have h2 := hm2.uq
    have h3 := hm2.pu
    rintro e w' (⟨hbad, _⟩ | ⟨_, rfl, hl, hc⟩)
    · cases hbad
    · exact ⟨rfl, hl.disk, hc.row hm2.blk (by rintro (h | h | h) <;> omega), hc2.trans (hc.mono fun _ _ h => log3_logS h) fun _ _ h => .inr h⟩
  have HSM := Lib.hid (Same.refl w)
  have hwv : IntKind.i64.wrap ((nx : Int) + (z : Int)) = (nx : Int) + (z : Int) := IntWalk.i64_in _ (by omega)
  clear hcel hs hb h hrow hbS a1 a2 a3 hx
  simp only [errV_pos]
  go_enter Tryz.func57, Tryz.ntmps57
  go_wp2_with fail
  go_region_held3 (fun W => W.cell? ⟨u, 0, none⟩ = some (.pointer (some ⟨p, 0, none⟩)) ∧ W.cell? ⟨u, 1, none⟩ = some (.int .i64 (z : Int)) ∧ W.cell? ⟨u, 3, none⟩ = some (.int .i64 (nx : Int)))
    (exact Cel.three (by (repeat' (first | (with_reducible assumption) | (with_reducible exact Hid.out (by with_reducible assumption)) | (with_reducible refine Cel.drewN ?_ _) | (with_reducible refine Cel.drew ?_)))))
    (first
      | (go_at_call 45; (with_reducible refine (HW.out _ (by (repeat' (first | (with_reducible assumption) | (with_reducible exact Hid.out (by with_reducible assumption)) | (with_reducible refine Same.thenN ?_ _) | (with_reducible refine Same.thenD ?_) | (with_reducible refine Same.refl _))))).mono ?_); rintro e w5 ⟨rfl, hm5, hc5⟩; have c5 : Cel w5 u [(0, .pointer (some ⟨p, 0, none⟩)), (1, .int .i64 (z : Int)), (3, .int .i64 (nx : Int))] := HCE.out _ _ hm5))
  all_goals (
    have hCEL5 := Lib.hid c5
    have HP5 := Lib.hid (fun W => HP.out w5 W hc5 hm5)
    have HSM5 := Lib.hid (Same.refl w5)
    clear c5 hCEL HW HSM hm5 hc5 HP
    go_wp2_with fail
    go_region_held3 (fun W => W.cell? ⟨u, 0, none⟩ = some (.pointer (some ⟨p, 0, none⟩)) ∧ W.cell? ⟨u, 1, none⟩ = some (.int .i64 (z : Int)) ∧ W.cell? ⟨u, 3, none⟩ = some (.int .i64 (nx : Int)))
      (exact Cel.three (by (repeat' (first | (with_reducible assumption) | (with_reducible exact Hid.out (by with_reducible assumption)) | (with_reducible refine Cel.drewN ?_ _) | (with_reducible refine Cel.drew ?_)))))
      (first
        | (go_at_call 51; (with_reducible refine (HP5.out _ (by (repeat' (first | (with_reducible assumption) | (with_reducible exact Hid.out (by with_reducible assumption)) | (with_reducible refine Same.thenN ?_ _) | (with_reducible refine Same.thenD ?_) | (with_reducible refine Same.refl _))))).mono ?_); rintro e w6 ⟨rfl, hm6, hc6⟩; have c6 : Cel w6 u [(0, .pointer (some ⟨p, 0, none⟩)), (1, .int .i64 (z : Int)), (3, .int .i64 (nx : Int))] := HCE.out _ _ hm6))
    all_goals (
      have c4 := hm6.cells.2.2.2.2.1
      have HR6 := Lib.hid (HR.out w6 hc6 hm6)
      clear c6 hCEL5 HP5 HSM5 HCE HR hm6 hc6
      go_wp2_with fail
      refine (HR6.out).mono ?_
      rintro e w7 ⟨rfl, hd7, hb7, hc7⟩
      have HF := Lib.hid (And.intro hd7 (And.intro hb7 hc7))
      clear hd7 hb7 hc7
      go_wp2_with fail
      go_ret
      exact ⟨rfl, HF.out⟩))

set_option maxHeartbeats 1600000 in
set_option maxRecDepth 100000 in
/-- The power goes during a Keep. -/
theorem skeep_down (s : Nat → Addr) (w0 : World) (u q p g cap : Nat) (d E : DS) (z m N nx : Nat) (T X : ByteArray) (v : Value) (rs : List (List UInt8)) (w : World) (hs : Sent s w0) (hb : Below w0.heap.size w0 w) (h : StoMem w w0.heap.size u q p g cap d z m N T nx v rs false false)
    (hX : X.size ≤ 6000) (hnz : nblk X.size ≤ z) (hN' : N + rs.length + 1 ≤ 1073741824)
    (hrep : ∀ (gb : Nat) (x : Int) (w2 : World), Below w0.heap.size w0 w2 → StoMem w2 w0.heap.size u q p g cap d z m N T nx v rs false false → x = ((N + rs.length + 1 : Nat) : Int) → RowV w2 gb (strVs (framesF (N + rs.length + 1) X.data.toList)) → (∀ k, StoS u q p g v k → k ≠ gb) → Calls Tryz.prog 57 #[.pointer (some ⟨u, 0, none⟩), .slice (some ⟨gb, 0, none⟩) (framesF (N + rs.length + 1) X.data.toList).length (framesF (N + rs.length + 1) X.data.toList).length, .int .i64 x] w2 fun e w' => e = .returned (errV s 14) ∧ DiskAt w' p g cap E ∧ w'.heap[u]? = some (.cells (stoV p q z T nx false) 85 (0, 0)) ∧ ChgS (StoS u q p g v) w2 w') :
    Calls Tryz.prog 33 #[.pointer (some ⟨u, 0, none⟩), .string X] w fun e w' => e = .returned (errV s 14) ∧ DiskAt w' p g cap E ∧ ChgS (StoS u q p g v) w w' := by
  have hfit := h.log.fits
  have hn4 := DS.n_le h.log.disk.ok
  have hnb := nblk_bd hX
  have hsq := seq_c _ u q p g cap d z m N nx T v rs false false w h
  have HSQ := Lib.hid hsq
  have HM := Lib.hid h; have HS := Lib.hid hs; have HB := Lib.hid hb
  obtain ⟨L, hL⟩ : ∃ L, framesF (N + rs.length + 1) X.data.toList = L := ⟨_, rfl⟩
  have hLl : L.length = nblk X.size := by rw [← hL, framesF_len, size_len]
  rw [hL] at hrep
  simp only [errV_pos] at hrep ⊢
  have HRE := Lib.hid hrep
  have HSZ : Hid (∀ W : World, Calls Tryz.prog 55 #[.string X] W fun e w' => e = .returned (.int .i64 (L.length : Nat)) ∧ w' = W) := Lib.hid fun W => by
    have h1 := sizeS_c X W (by omega)
    rw [← hLl] at h1; exact h1.mono fun _ _ ⟨k1, k2⟩ => ⟨k1, k2.symm⟩
  have g1 : decide ((z : Int) < (L.length : Int)) = false := decide_eq_false (by omega)
  have HLL := Lib.hid hLl; have HLN := Lib.hid hL
  rw [← hLl] at hnb hnz
  clear hsq h hs hb hLl hL hrep
  go_enter Tryz.func33, Tryz.ntmps33
  go_wp2_with fail
  refine (HSQ.out).mono ?_
  rintro e x1 ⟨he, h1⟩
  obtain ⟨Q, he2, hQ⟩ : ∃ Q : Int, e = .returned (.int .i64 Q) ∧ Q = ((N + rs.length : Nat) : Int) := ⟨_, he, rfl⟩
  subst he2
  clear he
  have HQ := Lib.hid hQ
  have hq0 : 0 ≤ Q := by omega
  have hq1 : Q ≤ 1073741823 := by omega
  have g2 : decide ((1073741824 : Int) < Q + 1) = false := decide_eq_false (by omega)
  have hwq : IntKind.i64.wrap (Q + 1) = Q + 1 := IntWalk.i64_in _ (by omega)
  have HM1 := Lib.hid (HM.out.same h1)
  have H1 := Lib.hid h1
  have c1 := HM1.out.cells.2.1
  clear hQ h1 HSQ
  go_wp2_with fail
  go_quiet ((go_at_call 55; exact Calls.quiet_of_same (HSZ.out _)))
  go_wp2_with fail
  have HBL := Lib.hid (blocks_okx (Q + 1) (N + rs.length + 1) X (x1.drewN nq) (by have := HQ.out; omega) (by omega) (by omega) hX)
  rw [HLN.out, ← HLL.out] at HBL
  refine (HBL.out).mono ?_
  rintro e x2 ⟨⟨gb, rfl, hrow, hgb⟩, b2⟩
  have hsn : Same x1 (x1.drewN nq) := Same.drewN _ _
  have hb12 : Below w.heap.size w x2 := (H1.out.below _).trans ((hsn.below _).trans (b2.mono (by rw [hsn.size, H1.out.size]; exact Nat.le_refl _)))
  have hm2 := (HM1.out.same hsn).below b2 (Nat.le_refl _)
  have hgw : w.heap.size ≤ gb := by rw [← H1.out.size, ← hsn.size]; exact hgb
  have c5 := hm2.cells.2.2.2.2.2
  have hrep := HRE.out gb (Q + 1) x2 (HB.out.trans (hb12.mono HB.out.size)) hm2 (by have := HQ.out; omega) hrow (fun k hk he => by have := (HM.out.lts k hk).2; omega)
  have HREP := Lib.hid hrep
  have HB12 := Lib.hid hb12
  clear b2 hrow hgb hb12 hm2 hsn HBL hrep c1 HM1 H1 HRE
  go_wp2_with fail
  refine (HREP.out).mono ?_
  rintro e x3 ⟨rfl, hd3, hu3, hc3⟩
  have hb02 : Below w0.heap.size w0 x2 := HB.out.trans (HB12.out.mono HB.out.size)
  have hsx : Sent s x3 := HS.out.below (hb02.trans (hc3.below (fun k hk => (HM.out.lts k hk).1) hb02.size)) (Nat.le_refl _)
  have hnt := snote_down s u p q z nx T false x3 hsx hu3
  have hul := HM.out.log.lt
  have hup := HM.out.pu
  have huq := HM.out.uq
  have HNT := Lib.hid hnt; have HD3 := Lib.hid hd3; have HC3 := Lib.hid hc3
  clear hd3 hu3 hc3 hsx hnt HREP hb02
  go_wp2_with fail
  refine (HNT.out).mono ?_
  rintro e x4 ⟨rfl, h4⟩
  have HF : Hid (DiskAt x4 p g cap E ∧ ChgS (StoS u q p g v) w x4) := Lib.hid ⟨HD3.out.same (h4.block p HD3.out.lt.1 (by show ¬ p = u; omega)) (h4.block g (by have := HD3.out.lt; omega) (by show ¬ g = u; omega)), ((ChgS.of_below HB12.out).trans HC3.out fun _ _ h => h).trans h4 fun _ _ h => .inl h⟩
  clear h4 HNT HD3 HC3 c5
  go_wp2_with fail
  go_ret
  exact ⟨rfl, HF.out⟩

set_option maxHeartbeats 1600000 in
set_option maxRecDepth 100000 in
/-- An Add that comes through, whatever the fuse. -/
theorem sadd_ok (s : Nat → Addr) (w0 : World) (u q p g cap z m N nx : Nat) (T X : ByteArray) (v : Value) (rs : List (List UInt8)) (d E : DS) (w : World) (hs : Sent s w0) (hb : Below w0.heap.size w0 w) (h : StoMem w w0.heap.size u q p g cap d z m N T nx v rs false false)
    (hX : X.size ≤ 6000) (hroom : nblk X.size ≤ m - (layR N rs).length) (hnext : N + rs.length + 1 < 1073741824) (ho : d.on = true) (hw : d.wr + 108 ≤ 1000000) (ha : d.puts (2 * z + (layR N rs).length) (framesF (N + rs.length + 1) X.data.toList) = (0, E)) :
    Calls Tryz.prog 35 #[.pointer (some ⟨u, 0, none⟩), .string X] w fun e w' => e = .returned .nilIface ∧ ∃ v', StoMem w' w0.heap.size u q p g cap E z m N T nx v' (rs ++ [X.data.toList]) false false ∧ ChgS (StoS u q p g v) w w' ∧ ∀ i, v'.ownBlock = some i → v.ownBlock = some i ∨ w.heap.size ≤ i := by
  have c4 := h.cells.2.2.2.2.1
  have had := add_c s w0 q p g cap d (2 * z) m N v rs X w hs hb h.log hX hroom hnext ho hw
  rw [ha] at had
  have HAD := Lib.hid had; have HL := Lib.hid h; have HS := Lib.hid hs; have HB := Lib.hid hb
  clear had h hs hb hroom ha
  go_enter Tryz.func35, Tryz.ntmps35
  go_wp2_with fail
  refine (HAD.out).mono ?_
  rintro e x1 (⟨_, rfl, v', hl, hc, hv⟩ | ⟨hbad, _⟩)
  case inr => cases hbad
  have hm := HL.out.logged hc hl hv
  have hb1 : Below w0.heap.size w0 x1 := HB.out.trans (hc.below (fun k hk => (HL.out.log.lts k hk).1) HB.out.size)
  have HN := Lib.hid (snote_nil s _ u q p g cap E z m N nx T v' _ false false x1 (HS.out.below hb1 (Nat.le_refl _)) hm)
  have HM := Lib.hid hm; have HC := Lib.hid hc; have HV := Lib.hid hv
  clear hl hc hv hb1 hm HAD
  go_wp2_with fail
  refine (HN.out).mono ?_
  rintro e x2 ⟨rfl, h2⟩
  have HF := Lib.hid h2
  clear h2
  go_wp2_with fail
  go_ret
  exact ⟨rfl, v', HM.out.same HF.out, (HC.out.mono fun _ _ h => .inr h).trans (HF.out.chg (StoS u q p g v)) fun _ _ h => h, HV.out⟩

set_option maxHeartbeats 1600000 in
set_option maxRecDepth 100000 in
/-- The power goes during an Add. -/
theorem sadd_down (s : Nat → Addr) (w0 : World) (u q p g cap z m N nx : Nat) (T X : ByteArray) (v : Value) (rs : List (List UInt8)) (d E : DS) (w : World) (hs : Sent s w0) (hb : Below w0.heap.size w0 w) (h : StoMem w w0.heap.size u q p g cap d z m N T nx v rs false false)
    (hX : X.size ≤ 6000) (hroom : nblk X.size ≤ m - (layR N rs).length) (hnext : N + rs.length + 1 < 1073741824) (ho : d.on = true) (hw : d.wr + 108 ≤ 1000000) (ha : d.puts (2 * z + (layR N rs).length) (framesF (N + rs.length + 1) X.data.toList) = (14, E)) :
    Calls Tryz.prog 35 #[.pointer (some ⟨u, 0, none⟩), .string X] w fun e w' => e = .returned (errV s 14) ∧ DiskAt w' p g cap E ∧ ChgS (StoS u q p g v) w w' := by
  have c4 := h.cells.2.2.2.2.1
  have had := add_c s w0 q p g cap d (2 * z) m N v rs X w hs hb h.log hX hroom hnext ho hw
  rw [ha] at had
  have HAD := Lib.hid had; have HL := Lib.hid h; have HS := Lib.hid hs; have HB := Lib.hid hb
  clear had h hs hb hroom ha
  simp only [errV_pos]
  go_enter Tryz.func35, Tryz.ntmps35
  go_wp2_with fail
  refine (HAD.out).mono ?_
  rintro e x1 (⟨hbad, _⟩ | ⟨_, rfl, hl, hc⟩)
  case inl => cases hbad
  have hm := HL.out.logged hc hl (fun k hk => .inl hk)
  have hb1 : Below w0.heap.size w0 x1 := HB.out.trans (hc.below (fun k hk => (HL.out.log.lts k hk).1) HB.out.size)
  have HN := Lib.hid (snote_down s u p q z nx T false x1 (HS.out.below hb1 (Nat.le_refl _)) hm.blk)
  have hul := HL.out.log.lt
  have hup := HL.out.pu
  have HD := Lib.hid hl.disk; have HC := Lib.hid hc
  clear hl hc hb1 hm HAD
  simp only [errV_pos]
  go_wp2_with fail
  refine (HN.out).mono ?_
  rintro e x2 ⟨rfl, h2⟩
  have HF : Hid (DiskAt x2 p g cap E ∧ ChgS (StoS u q p g v) w x2) := Lib.hid ⟨HD.out.same (h2.block p HD.out.lt.1 (by show ¬ p = u; omega)) (h2.block g (by have := HD.out.lt; omega) (by show ¬ g = u; omega)), (HC.out.mono fun _ _ h => .inr h).trans h2 fun _ _ h => .inl h⟩
  clear h2
  go_wp2_with fail
  go_ret
  exact ⟨rfl, HF.out⟩
end Go.Proofs.YtmfchjbpbfkgiaaGreatDoor
