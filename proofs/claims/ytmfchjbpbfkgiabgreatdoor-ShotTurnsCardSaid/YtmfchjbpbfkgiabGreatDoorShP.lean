/- Contracts of a store's Keep and Add. Conditions: the sentinels lie as the program's text lays them; the store lies in memory; the disk has seen fewer than a million writes. -/
import Derived.Test.YtmfchjbpbfkgiabGreatDoorShO
namespace Go.Proofs.YtmfchjbpbfkgiabGreatDoor
open Go Go.RowKit

theorem StoMem.disked {w w' : World} {B u q p g cap : Nat} {d r : DS} {z m N nx : Nat} {T : ByteArray} {v : Value} {rs : List (List UInt8)} {fell lf : Bool} (h : StoMem w B u q p g cap d z m N T nx v rs fell lf) (hd : DiskAt w' p g cap r) (hc : ChgS (Dsk2 p g) w w') (hn : r.n = d.n) : StoMem w' B u q p g cap r z m N T nx v rs fell lf := by
  have hl := h.log.lt
  have h2 := h.uq
  have h3 := h.pu
  exact ⟨hc.row h.blk (by rintro (h | h) <;> omega), h.log.disked hd hc hn, h.lo, h.pu, h.uq, h.apart⟩
theorem dsk2_stoS {u q p g : Nat} {v : Value} {k : Nat} (h : Dsk2 p g k) : StoS u q p g v k := .inr (log3_logS (dsk2_log3 h))

set_option maxHeartbeats 6400000 in
set_option maxRecDepth 100000 in
theorem replace_ok (s : Nat → Addr) (w0 : World) (u q p g cap gb : Nat) (d e1 e2 e3 : DS) (z m N nx : Nat) (T : ByteArray) (v : Value) (rs L : List (List UInt8)) (N' : Nat) (x : Int) (w : World) (hs : Sent s w0) (hb : Below w0.heap.size w0 w) (h : StoMem w w0.heap.size u q p g cap d z m N T nx v rs false false)
    (hx : x = (N' : Int)) (hN' : N' ≤ 1073741824) (hrow : RowV w gb (strVs L)) (hgb : ∀ k, StoS u q p g v k → k ≠ gb) (hL64 : ∀ x ∈ L, x.length = 64) (hLz : L.length ≤ z) (hside : nx = 0 ∨ nx = z) (ho : d.on = true) (hw : d.wr + 2 * z + m ≤ 1000000)
    (a1 : d.wipe nx z = (0, e1)) (o1 : e1.on = true) (n1 : e1.n = d.n) (w1 : e1.wr ≤ d.wr + z) (a2 : e1.puts nx L = (0, e2)) (o2 : e2.on = true) (n2 : e2.n = d.n) (w2 : e2.wr ≤ d.wr + 2 * z) (a3 : e2.wipe (2 * z) m = (0, e3)) :
    Calls Tryz.prog 21 #[.pointer (some ⟨u, 0, none⟩), .slice (some ⟨gb, 0, none⟩) L.length L.length, .int .i64 x] w fun e w' => e = .returned .nilIface ∧ StoMem w' w0.heap.size u q p g cap e3 z m N' T nx (.slice none 0 0) [] false false ∧ ChgS (StoS u q p g v) w w' := by
  have hfit := h.log.fits
  have hn4 := DS.n_le h.log.disk.ok
  have hxz : nx + z ≤ 2 * z := by omega
  have hcel : ∀ (W : World) (r : DS), StoMem W w0.heap.size u q p g cap r z m N T nx v rs false false → Cel W u [(0, .pointer (some ⟨p, 0, none⟩)), (1, .int .i64 (z : Int)), (3, .int .i64 (nx : Int))] := fun W r h => Cel.mk3 h.cells.1 h.cells.2.1 h.cells.2.2.2.1
  have hCEL := Lib.hid (hcel w d h)
  have HCE := Lib.hid hcel
  have hbS : ∀ W, ChgS (StoS u q p g v) w W → Below w0.heap.size w0 W := fun W hW => hb.trans (hW.below (fun k hk => (h.lts k hk).1) hb.size)
  have HW : Hid (∀ W : World, Same w W → Calls Tryz.prog 29 #[.pointer (some ⟨p, 0, none⟩), .int .i64 (nx : Int), .int .i64 ((nx : Int) + (z : Int))] W fun e w' => e = .returned .nilIface ∧ StoMem w' w0.heap.size u q p g cap e1 z m N T nx v rs false false ∧ ChgS (StoS u q p g v) w w') := Lib.hid fun W hW => by
    have h1 := rwipe_c s w0 p g cap d nx z (nx : Int) ((nx : Int) + (z : Int)) W hs (hbS W (hW.chg _)) (h.same hW).log.disk h.log.lo rfl (by omega) (by omega) ho (by omega)
    rw [a1] at h1
    refine h1.mono ?_
    rintro e w' ⟨he, hd, hc⟩
    exact ⟨he, (h.same hW).disked hd hc n1, (hW.chg _).trans (hc.mono fun _ _ h => dsk2_stoS h) fun _ _ h => h⟩
  have HP : Hid (∀ w1 W : World, ChgS (StoS u q p g v) w w1 → StoMem w1 w0.heap.size u q p g cap e1 z m N T nx v rs false false → Same w1 W → Calls Tryz.prog 34 #[.pointer (some ⟨p, 0, none⟩), .int .i64 (nx : Int), .slice (some ⟨gb, 0, none⟩) L.length L.length] W fun e w' => e = .returned .nilIface ∧ StoMem w' w0.heap.size u q p g cap e2 z m N T nx v rs false false ∧ ChgS (StoS u q p g v) w w') := Lib.hid fun w1 W hc1 hm1 hW => by
    have hcW : ChgS (StoS u q p g v) w W := hc1.trans (hW.chg _) fun _ _ h => h
    have hmW := hm1.same hW
    have h1 := rput_c s w0 p g gb cap e1 nx (nx : Int) L W hs (hbS W hcW) hmW.log.disk hmW.log.lo rfl (hcW.row hrow fun hk => hgb gb hk rfl) (fun hk => hgb p (.inr (.inr (.inl rfl))) hk.symm) (fun hk => hgb g (.inr (.inr (.inr (.inl rfl)))) hk.symm) hL64 (by omega) o1 (by omega)
    rw [a2] at h1
    refine h1.mono ?_
    rintro e w' ⟨he, hd, hc⟩
    exact ⟨he, hmW.disked hd hc (n2.trans n1.symm), hcW.trans (hc.mono fun _ _ h => dsk2_stoS h) fun _ _ h => h⟩
  have HR : Hid (∀ w2 : World, ChgS (StoS u q p g v) w w2 → StoMem w2 w0.heap.size u q p g cap e2 z m N T nx v rs false false → Calls Tryz.prog 35 #[.pointer (some ⟨q, 0, none⟩), .int .i64 x] w2 fun e w' => e = .returned .nilIface ∧ StoMem w' w0.heap.size u q p g cap e3 z m N' T nx (.slice none 0 0) [] false false ∧ ChgS (StoS u q p g v) w w') := Lib.hid fun w2 hc2 hm2 => by
    have h1 := reset_c s w0 q p g cap e2 (2 * z) m N v rs N' x w2 hs (hbS w2 hc2) hm2.log hx hN' o2 (by omega)
    rw [a3] at h1
    refine h1.mono ?_
    rintro e w' (⟨_, rfl, hl, hc⟩ | ⟨hbad, _⟩)
    · have hcL : ChgS (LogS q p g v) w2 w' := hc.mono fun _ _ h => log3_logS h
      exact ⟨rfl, hm2.logged hcL hl (fun k hk => by simp [Value.ownBlock] at hk), hc2.trans hcL fun _ _ h => .inr h⟩
    · cases hbad
  have HSM := Lib.hid (Same.refl w)
  have hwv : IntKind.i64.wrap ((nx : Int) + (z : Int)) = (nx : Int) + (z : Int) := IntWalk.i64_in _ (by omega)
  clear hcel hs hb h hrow hbS a1 a2 a3 hx
  go_enter Tryz.func21, Tryz.ntmps21
  go_wp2_with fail
  go_region_held3 (fun W => W.cell? ⟨u, 0, none⟩ = some (.pointer (some ⟨p, 0, none⟩)) ∧ W.cell? ⟨u, 1, none⟩ = some (.int .i64 (z : Int)) ∧ W.cell? ⟨u, 3, none⟩ = some (.int .i64 (nx : Int)))
    (exact Cel.three (by (repeat' (first | (with_reducible assumption) | (with_reducible exact Hid.out (by with_reducible assumption)) | (with_reducible refine Cel.drewN ?_ _) | (with_reducible refine Cel.drew ?_)))))
    (first
      | (go_at_call 29; (with_reducible refine (HW.out _ (by (repeat' (first | (with_reducible assumption) | (with_reducible exact Hid.out (by with_reducible assumption)) | (with_reducible refine Same.thenN ?_ _) | (with_reducible refine Same.thenD ?_) | (with_reducible refine Same.refl _))))).mono ?_); rintro e w5 ⟨rfl, hm5, hc5⟩; have c5 : Cel w5 u [(0, .pointer (some ⟨p, 0, none⟩)), (1, .int .i64 (z : Int)), (3, .int .i64 (nx : Int))] := HCE.out _ _ hm5))
  all_goals (
    have hCEL5 := Lib.hid c5
    have HP5 := Lib.hid (fun W => HP.out w5 W hc5 hm5)
    have HSM5 := Lib.hid (Same.refl w5)
    clear c5 hCEL HW HSM hm5 hc5 HP
    go_wp2_with fail
    go_region_held3 (fun W => W.cell? ⟨u, 0, none⟩ = some (.pointer (some ⟨p, 0, none⟩)) ∧ W.cell? ⟨u, 1, none⟩ = some (.int .i64 (z : Int)) ∧ W.cell? ⟨u, 3, none⟩ = some (.int .i64 (nx : Int)))
      (exact Cel.three (by (repeat' (first | (with_reducible assumption) | (with_reducible exact Hid.out (by with_reducible assumption)) | (with_reducible refine Cel.drewN ?_ _) | (with_reducible refine Cel.drew ?_)))))
      (first
        | (go_at_call 34; (with_reducible refine (HP5.out _ (by (repeat' (first | (with_reducible assumption) | (with_reducible exact Hid.out (by with_reducible assumption)) | (with_reducible refine Same.thenN ?_ _) | (with_reducible refine Same.thenD ?_) | (with_reducible refine Same.refl _))))).mono ?_); rintro e w6 ⟨rfl, hm6, hc6⟩; have c6 : Cel w6 u [(0, .pointer (some ⟨p, 0, none⟩)), (1, .int .i64 (z : Int)), (3, .int .i64 (nx : Int))] := HCE.out _ _ hm6))
    all_goals (
      have c4 := hm6.cells.2.2.2.2.1
      have HR6 := Lib.hid (HR.out w6 hc6 hm6)
      clear c6 hCEL5 HP5 HSM5 HCE HR hm6 hc6
      go_wp2_with fail
      refine (HR6.out).mono ?_
      rintro e w7 ⟨rfl, hm7, hc7⟩
      have HF := Lib.hid (And.intro hm7 hc7)
      clear hm7 hc7
      go_wp2_with fail
      go_ret
      exact ⟨rfl, HF.out⟩))
end Go.Proofs.YtmfchjbpbfkgiabGreatDoor
