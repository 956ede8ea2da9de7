/- Contracts of a store's Keep and Add. Conditions: the sentinels lie as the program's text lays them; the store lies in memory; the disk has seen fewer than a million writes. -/
import Derived.Test.YtmfchjbpbfkgiaaGreatDoorShO
import Derived.Deep.QuietTactic
import Derived.Test.YtmfchjbpbfkgiaaGreatDoorOwn7
namespace Go.Proofs.YtmfchjbpbfkgiaaGreatDoor
open Go Go.RowKit

theorem StoMem.disked {w w' : World} {B u q p g cap : Nat} {d r : DS} {z m N nx : Nat} {T : ByteArray} {v : Value} {rs : List (List UInt8)} {fell lf : Bool} (h : StoMem w B u q p g cap d z m N T nx v rs fell lf) (hd : DiskAt w' p g cap r) (hc : ChgS (Dsk2 p g) w w') (hn : r.n = d.n) : StoMem w' B u q p g cap r z m N T nx v rs fell lf := by
  have hl := h.log.lt
  have h2 := h.uq
  have h3 := h.pu
  exact ⟨hc.row h.blk (by rintro (h | h) <;> omega), h.log.disked hd hc hn, h.lo, h.pu, h.uq, h.apart⟩
theorem dsk2_stoS {u q p g : Nat} {v : Value} {k : Nat} (h : Dsk2 p g k) : StoS u q p g v k := .inr (log3_logS (dsk2_log3 h))

set_option maxHeartbeats 6400000 in
set_option maxRecDepth 100000 in
theorem replace_ok (s : Nat → Addr) (w0 : World) (u q p g cap gb : Nat) (d e1 e2 e3 : DS) (z m N nx : Nat) (T : ByteArray) (v : Value) (rs L : List (List UInt8)) (N' : Nat) (x : Int) (w : World) (hs : Sent s w0) (hb : Below w0.heap.size w0 w) (h : StoMem w w0.heap.size u q p g cap d z m N T nx v rs false false)
    (hx : x = (N' : Int)) (hN' : N' ≤ 1073741824) (hrow : RowV w gb (strVs L)) (hgb : ∀ k, StoS u q p g v k → k ≠ gb) (hL64 : ∀ x ∈ L, x.length = 64) (hLz : L.length ≤ z) (hside : nx = 0 ∨ nx = z) (ho : d.on = true) (hw : d.wr + 2 * z + m ≤ 1000000)
    (a1 : d.wipe nx z = (0, e1)) (o1 : e1.on = true) (n1 : e1.n = d.n) (w1 : e1.wr ≤ d.wr + z) (a2 : e1.puts nx L = (0, e2)) (o2 : e2.on = true) (n2 : e2.n = d.n) (w2 : e2.wr ≤ d.wr + 2 * z) (a3 : e2.wipe (2 * z) m = (0, e3)) :
    Calls Tryz.prog 57 #[.pointer (some ⟨u, 0, none⟩), .slice (some ⟨gb, 0, none⟩) L.length L.length, .int .i64 x] w fun e w' => e = .returned .nilIface ∧ StoMem w' w0.heap.size u q p g cap e3 z m N' T nx (.slice none 0 0) [] false false ∧ ChgS (StoS u q p g v) w w' := by
  have hfit := h.log.fits
  have hn4 := DS.n_le h.log.disk.ok
  have hxz : nx + z ≤ 2 * z := by omega
  have hcel : ∀ (W : World) (r : DS), StoMem W w0.heap.size u q p g cap r z m N T nx v rs false false → Cel W u [(0, .pointer (some ⟨p, 0, none⟩)), (1, .int .i64 (z : Int)), (3, .int .i64 (nx : Int))] := fun W r h => Cel.mk3 h.cells.1 h.cells.2.1 h.cells.2.2.2.1
  have hCEL := Lib.hid (hcel w d h)
  have HCE := Lib.hid hcel
  have hbS : ∀ W, ChgS (StoS u q p g v) w W → Below w0.heap.size w0 W := fun W hW => hb.trans (hW.below (fun k hk => (h.lts k hk).1) hb.size)
  have HW : Hid (∀ W : World, Same w W → Calls Tryz.prog 45 #[.pointer (some ⟨p, 0, none⟩), .int .i64 (nx : Int), .int .i64 ((nx : Int) + (z : Int))] W fun e w' => e = .returned .nilIface ∧ StoMem w' w0.heap.size u q p g cap e1 z m N T nx v rs false false ∧ ChgS (StoS u q p g v) w w') := Lib.hid fun W hW => by
    have h1 := rwipe_c s w0 p g cap d nx z (nx : Int) ((nx : Int) + (z : Int)) W hs (hbS W (hW.chg _)) (h.same hW).log.disk h.log.lo rfl (by omega) (by omega) ho (by omega)
    rw [a1] at h1
    refine h1.mono ?_
    rintro e w' ⟨he, hd, hc⟩
    exact ⟨he, (h.same hW).disked hd hc n1, (hW.chg _).trans (hc.mono fun _ _ h => dsk2_stoS h) fun _ _ h => h⟩
  have HP : Hid (∀ w1 W : World, ChgS (StoS u q p g v) w w1 → StoMem w1 w0.heap.size u q p g cap e1 z m N T nx v rs false false → Same w1 W → Calls Tryz.prog 51 #[.pointer (some ⟨p, 0, none⟩), .int .i64 (nx : Int), .slice (some ⟨gb, 0, none⟩) L.length L.length] W fun e w' => e = .returned .nilIface ∧ StoMem w' w0.heap.size u q p g cap e2 z m N T nx v rs false false ∧ ChgS (StoS u q p g v) w w') := Lib.hid fun w1 W hc1 hm1 hW => by
    have hcW : ChgS (StoS u q p g v) w W := hc1.trans (hW.chg _) fun _ _ h => h
    have hmW := hm1.same hW
    have h1 := rput_c s w0 p g gb cap e1 nx (nx : Int) L W hs (hbS W hcW) hmW.log.disk hmW.log.lo rfl (hcW.row hrow fun hk => hgb gb hk rfl) (fun hk => hgb p (.inr (.inr (.inl rfl))) hk.symm) (fun hk => hgb g (.inr (.inr (.inr (.inl rfl)))) hk.symm) hL64 (by omega) o1 (by omega)
    rw [a2] at h1
    refine h1.mono ?_
    rintro e w' ⟨he, hd, hc⟩
    exact ⟨he, hmW.disked hd hc (n2.trans n1.symm), hcW.trans (hc.mono fun _ _ h => dsk2_stoS h) fun _ _ h => h⟩
  have HR : Hid (∀ w2 : World, ChgS (StoS u q p g v) w w2 → StoMem w2 w0.heap.size u q p g cap e2 z m N T nx v rs false false → Calls Tryz.prog 19 #[.pointer (some ⟨q, 0, none⟩), .int .i64 x] w2 fun e w' => e = .returned .nilIface ∧ StoMem w' w0.heap.size u q p g cap e3 z m N' T nx (.slice none 0 0) [] false false ∧ ChgS (StoS u q p g v) w w') := Lib.hid fun w2 hc2 hm2 => by
    have h1 := reset_c s w0 q p g cap e2 (2 * z) m N v rs N' x w2 hs (hbS w2 hc2) hm2.log hx hN' o2 (by omega)
    rw [a3] at h1
    refine h1.mono ?_
    rintro e w' (⟨_, rfl, hl, hc⟩ | ⟨hbad, _⟩)
    · have hcL : ChgS (LogS q p g v) w2 w' := hc.mono fun _ _ h => log3_logS h
      exact ⟨rfl, hm2.logged hcL hl (fun k hk => by simp [Value.ownBlock] at hk), hc2.trans hcL fun _ _ h => .inr h⟩
    · cases hbad
  have HSM := Lib.hid (Same.refl w)
  have hwv : IntKind.i64.wrap ((nx : Int) + (z : Int)) = (nx : Int) + (z : Int) := IntWalk.i64_in _ (by omega)
  clear hcel hs hb h hrow hbS a1 a2 a3 hx
  go_enter Tryz.func57, Tryz.ntmps57
  go_wp2_with fail
  go_region_held3 (fun W => W.cell? ⟨u, 0, none⟩ = some (.pointer (some ⟨p, 0, none⟩)) ∧ W.cell? ⟨u, 1, none⟩ = some (.int .i64 (z : Int)) ∧ W.cell? ⟨u, 3, none⟩ = some (.int .i64 (nx : Int)))
    (exact Cel.three (by (repeat' (first | (with_reducible assumption) | (with_reducible exact Hid.out (by with_reducible assumption)) | (with_reducible refine Cel.drewN ?_ _) | (with_reducible refine Cel.drew ?_)))))
    (first
      | (go_at_call 45; (with_reducible refine (HW.out _ (by (repeat' (first | (with_reducible assumption) | (with_reducible exact Hid.out (by with_reducible assumption)) | (with_reducible refine Same.thenN ?_ _) | (with_reducible refine Same.thenD ?_) | (with_reducible refine Same.refl _))))).mono ?_); rintro e w5 ⟨rfl, hm5, hc5⟩; have c5 : Cel w5 u [(0, .pointer (some ⟨p, 0, none⟩)), (1, .int .i64 (z : Int)), (3, .int .i64 (nx : Int))] := HCE.out _ _ hm5))
  all_goals (
    have hCEL5 := Lib.hid c5
    have HP5 := Lib.hid (fun W => HP.out w5 W hc5 hm5)
    have HSM5 := Lib.hid (Same.refl w5)
    clear c5 hCEL HW HSM hm5 hc5 HP
    go_wp2_with fail
    go_region_held3 (fun W => W.cell? ⟨u, 0, none⟩ = some (.pointer (some ⟨p, 0, none⟩)) ∧ W.cell? ⟨u, 1, none⟩ = some (.int .i64 (z : Int)) ∧ W.cell? ⟨u, 3, none⟩ = some (.int .i64 (nx : Int)))
      (exact Cel.three (by (repeat' (first | (with_reducible assumption) | (with_reducible exact Hid.out (by with_reducible assumption)) | (with_reducible refine Cel.drewN ?_ _) | (with_reducible refine Cel.drew ?_)))))
      (first
        | (go_at_call 51; (with_reducible refine (HP5.out _ (by (repeat' (first | (with_reducible assumption) | (with_reducible exact Hid.out (by with_reducible assumption)) | (with_reducible refine Same.thenN ?_ _) | (with_reducible refine Same.thenD ?_) | (with_reducible refine Same.refl _))))).mono ?_); rintro e w6 ⟨rfl, hm6, hc6⟩; have c6 : Cel w6 u [(0, .pointer (some ⟨p, 0, none⟩)), (1, .int .i64 (z : Int)), (3, .int .i64 (nx : Int))] := HCE.out _ _ hm6))
    all_goals (
      have c4 := hm6.cells.2.2.2.2.1
      have HR6 := Lib.hid (HR.out w6 hc6 hm6)
      clear c6 hCEL5 HP5 HSM5 HCE HR hm6 hc6
      go_wp2_with fail
      refine (HR6.out).mono ?_
      rintro e w7 ⟨rfl, hm7, hc7⟩
      have HF := Lib.hid (And.intro hm7 hc7)
      clear hm7 hc7
      go_wp2_with fail
      go_ret
      exact ⟨rfl, HF.out⟩))
end Go.Proofs.YtmfchjbpbfkgiaaGreatDoor

/- Contracts of a store's Keep and Add that come through. Conditions: the sentinels lie as the program's text lays them; the store lies in memory; the disk has seen fewer than a million writes. -/
namespace Go.Proofs.YtmfchjbpbfkgiaaGreatDoor
open Go Go.RowKit

theorem StoMem.renewed {w : World} {B u q p g cap : Nat} {d : DS} {z m N nx nx' : Nat} {T X : ByteArray} {v x y : Value} {rs : List (List UInt8)} {lf : Bool} (h : StoMem w B u q p g cap d z m N T nx v rs false lf) (hx : x = .string X) (hy : y = .int .i64 (nx' : Int)) :
    StoMem ((w.setCell ⟨u, 2, none⟩ x).setCell ⟨u, 3, none⟩ y) B u q p g cap d z m N X nx' v rs false lf ∧ ChgS (fun k => k = u) w ((w.setCell ⟨u, 2, none⟩ x).setCell ⟨u, 3, none⟩ y) := by
  have hl := h.log.lt
  have h2 := h.uq
  have h3 := h.pu
  have hc : ChgS (fun k => k = u) w ((w.setCell ⟨u, 2, none⟩ x).setCell ⟨u, 3, none⟩ y) := ((ChgS.refl (fun k => k = u) _).setCell (ad := ⟨u, 2, none⟩) (.inl rfl) _).setCell (ad := ⟨u, 3, none⟩) (.inl rfl) _
  refine ⟨⟨?_, h.log.kept hc ?_, h.lo, h.pu, h.uq, h.apart⟩, hc⟩
  · rw [set_cells (set_cells h.blk), hx, hy]; rfl
  · rintro k (h | h4 | h | h4) h5
    · omega
    · omega
    · omega
    · exact h.apart k h4 h5

set_option maxHeartbeats 1600000 in
set_option maxRecDepth 100000 in
theorem skeep_ok (s : Nat → Addr) (w0 : World) (u q p g cap : Nat) (d e1 e2 e3 : DS) (z m N nx : Nat) (T X : ByteArray) (v : Value) (rs : List (List UInt8)) (w : World) (hs : Sent s w0) (hb : Below w0.heap.size w0 w) (h : StoMem w w0.heap.size u q p g cap d z m N T nx v rs false false)
    (hX : X.size ≤ 6000) (hnz : nblk X.size ≤ z) (hN' : N + rs.length + 1 ≤ 1073741824) (hside : nx = 0 ∨ nx = z) (ho : d.on = true) (hw : d.wr + 2 * z + m ≤ 1000000)
    (a1 : d.wipe nx z = (0, e1)) (o1 : e1.on = true) (n1 : e1.n = d.n) (w1 : e1.wr ≤ d.wr + z) (a2 : e1.puts nx (framesF (N + rs.length + 1) X.data.toList) = (0, e2)) (o2 : e2.on = true) (n2 : e2.n = d.n) (w2 : e2.wr ≤ d.wr + 2 * z) (a3 : e2.wipe (2 * z) m = (0, e3)) :
    Calls Tryz.prog 33 #[.pointer (some ⟨u, 0, none⟩), .string X] w fun e w' => e = .returned .nilIface ∧ StoMem w' w0.heap.size u q p g cap e3 z m (N + rs.length + 1) X (z - nx) (.slice none 0 0) [] false false ∧ ChgS (StoS u q p g v) w w' := by
  have hfit := h.log.fits
  have hn4 := DS.n_le h.log.disk.ok
  have hnb := nblk_bd hX
  have hsq := seq_c _ u q p g cap d z m N nx T v rs false false w h
  have HSQ := Lib.hid hsq
  have HM := Lib.hid h; have HS := Lib.hid hs; have HB := Lib.hid hb
  obtain ⟨L, hL⟩ : ∃ L, framesF (N + rs.length + 1) X.data.toList = L := ⟨_, rfl⟩
  have hLl : L.length = nblk X.size := by rw [← hL, framesF_len, size_len]
  have hL64 : ∀ x ∈ L, x.length = 64 := by rw [← hL]; exact frames_64
  rw [hL] at a2
  have HSZ : Hid (∀ W : World, Calls Tryz.prog 55 #[.string X] W fun e w' => e = .returned (.int .i64 (L.length : Nat)) ∧ w' = W) := Lib.hid fun W => by
    have h1 := sizeS_c X W (by omega)
    rw [← hLl] at h1; exact h1.mono fun _ _ ⟨k1, k2⟩ => ⟨k1, k2.symm⟩
  have g1 : decide ((z : Int) < (L.length : Int)) = false := decide_eq_false (by omega)
  have HLL := Lib.hid hLl; have HLN := Lib.hid hL
  rw [← hLl] at hnb hnz
  clear hsq h hs hb hLl hL
  go_enter Tryz.func33, Tryz.ntmps33
  go_wp2_with fail
  refine (HSQ.out).mono ?_
  rintro e x1 ⟨he, h1⟩
  obtain ⟨Q, he2, hQ⟩ : ∃ Q : Int, e = .returned (.int .i64 Q) ∧ Q = ((N + rs.length : Nat) : Int) := ⟨_, he, rfl⟩
  subst he2
  clear he
  have HQ := Lib.hid hQ
  have hq0 : 0 ≤ Q := by omega
  have hq1 : Q ≤ 1073741823 := by omega
  have g2 : decide ((1073741824 : Int) < Q + 1) = false := decide_eq_false (by omega)
  have hwq : IntKind.i64.wrap (Q + 1) = Q + 1 := IntWalk.i64_in _ (by omega)
  have HM1 := Lib.hid (HM.out.same h1)
  have H1 := Lib.hid h1
  have c1 := HM1.out.cells.2.1
  clear hQ h1 HSQ
  go_wp2_with fail
  go_quiet ((go_at_call 55; exact Calls.quiet_of_same (HSZ.out _)))
  go_wp2_with fail
  have HBL := Lib.hid (blocks_okx (Q + 1) (N + rs.length + 1) X (x1.drewN nq) (by have := HQ.out; omega) (by omega) (by omega) hX)
  rw [HLN.out, ← HLL.out] at HBL
  refine (HBL.out).mono ?_
  rintro e x2 ⟨⟨gb, rfl, hrow, hgb⟩, b2⟩
  have hsn : Same x1 (x1.drewN nq) := Same.drewN _ _
  have hb12 : Below w.heap.size w x2 := (H1.out.below _).trans ((hsn.below _).trans (b2.mono (by rw [hsn.size, H1.out.size]; exact Nat.le_refl _)))
  have hm2 := (HM1.out.same hsn).below b2 (Nat.le_refl _)
  have hgw : w.heap.size ≤ gb := by rw [← H1.out.size, ← hsn.size]; exact hgb
  have c5 := hm2.cells.2.2.2.2.2
  have hrep := replace_ok s w0 u q p g cap gb d e1 e2 e3 z m N nx T v rs L (N + rs.length + 1) (Q + 1) x2 HS.out (HB.out.trans (hb12.mono HB.out.size)) hm2 (by have := HQ.out; omega) hN' hrow (fun k hk he => by have := (HM.out.lts k hk).2; omega) hL64 (by omega) hside ho hw a1 o1 n1 w1 a2 o2 n2 w2 a3
  have HREP := Lib.hid hrep
  have HB12 := Lib.hid hb12
  clear b2 hrow hgb hb12 hm2 hsn HBL hrep c1 HM1 H1 a1 a2 a3
  go_wp2_with fail
  refine (HREP.out).mono ?_
  rintro e x3 ⟨rfl, hm3, hc3⟩
  have hsx : Sent s x3 := HS.out.below (((HB.out.trans (HB12.out.mono HB.out.size))).trans (hc3.below (fun k hk => (HM.out.lts k hk).1) ((HB.out.trans (HB12.out.mono HB.out.size))).size)) (Nat.le_refl _)
  have hnt := snote_nil s _ u q p g cap e3 z m (N + rs.length + 1) nx T _ [] false false x3 hsx hm3
  have HNT := Lib.hid hnt; have HM3 := Lib.hid hm3; have HC3 := Lib.hid hc3
  clear hm3 hc3 hsx hnt HREP
  go_wp2_with fail
  refine (HNT.out).mono ?_
  rintro e x4 ⟨rfl, h4⟩
  have hm4 := HM3.out.same h4
  have hc4 : ChgS (StoS u q p g v) w x4 := ((ChgS.of_below HB12.out).trans HC3.out fun _ _ h => h).trans (h4.chg (StoS u q p g v)) fun _ _ h => h
  have d1 := hm4.cells.2.1
  have d2 := hm4.cells.2.2.1
  have d3 := hm4.cells.2.2.2.1
  have f2 := frozen_of_heap hm4.blk 2
  have f3 := frozen_of_heap hm4.blk 3
  have HF : Hid (∀ x y, x = .string X → y = .int .i64 ((z - nx : Nat) : Int) → (fun (e : Ending) (w' : World) => e = .returned .nilIface ∧ StoMem w' w0.heap.size u q p g cap e3 z m (N + rs.length + 1) X (z - nx) (.slice none 0 0) [] false false ∧ ChgS (StoS u q p g v) w w') (.returned .nilIface) ((x4.setCell ⟨u, 2, none⟩ x).setCell ⟨u, 3, none⟩ y)) := Lib.hid fun x y hx hy => by
    obtain ⟨k1, k2⟩ := hm4.renewed (X := X) (nx' := z - nx) hx hy
    exact ⟨rfl, k1, hc4.trans k2 fun _ _ h => .inl h⟩
  have hwz : IntKind.i64.wrap ((z : Int) - (nx : Int)) = (z : Int) - (nx : Int) := IntWalk.i64_in _ (by omega)
  clear hm4 hc4 h4 HNT HM3 HC3 c5
  go_wp2_with fail
  go_region
  all_goals go_wp2_with fail
  all_goals go_ret
  all_goals (
    obtain ⟨k1, k2, k3⟩ := HF.out (.string X) (.int .i64 ((z : Int) - (nx : Int))) rfl (ret_v (by omega))
    exact ⟨rfl, k2.same (Same.drew _), k3.drew⟩)

/-- A store that is sound; its disk has seen at most k writes. -/
structure LiveS (w : World) (B u q p g cap z m N nx : Nat) (T : ByteArray) (v : Value) (rs : List (List UInt8)) (k : Nat) (d : DS) : Prop where
  mem : StoMem w B u q p g cap d z m N T nx v rs false false
  at_ : LogAt d (2 * z) m N rs
  sel : Tells7 d z N nx T.data.toList
  zpos : 0 < z
  full : 2 * z + m = d.n
  on : d.on = true
  fuse : d.fuse < 0
  wr : d.wr ≤ k
theorem LiveS.kept {w w' : World} {S : Nat → Prop} {B u q p g cap z m N nx k : Nat} {T : ByteArray} {v : Value} {rs : List (List UInt8)} {d : DS} (h : LiveS w B u q p g cap z m N nx T v rs k d) (hc : ChgS S w w') (hS : ∀ k, StoS u q p g v k → ¬ S k) : LiveS w' B u q p g cap z m N nx T v rs k d :=
  ⟨h.mem.kept hc hS, h.at_, h.sel, h.zpos, h.full, h.on, h.fuse, h.wr⟩
theorem LiveS.same {w w' : World} {B u q p g cap z m N nx k : Nat} {T : ByteArray} {v : Value} {rs : List (List UInt8)} {d : DS} (h : LiveS w B u q p g cap z m N nx T v rs k d) (hs : Same w w') : LiveS w' B u q p g cap z m N nx T v rs k d := ⟨h.mem.same hs, h.at_, h.sel, h.zpos, h.full, h.on, h.fuse, h.wr⟩
theorem LiveS.below {w w' : World} {B C u q p g cap z m N nx k : Nat} {T : ByteArray} {v : Value} {rs : List (List UInt8)} {d : DS} (h : LiveS w B u q p g cap z m N nx T v rs k d) (hb : Below C w w') (hC : w.heap.size ≤ C) : LiveS w' B u q p g cap z m N nx T v rs k d := ⟨h.mem.below hb hC, h.at_, h.sel, h.zpos, h.full, h.on, h.fuse, h.wr⟩
theorem LiveS.le {w : World} {B u q p g cap z m N nx k k' : Nat} {T : ByteArray} {v : Value} {rs : List (List UInt8)} {d : DS} (h : LiveS w B u q p g cap z m N nx T v rs k d) (hk : k ≤ k') : LiveS w B u q p g cap z m N nx T v rs k' d := ⟨h.mem, h.at_, h.sel, h.zpos, h.full, h.on, h.fuse, Nat.le_trans h.wr hk⟩
theorem bst_back (T : List UInt8) : (bst T).data.toList = T := rfl

theorem lives_open (s : Nat → Addr) (w0 : World) (p g cap : Nat) (d : DS) (z m N nx k : Nat) (T : List UInt8) (rs : List (List UInt8)) (x : Int) (w : World) (hs : Sent s w0) (hb : Below w0.heap.size w0 w) (h : DiskAt w p g cap d) (hlo : w0.heap.size ≤ g) (hx : x = (z : Int))
    (hz : 0 < z) (hz2 : z ≤ 108) (hm0 : 0 < m) (hfit : 2 * z + m = d.n) (ho : d.on = true) (hf : d.fuse < 0) (ht : Tells7 d z N nx T) (hN : N ≤ 1073741824) (hk : d.wr ≤ k) (hw : k + m ≤ 1000000) (hfol : Follows (rowsD d (2 * z) m) N rs) :
    Calls Tryz.prog 24 #[.pointer (some ⟨p, 0, none⟩), .int .i64 x] w fun e w' => ∃ u q v d', e = .returned (.tuple #[.pointer (some ⟨u, 0, none⟩), .nilIface]) ∧ LiveS w' w0.heap.size u q p g cap z m N nx (bst T) v rs (k + m) d' ∧ ChgS (fun i => i = p ∨ i = g) w w' ∧ w.heap.size ≤ u ∧
      (∀ i, v.ownBlock = some i → w.heap.size ≤ i) ∧ d'.n = d.n ∧ (∀ j, j < 2 * z → d'.blk j = d.blk j) ∧ Below w0.heap.size w0 w' := by
  obtain ⟨hU, d', hwp, hat, hlike, hon, hfu, hout⟩ := open_ok hfol (by omega) ho hf
  have hwn := wipe_n (d := d) (m := m - (layR N rs).length) (i := 2 * z + (layR N rs).length) (by omega) ho
  refine (sopen_c s w0 p g cap d z m N nx T rs x w hs hb h hlo hx hz hz2 hm0 hfit ho ht hN (by omega) hfol (by rw [hwp])).mono ?_
  rintro e w1 ⟨u, q, v, rfl, hm, hc, hu, hv⟩
  rw [hwp] at hm hwn
  exact ⟨u, q, v, d', rfl, ⟨hm, hat, by rw [bst_back]; exact ht.same fun j hj => hout j (.inl (by omega)), hz, by rw [hlike.n]; exact hfit, hon, by rw [hfu]; exact hf, show d'.wr ≤ k + m from Nat.le_trans hwn.2 (by omega)⟩, hc, hu, hv, hlike.n, fun j hj => hout j (.inl (by omega)), hb.trans (hc.below (fun i hi => by have := h.lt; omega) hb.size)⟩

theorem lives_keep (s : Nat → Addr) (w0 : World) (u q p g cap z m N nx k : Nat) (T X : ByteArray) (v : Value) (rs : List (List UInt8)) (d : DS) (w : World) (hs : Sent s w0) (hb : Below w0.heap.size w0 w) (h : LiveS w w0.heap.size u q p g cap z m N nx T v rs k d)
    (hX : X.size ≤ 6000) (hnz : nblk X.size ≤ z) (hN' : N + rs.length + 1 ≤ 1073741824) (hw : k + 2 * z + m ≤ 1000000) :
    Calls Tryz.prog 33 #[.pointer (some ⟨u, 0, none⟩), .string X] w fun e w' => e = .returned .nilIface ∧ ∃ d', LiveS w' w0.heap.size u q p g cap z m (N + rs.length + 1) (z - nx) X (.slice none 0 0) [] (k + 2 * z + m) d' ∧ ChgS (StoS u q p g v) w w' ∧ d'.n = d.n ∧
      rowsD d' nx z = framesF (N + rs.length + 1) X.data.toList ++ List.replicate (z - nblk X.size) zeroF ∧ (∀ i, i < z → d'.blk (z - nx + i) = d.blk (z - nx + i)) ∧ Below w0.heap.size w0 w' := by
  have hwr := h.wr
  have hsl : X.data.toList.length = X.size := size_len X
  obtain ⟨e1, e2, e3, a1, o1, n1, w1, a2, o2, n2, w2, a3, o3, f3, n3, w3, ht, hat, hrow, hold⟩ := keep_ok (X := X.data.toList) h.zpos h.sel h.at_ (by omega) (by rw [hsl]; exact hnz) (by omega) h.on h.fuse
  refine (skeep_ok s w0 u q p g cap d e1 e2 e3 z m N nx T X v rs w hs hb h.mem hX hnz hN' h.sel.facts.1 h.on (by omega) a1 o1 n1 w1 a2 o2 n2 w2 a3).mono ?_
  rintro e w' ⟨rfl, hm, hc⟩
  exact ⟨rfl, e3, ⟨hm, hat, ht, h.zpos, by rw [n3]; exact h.full, o3, f3, by omega⟩, hc, n3, by rw [← hsl]; exact hrow, hold, hb.trans (hc.below (fun k hk => (h.mem.lts k hk).1) hb.size)⟩

set_option maxHeartbeats 1600000 in
set_option maxRecDepth 100000 in
theorem lives_add (s : Nat → Addr) (w0 : World) (u q p g cap z m N nx k : Nat) (T X : ByteArray) (v : Value) (rs : List (List UInt8)) (d : DS) (w : World) (hs : Sent s w0) (hb : Below w0.heap.size w0 w) (h : LiveS w w0.heap.size u q p g cap z m N nx T v rs k d)
    (hX : X.size ≤ 6000) (hroom : nblk X.size ≤ m - (layR N rs).length) (hnext : N + rs.length + 1 < 1073741824) (hw : k + 108 ≤ 1000000) :
    Calls Tryz.prog 35 #[.pointer (some ⟨u, 0, none⟩), .string X] w fun e w' => e = .returned .nilIface ∧ ∃ v' d', LiveS w' w0.heap.size u q p g cap z m N nx T v' (rs ++ [X.data.toList]) (k + 108) d' ∧ ChgS (StoS u q p g v) w w' ∧ (∀ i, v'.ownBlock = some i → v.ownBlock = some i ∨ w.heap.size ≤ i) ∧ d'.n = d.n ∧
      (∀ j, j < 2 * z → d'.blk j = d.blk j) ∧ Below w0.heap.size w0 w' := by
  have c4 := h.mem.cells.2.2.2.2.1
  have had := live_add s w0 q p g cap (2 * z) m N k v rs d X w hs hb ⟨h.mem.log, h.at_, h.on, h.fuse, h.wr⟩ hX hroom hnext hw
  have HAD := Lib.hid had; have HL := Lib.hid h; have HS := Lib.hid hs; have HB := Lib.hid hb
  clear had h hs hb hroom
  go_enter Tryz.func35, Tryz.ntmps35
  go_wp2_with fail
  refine (HAD.out).mono ?_
  rintro e x1 ⟨rfl, v', d', hl, hc, hv, hn, hout, hb1⟩
  have hm := HL.out.mem.logged hc hl.mem hv
  have hlv : LiveS x1 w0.heap.size u q p g cap z m N nx T v' (rs ++ [X.data.toList]) (k + 108) d' := ⟨hm, hl.at_, HL.out.sel.same fun j hj => hout j (.inl (by omega)), HL.out.zpos, by rw [hn]; exact HL.out.full, hl.on, hl.fuse, hl.wr⟩
  have HN := Lib.hid (snote_nil s _ u q p g cap d' z m N nx T v' _ false false x1 (HS.out.below hb1 (Nat.le_refl _)) hm)
  have HLV := Lib.hid hlv; have HC := Lib.hid hc; have HV := Lib.hid hv; have HO := Lib.hid hout; have HB1 := Lib.hid hb1
  clear hl hc hv hout hb1 hm hlv HAD
  go_wp2_with fail
  refine (HN.out).mono ?_
  rintro e x2 ⟨rfl, h2⟩
  have HF := Lib.hid h2
  clear h2
  go_wp2_with fail
  go_ret
  exact ⟨rfl, v', d', HLV.out.same HF.out, (HC.out.mono fun _ _ h => .inr h).trans (HF.out.chg (StoS u q p g v)) fun _ _ h => h, HV.out, hn, fun j hj => HO.out j (.inl (by omega)), HB1.out.trans (HF.out.below _)⟩
end Go.Proofs.YtmfchjbpbfkgiaaGreatDoor

/- The document's examples of stores stand. Conditions: the sentinels lie as the program's text lays them. -/
namespace Go.Proofs.YtmfchjbpbfkgiaaGreatDoor
open Go Go.RowKit

theorem zeros_snap {z : Nat} (hz : 0 < z) : snapF (List.replicate z zeroF) = (0, []) := snapF_err (readF_zero (by rw [List.getElem?_replicate_of_lt hz]))
theorem fresh_tells {w : World} {p g cap n z : Nat} {d : DS} (h : FreshD w p g cap n d) (hz : 0 < z) (hn : 2 * z ≤ n) : Tells7 d z 0 0 [] := by
  unfold Tells7
  rw [h.rows 0 z (by omega), h.rows z z (by omega), zeros_snap hz]
  rfl
theorem lay_one (b : Nat) (x : List UInt8) : (layR b [x]).length = nblk x.length := by rw [layR, layR, List.append_nil, framesF_len]

set_option maxHeartbeats 3200000 in
set_option maxRecDepth 100000 in
/-- The examples of the document stand. -/
theorem awake7_c (s : Nat → Addr) (w : World) (hs : Sent s w) :
    Calls Tryz.prog 23 #[] w fun e w' => e = .returned (.bool true) ∧ Below w.heap.size w w' := by
  obtain ⟨X1, hX1⟩ : ∃ T : ByteArray, T = ⟨#[111, 110, 101]⟩ := ⟨_, rfl⟩
  obtain ⟨X2, hX2⟩ : ∃ T : ByteArray, T = ⟨#[116, 119, 111]⟩ := ⟨_, rfl⟩
  obtain ⟨X3, hX3⟩ : ∃ T : ByteArray, T = ⟨#[98, 111, 116, 104]⟩ := ⟨_, rfl⟩
  obtain ⟨X4, hX4⟩ : ∃ T : ByteArray, T = ⟨#[116, 104, 114, 101, 101]⟩ := ⟨_, rfl⟩
  have hs1 : X1.size = 3 := by rw [hX1]; rfl
  have hs2 : X2.size = 3 := by rw [hX2]; rfl
  have hs3 : X3.size = 4 := by rw [hX3]; rfl
  have hs4 : X4.size = 5 := by rw [hX4]; rfl
  obtain ⟨R1, hR1⟩ : ∃ R, X1.data.toList = R := ⟨_, rfl⟩
  obtain ⟨R2, hR2⟩ : ∃ R, X2.data.toList = R := ⟨_, rfl⟩
  obtain ⟨R4, hR4⟩ : ∃ R, X4.data.toList = R := ⟨_, rfl⟩
  have hl1 : R1.length = 3 := by rw [← hR1, size_len]; exact hs1
  have HR4 := Lib.hid hR4
  go_enter Tryz.func23, Tryz.ntmps23
  go_wp2_with fail
  refine (fresh_c 20 20 _ rfl (by omega)).mono ?_
  rintro e w1 ⟨p, g, cap, d, rfl, hd, b1, hg⟩
  have hdn := hd.n_
  have hop := lives_open s w p g cap d 3 14 0 0 0 [] [] 3 w1 hs b1 hd.at_ hg rfl (by omega) (by omega) (by omega) (by omega) hd.on hd.fuse (fresh_tells hd (by omega) (by omega)) (by omega) (by have := hd.wr; omega) (by omega) (fresh_follows hd (by omega) (by omega))
  have HOP := Lib.hid hop
  clear hop hd b1
  go_wp2_with fail
  refine (HOP.out).mono ?_
  rintro e w2 ⟨u, q, v, d2, rfl, hl2, hc2, hu2, hv2, hn2, _, hb2⟩
  have had := lives_add s w u q p g cap 3 14 0 0 14 (bst []) X1 v [] d2 w2 hs hb2 hl2 (by omega) (by rw [hs1]; decide) (by simp) (by omega)
  rw [hR1, hX1] at had
  have HAD := Lib.hid had
  clear had hl2 hc2 hb2 HOP hv2
  go_wp2_with fail
  refine (HAD.out).mono ?_
  rintro e w3 ⟨rfl, v3, d3, hl3, hc3, hv3, hn3, _, hb3⟩
  rw [List.nil_append] at hl3
  have had := lives_add s w u q p g cap 3 14 0 0 122 (bst []) X2 v3 [R1] d3 w3 hs hb3 hl3 (by omega) (by rw [lay_one, hl1, hs2]; decide) (by simp) (by omega)
  rw [hR2, hX2] at had
  have HAD := Lib.hid had
  clear had hl3 hc3 hb3 hv3
  go_wp2_with fail
  refine (HAD.out).mono ?_
  rintro e w4 ⟨rfl, v4, d4, hl4, hc4, hv4, hn4, _, hb4⟩
  have hke := lives_keep s w u q p g cap 3 14 0 0 230 (bst []) X3 v4 _ d4 w4 hs hb4 hl4 (by omega) (by rw [hs3]; decide) (by simp) (by omega)
  rw [hX3] at hke
  have HKE := Lib.hid hke
  clear hke hl4 hc4 hb4 hv4 HAD
  go_wp2_with fail
  refine (HKE.out).mono ?_
  rintro e w5 ⟨rfl, d5, hl5, hc5, hn5, _, _, hb5⟩
  rw [← hX3] at hl5
  have had := lives_add s w u q p g cap 3 14 3 3 250 X3 X4 (.slice none 0 0) [] d5 w5 hs hb5 hl5 (by omega) (by rw [hs4]; decide) (by simp) (by omega)
  rw [hR4, hX4] at had
  have HAD := Lib.hid had
  clear had hl5 hc5 hb5 HKE
  go_wp2_with fail
  refine (HAD.out).mono ?_
  rintro e w6 ⟨rfl, v6, d6, hl6, hc6, hv6, hn6, _, hb6⟩
  rw [List.nil_append] at hl6
  have hop := lives_open s w p g cap d6 3 14 3 3 358 X3.data.toList [R4] 3 w6 hs hb6 hl6.mem.log.disk hl6.mem.log.lo rfl (by omega) (by omega) (by omega) hl6.full hl6.on hl6.fuse hl6.sel (by omega) hl6.wr (by omega) hl6.at_.follows
  rw [← bst_of] at hop
  have HOP := Lib.hid hop
  clear hop hl6 hc6 hb6 hv6 HAD
  go_wp2_with fail
  refine (HOP.out).mono ?_
  rintro e w7 ⟨u7, q7, v7, d7, rfl, hl7, hc7, hu7, hv7, hn7, _, hb7⟩
  have HL7 := Lib.hid hl7; have HB7 := Lib.hid hb7
  clear hl7 hc7 hb7 hv7 HOP
  go_wp2_with fail
  refine (state_c _ u7 q7 p g cap d7 3 14 3 3 X3 v7 _ false false _ HL7.out.mem).mono ?_
  rintro e w8 ⟨rfl, rfl⟩
  rw [hX3]
  go_wp2_with fail
  refine (srecs_c _ u7 q7 p g cap d7 3 14 3 3 X3 v7 _ false false _ HL7.out.mem).mono ?_
  rintro e w8 ⟨⟨v8, rfl, o8⟩, b8⟩
  have HL8 := Lib.hid (HL7.out.below b8 (Nat.le_refl _))
  have HB8 : Hid (Below w.heap.size w w8) := Lib.hid (HB7.out.trans (b8.mono HB7.out.size))
  have HR8 := Lib.hid (own_reads o8)
  clear o8 b8 HL7 HB7
  go_wp2_with fail
  have b9 : Below w8.heap.size w8 (w8.alloc (.cells #[.string ⟨#[116, 104, 114, 101, 101]⟩] 9)) := (Below.refl _ _).alloc (Nat.le_refl _) _
  have hrd := reads_one w8 X4
  rw [hR4, hX4] at hrd
  have hsm := same_c _ _ _ _ _ (HR8.out.below b9 (Nat.le_refl _)) hrd (by simp) (by simp)
  rw [decide_eq_true rfl] at hsm
  have HSM := Lib.hid hsm
  have HL9 := Lib.hid (HL8.out.below b9 (Nat.le_refl _))
  have HB9 := Lib.hid (HB8.out.trans (b9.mono HB8.out.size))
  clear hsm hrd b9
  refine (HSM.out).mono ?_
  rintro e w9 ⟨rfl, h9⟩
  have HL10 := Lib.hid (HL9.out.same h9)
  have HB10 : Hid (Below w.heap.size w w9) := Lib.hid (HB9.out.trans (h9.below _))
  clear h9
  go_wp2_with fail
  refine (seq_c _ u7 q7 p g cap d7 3 14 3 3 _ v7 _ false false _ HL10.out.mem).mono ?_
  rintro e w10 ⟨rfl, h10⟩
  have HB11 : Hid (Below w.heap.size w w10) := Lib.hid (HB10.out.trans (h10.below _))
  clear h10
  go_wp2_with fail
  go_ret
  exact ⟨rfl, HB11.out⟩
end Go.Proofs.YtmfchjbpbfkgiaaGreatDoor
