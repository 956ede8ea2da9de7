/- Contracts of a store's Keep and Add that come through. Conditions: the sentinels lie as the program's text lays them; the store lies in memory; the disk has seen fewer than a million writes. -/
import Derived.Test.YtmfchjbpbfkgiabGreatDoorShP
import Derived.Deep.QuietTactic
namespace Go.Proofs.YtmfchjbpbfkgiabGreatDoor
open Go Go.RowKit

theorem StoMem.renewed {w : World} {B u q p g cap : Nat} {d : DS} {z m N nx nx' : Nat} {T X : ByteArray} {v x y : Value} {rs : List (List UInt8)} {lf : Bool} (h : StoMem w B u q p g cap d z m N T nx v rs false lf) (hx : x = .string X) (hy : y = .int .i64 (nx' : Int)) :
    StoMem ((w.setCell ⟨u, 2, none⟩ x).setCell ⟨u, 3, none⟩ y) B u q p g cap d z m N X nx' v rs false lf ∧ ChgS (fun k => k = u) w ((w.setCell ⟨u, 2, none⟩ x).setCell ⟨u, 3, none⟩ y) := by
  have hl := h.log.lt
  have h2 := h.uq
  have h3 := h.pu
  have hc : ChgS (fun k => k = u) w ((w.setCell ⟨u, 2, none⟩ x).setCell ⟨u, 3, none⟩ y) := ((ChgS.refl (fun k => k = u) _).setCell (ad := ⟨u, 2, none⟩) (.inl rfl) _).setCell (ad := ⟨u, 3, none⟩) (.inl rfl) _
  refine ⟨⟨?_, h.log.kept hc ?_, h.lo, h.pu, h.uq, h.apart⟩, hc⟩
  · rw [set_cells (set_cells h.blk), hx, hy]; rfl
  · rintro k (h | h4 | h | h4) h5
    · omega
    · omega
    · omega
    · exact h.apart k h4 h5

set_option maxHeartbeats 1600000 in
set_option maxRecDepth 100000 in
theorem skeep_ok (s : Nat → Addr) (w0 : World) (u q p g cap : Nat) (d e1 e2 e3 : DS) (z m N nx : Nat) (T X : ByteArray) (v : Value) (rs : List (List UInt8)) (w : World) (hs : Sent s w0) (hb : Below w0.heap.size w0 w) (h : StoMem w w0.heap.size u q p g cap d z m N T nx v rs false false)
    (hX : X.size ≤ 6000) (hnz : nblk X.size ≤ z) (hN' : N + rs.length + 1 ≤ 1073741824) (hside : nx = 0 ∨ nx = z) (ho : d.on = true) (hw : d.wr + 2 * z + m ≤ 1000000)
    (a1 : d.wipe nx z = (0, e1)) (o1 : e1.on = true) (n1 : e1.n = d.n) (w1 : e1.wr ≤ d.wr + z) (a2 : e1.puts nx (framesF (N + rs.length + 1) X.data.toList) = (0, e2)) (o2 : e2.on = true) (n2 : e2.n = d.n) (w2 : e2.wr ≤ d.wr + 2 * z) (a3 : e2.wipe (2 * z) m = (0, e3)) :
    Calls Tryz.prog 7 #[.pointer (some ⟨u, 0, none⟩), .string X] w fun e w' => e = .returned .nilIface ∧ StoMem w' w0.heap.size u q p g cap e3 z m (N + rs.length + 1) X (z - nx) (.slice none 0 0) [] false false ∧ ChgS (StoS u q p g v) w w' := by
  have hfit := h.log.fits
  have hn4 := DS.n_le h.log.disk.ok
  have hnb := nblk_bd hX
  have hsq := seq_c _ u q p g cap d z m N nx T v rs false false w h
  have HSQ := Lib.hid hsq
  have HM := Lib.hid h; have HS := Lib.hid hs; have HB := Lib.hid hb
  obtain ⟨L, hL⟩ : ∃ L, framesF (N + rs.length + 1) X.data.toList = L := ⟨_, rfl⟩
  have hLl : L.length = nblk X.size := by rw [← hL, framesF_len, size_len]
  have hL64 : ∀ x ∈ L, x.length = 64 := by rw [← hL]; exact frames_64
  rw [hL] at a2
  have HSZ : Hid (∀ W : World, Calls Tryz.prog 18 #[.string X] W fun e w' => e = .returned (.int .i64 (L.length : Nat)) ∧ w' = W) := Lib.hid fun W => by
    have h1 := sizeS_c X W (by omega)
    rw [← hLl] at h1; exact h1.mono fun _ _ ⟨k1, k2⟩ => ⟨k1, k2.symm⟩
  have g1 : decide ((z : Int) < (L.length : Int)) = false := decide_eq_false (by omega)
  have HLL := Lib.hid hLl; have HLN := Lib.hid hL
  rw [← hLl] at hnb hnz
  clear hsq h hs hb hLl hL
  go_enter Tryz.func7, Tryz.ntmps7
  go_wp2_with fail
  refine (HSQ.out).mono ?_
  rintro e x1 ⟨he, h1⟩
  obtain ⟨Q, he2, hQ⟩ : ∃ Q : Int, e = .returned (.int .i64 Q) ∧ Q = ((N + rs.length : Nat) : Int) := ⟨_, he, rfl⟩
  subst he2
  clear he
  have HQ := Lib.hid hQ
  have hq0 : 0 ≤ Q := by omega
  have hq1 : Q ≤ 1073741823 := by omega
  have g2 : decide ((1073741824 : Int) < Q + 1) = false := decide_eq_false (by omega)
  have hwq : IntKind.i64.wrap (Q + 1) = Q + 1 := IntWalk.i64_in _ (by omega)
  have HM1 := Lib.hid (HM.out.same h1)
  have H1 := Lib.hid h1
  have c1 := HM1.out.cells.2.1
  clear hQ h1 HSQ
  go_wp2_with fail
  go_quiet ((go_at_call 18; exact Calls.quiet_of_same (HSZ.out _)))
  go_wp2_with fail
  have HBL := Lib.hid (blocks_okx (Q + 1) (N + rs.length + 1) X (x1.drewN nq) (by have := HQ.out; omega) (by omega) (by omega) hX)
  rw [HLN.out, ← HLL.out] at HBL
  refine (HBL.out).mono ?_
  rintro e x2 ⟨⟨gb, rfl, hrow, hgb⟩, b2⟩
  have hsn : Same x1 (x1.drewN nq) := Same.drewN _ _
  have hb12 : Below w.heap.size w x2 := (H1.out.below _).trans ((hsn.below _).trans (b2.mono (by rw [hsn.size, H1.out.size]; exact Nat.le_refl _)))
  have hm2 := (HM1.out.same hsn).below b2 (Nat.le_refl _)
  have hgw : w.heap.size ≤ gb := by rw [← H1.out.size, ← hsn.size]; exact hgb
  have c5 := hm2.cells.2.2.2.2.2
  have hrep := replace_ok s w0 u q p g cap gb d e1 e2 e3 z m N nx T v rs L (N + rs.length + 1) (Q + 1) x2 HS.out (HB.out.trans (hb12.mono HB.out.size)) hm2 (by have := HQ.out; omega) hN' hrow (fun k hk he => by have := (HM.out.lts k hk).2; omega) hL64 (by omega) hside ho hw a1 o1 n1 w1 a2 o2 n2 w2 a3
  have HREP := Lib.hid hrep
  have HB12 := Lib.hid hb12
  clear b2 hrow hgb hb12 hm2 hsn HBL hrep c1 HM1 H1 a1 a2 a3
  go_wp2_with fail
  refine (HREP.out).mono ?_
  rintro e x3 ⟨rfl, hm3, hc3⟩
  have hsx : Sent s x3 := HS.out.below (((HB.out.trans (HB12.out.mono HB.out.size))).trans (hc3.below (fun k hk => (HM.out.lts k hk).1) ((HB.out.trans (HB12.out.mono HB.out.size))).size)) (Nat.le_refl _)
  have hnt := snote_nil s _ u q p g cap e3 z m (N + rs.length + 1) nx T _ [] false false x3 hsx hm3
  have HNT := Lib.hid hnt; have HM3 := Lib.hid hm3; have HC3 := Lib.hid hc3
  clear hm3 hc3 hsx hnt HREP
  go_wp2_with fail
  refine (HNT.out).mono ?_
  rintro e x4 ⟨rfl, h4⟩
  have hm4 := HM3.out.same h4
  have hc4 : ChgS (StoS u q p g v) w x4 := ((ChgS.of_below HB12.out).trans HC3.out fun _ _ h => h).trans (h4.chg (StoS u q p g v)) fun _ _ h => h
  have d1 := hm4.cells.2.1
  have d2 := hm4.cells.2.2.1
  have d3 := hm4.cells.2.2.2.1
  have f2 := frozen_of_heap hm4.blk 2
  have f3 := frozen_of_heap hm4.blk 3
  have HF : Hid (∀ x y, x = .string X → y = .int .i64 ((z - nx : Nat) : Int) → (fun (e : Ending) (w' : World) => e = .returned .nilIface ∧ StoMem w' w0.heap.size u q p g cap e3 z m (N + rs.length + 1) X (z - nx) (.slice none 0 0) [] false false ∧ ChgS (StoS u q p g v) w w') (.returned .nilIface) ((x4.setCell ⟨u, 2, none⟩ x).setCell ⟨u, 3, none⟩ y)) := Lib.hid fun x y hx hy => by
    obtain ⟨k1, k2⟩ := hm4.renewed (X := X) (nx' := z - nx) hx hy
    exact ⟨rfl, k1, hc4.trans k2 fun _ _ h => .inl h⟩
  have hwz : IntKind.i64.wrap ((z : Int) - (nx : Int)) = (z : Int) - (nx : Int) := IntWalk.i64_in _ (by omega)
  clear hm4 hc4 h4 HNT HM3 HC3 c5
  go_wp2_with fail
  go_region
  all_goals go_wp2_with fail
  all_goals go_ret
  all_goals (
    obtain ⟨k1, k2, k3⟩ := HF.out (.string X) (.int .i64 ((z : Int) - (nx : Int))) rfl (ret_v (by omega))
    exact ⟨rfl, k2.same (Same.drew _), k3.drew⟩)

/-- A store that is sound; its disk has seen at most k writes. -/
structure LiveS (w : World) (B u q p g cap z m N nx : Nat) (T : ByteArray) (v : Value) (rs : List (List UInt8)) (k : Nat) (d : DS) : Prop where
  mem : StoMem w B u q p g cap d z m N T nx v rs false false
  at_ : LogAt d (2 * z) m N rs
  sel : Tells7 d z N nx T.data.toList
  zpos : 0 < z
  full : 2 * z + m = d.n
  on : d.on = true
  fuse : d.fuse < 0
  wr : d.wr ≤ k
theorem LiveS.kept {w w' : World} {S : Nat → Prop} {B u q p g cap z m N nx k : Nat} {T : ByteArray} {v : Value} {rs : List (List UInt8)} {d : DS} (h : LiveS w B u q p g cap z m N nx T v rs k d) (hc : ChgS S w w') (hS : ∀ k, StoS u q p g v k → ¬ S k) : LiveS w' B u q p g cap z m N nx T v rs k d :=
  ⟨h.mem.kept hc hS, h.at_, h.sel, h.zpos, h.full, h.on, h.fuse, h.wr⟩
theorem LiveS.same {w w' : World} {B u q p g cap z m N nx k : Nat} {T : ByteArray} {v : Value} {rs : List (List UInt8)} {d : DS} (h : LiveS w B u q p g cap z m N nx T v rs k d) (hs : Same w w') : LiveS w' B u q p g cap z m N nx T v rs k d := ⟨h.mem.same hs, h.at_, h.sel, h.zpos, h.full, h.on, h.fuse, h.wr⟩
theorem LiveS.below {w w' : World} {B C u q p g cap z m N nx k : Nat} {T : ByteArray} {v : Value} {rs : List (List UInt8)} {d : DS} (h : LiveS w B u q p g cap z m N nx T v rs k d) (hb : Below C w w') (hC : w.heap.size ≤ C) : LiveS w' B u q p g cap z m N nx T v rs k d := ⟨h.mem.below hb hC, h.at_, h.sel, h.zpos, h.full, h.on, h.fuse, h.wr⟩
theorem LiveS.le {w : World} {B u q p g cap z m N nx k k' : Nat} {T : ByteArray} {v : Value} {rs : List (List UInt8)} {d : DS} (h : LiveS w B u q p g cap z m N nx T v rs k d) (hk : k ≤ k') : LiveS w B u q p g cap z m N nx T v rs k' d := ⟨h.mem, h.at_, h.sel, h.zpos, h.full, h.on, h.fuse, Nat.le_trans h.wr hk⟩
theorem bst_back (T : List UInt8) : (bst T).data.toList = T := rfl

theorem lives_open (s : Nat → Addr) (w0 : World) (p g cap : Nat) (d : DS) (z m N nx k : Nat) (T : List UInt8) (rs : List (List UInt8)) (x : Int) (w : World) (hs : Sent s w0) (hb : Below w0.heap.size w0 w) (h : DiskAt w p g cap d) (hlo : w0.heap.size ≤ g) (hx : x = (z : Int))
    (hz : 0 < z) (hz2 : z ≤ 108) (hm0 : 0 < m) (hfit : 2 * z + m = d.n) (ho : d.on = true) (hf : d.fuse < 0) (ht : Tells7 d z N nx T) (hN : N ≤ 1073741824) (hk : d.wr ≤ k) (hw : k + m ≤ 1000000) (hfol : Follows (rowsD d (2 * z) m) N rs) :
    Calls Tryz.prog 6 #[.pointer (some ⟨p, 0, none⟩), .int .i64 x] w fun e w' => ∃ u q v d', e = .returned (.tuple #[.pointer (some ⟨u, 0, none⟩), .nilIface]) ∧ LiveS w' w0.heap.size u q p g cap z m N nx (bst T) v rs (k + m) d' ∧ ChgS (fun i => i = p ∨ i = g) w w' ∧ w.heap.size ≤ u ∧
      (∀ i, v.ownBlock = some i → w.heap.size ≤ i) ∧ d'.n = d.n ∧ (∀ j, j < 2 * z → d'.blk j = d.blk j) ∧ Below w0.heap.size w0 w' := by
  obtain ⟨hU, d', hwp, hat, hlike, hon, hfu, hout⟩ := open_ok hfol (by omega) ho hf
  have hwn := wipe_n (d := d) (m := m - (layR N rs).length) (i := 2 * z + (layR N rs).length) (by omega) ho
  refine (sopen_c s w0 p g cap d z m N nx T rs x w hs hb h hlo hx hz hz2 hm0 hfit ho ht hN (by omega) hfol (by rw [hwp])).mono ?_
  rintro e w1 ⟨u, q, v, rfl, hm, hc, hu, hv⟩
  rw [hwp] at hm hwn
  exact ⟨u, q, v, d', rfl, ⟨hm, hat, by rw [bst_back]; exact ht.same fun j hj => hout j (.inl (by omega)), hz, by rw [hlike.n]; exact hfit, hon, by rw [hfu]; exact hf, show d'.wr ≤ k + m from Nat.le_trans hwn.2 (by omega)⟩, hc, hu, hv, hlike.n, fun j hj => hout j (.inl (by omega)), hb.trans (hc.below (fun i hi => by have := h.lt; omega) hb.size)⟩

theorem lives_keep (s : Nat → Addr) (w0 : World) (u q p g cap z m N nx k : Nat) (T X : ByteArray) (v : Value) (rs : List (List UInt8)) (d : DS) (w : World) (hs : Sent s w0) (hb : Below w0.heap.size w0 w) (h : LiveS w w0.heap.size u q p g cap z m N nx T v rs k d)
    (hX : X.size ≤ 6000) (hnz : nblk X.size ≤ z) (hN' : N + rs.length + 1 ≤ 1073741824) (hw : k + 2 * z + m ≤ 1000000) :
    Calls Tryz.prog 7 #[.pointer (some ⟨u, 0, none⟩), .string X] w fun e w' => e = .returned .nilIface ∧ ∃ d', LiveS w' w0.heap.size u q p g cap z m (N + rs.length + 1) (z - nx) X (.slice none 0 0) [] (k + 2 * z + m) d' ∧ ChgS (StoS u q p g v) w w' ∧ d'.n = d.n ∧
      rowsD d' nx z = framesF (N + rs.length + 1) X.data.toList ++ List.replicate (z - nblk X.size) zeroF ∧ (∀ i, i < z → d'.blk (z - nx + i) = d.blk (z - nx + i)) ∧ Below w0.heap.size w0 w' := by
  have hwr := h.wr
  have hsl : X.data.toList.length = X.size := size_len X
  obtain ⟨e1, e2, e3, a1, o1, n1, w1, a2, o2, n2, w2, a3, o3, f3, n3, w3, ht, hat, hrow, hold⟩ := keep_ok (X := X.data.toList) h.zpos h.sel h.at_ (by omega) (by rw [hsl]; exact hnz) (by omega) h.on h.fuse
  refine (skeep_ok s w0 u q p g cap d e1 e2 e3 z m N nx T X v rs w hs hb h.mem hX hnz hN' h.sel.facts.1 h.on (by omega) a1 o1 n1 w1 a2 o2 n2 w2 a3).mono ?_
  rintro e w' ⟨rfl, hm, hc⟩
  exact ⟨rfl, e3, ⟨hm, hat, ht, h.zpos, by rw [n3]; exact h.full, o3, f3, by omega⟩, hc, n3, by rw [← hsl]; exact hrow, hold, hb.trans (hc.below (fun k hk => (h.mem.lts k hk).1) hb.size)⟩

set_option maxHeartbeats 1600000 in
set_option maxRecDepth 100000 in
theorem lives_add (s : Nat → Addr) (w0 : World) (u q p g cap z m N nx k : Nat) (T X : ByteArray) (v : Value) (rs : List (List UInt8)) (d : DS) (w : World) (hs : Sent s w0) (hb : Below w0.heap.size w0 w) (h : LiveS w w0.heap.size u q p g cap z m N nx T v rs k d)
    (hX : X.size ≤ 6000) (hroom : nblk X.size ≤ m - (layR N rs).length) (hnext : N + rs.length + 1 < 1073741824) (hw : k + 108 ≤ 1000000) :
    Calls Tryz.prog 9 #[.pointer (some ⟨u, 0, none⟩), .string X] w fun e w' => e = .returned .nilIface ∧ ∃ v' d', LiveS w' w0.heap.size u q p g cap z m N nx T v' (rs ++ [X.data.toList]) (k + 108) d' ∧ ChgS (StoS u q p g v) w w' ∧ (∀ i, v'.ownBlock = some i → v.ownBlock = some i ∨ w.heap.size ≤ i) ∧ d'.n = d.n ∧
      (∀ j, j < 2 * z → d'.blk j = d.blk j) ∧ Below w0.heap.size w0 w' := by
  have c4 := h.mem.cells.2.2.2.2.1
  have had := live_add s w0 q p g cap (2 * z) m N k v rs d X w hs hb ⟨h.mem.log, h.at_, h.on, h.fuse, h.wr⟩ hX hroom hnext hw
  have HAD := Lib.hid had; have HL := Lib.hid h; have HS := Lib.hid hs; have HB := Lib.hid hb
  clear had h hs hb hroom
  go_enter Tryz.func9, Tryz.ntmps9
  go_wp2_with fail
  refine (HAD.out).mono ?_
  rintro e x1 ⟨rfl, v', d', hl, hc, hv, hn, hout, hb1⟩
  have hm := HL.out.mem.logged hc hl.mem hv
  have hlv : LiveS x1 w0.heap.size u q p g cap z m N nx T v' (rs ++ [X.data.toList]) (k + 108) d' := ⟨hm, hl.at_, HL.out.sel.same fun j hj => hout j (.inl (by omega)), HL.out.zpos, by rw [hn]; exact HL.out.full, hl.on, hl.fuse, hl.wr⟩
  have HN := Lib.hid (snote_nil s _ u q p g cap d' z m N nx T v' _ false false x1 (HS.out.below hb1 (Nat.le_refl _)) hm)
  have HLV := Lib.hid hlv; have HC := Lib.hid hc; have HV := Lib.hid hv; have HO := Lib.hid hout; have HB1 := Lib.hid hb1
  clear hl hc hv hout hb1 hm hlv HAD
  go_wp2_with fail
  refine (HN.out).mono ?_
  rintro e x2 ⟨rfl, h2⟩
  have HF := Lib.hid h2
  clear h2
  go_wp2_with fail
  go_ret
  exact ⟨rfl, v', d', HLV.out.same HF.out, (HC.out.mono fun _ _ h => .inr h).trans (HF.out.chg (StoS u q p g v)) fun _ _ h => h, HV.out, hn, fun j hj => HO.out j (.inl (by omega)), HB1.out.trans (HF.out.below _)⟩
end Go.Proofs.YtmfchjbpbfkgiabGreatDoor
