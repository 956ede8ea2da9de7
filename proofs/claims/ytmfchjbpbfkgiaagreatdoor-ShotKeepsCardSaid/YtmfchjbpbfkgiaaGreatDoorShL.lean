/- Contract of a store's load: the state that the two areas tell. Conditions: the sentinels lie as the program's text lays them; the disk lies in memory, there is power. -/
import Derived.Test.YtmfchjbpbfkgiaaGreatDoorShC
import Derived.Deep.DeepCutAuto
import Derived.Deep.CutBlock
namespace Go.Proofs.YtmfchjbpbfkgiaaGreatDoor
open Go Go.RowKit

/-- The cells of a store that was made just now. -/
def stoV0 (p z : Nat) : Array Value := #[.pointer (some ⟨p, 0, none⟩), .int .i64 (z : Int), .string ⟨#[]⟩, .int .i64 0, .pointer none, .bool false]
/-- The cells of a store whose areas were read. -/
def stoV1 (p z : Nat) (T : ByteArray) (nx : Nat) : Array Value := #[.pointer (some ⟨p, 0, none⟩), .int .i64 (z : Int), .string T, .int .i64 (nx : Int), .pointer none, .bool false]
/-- What load leaves. -/
def SLoaded (w : World) (u p z N nx : Nat) (T : List UInt8) (e : Ending) (w' : World) : Prop :=
  e = .returned (.tuple #[.int .i64 (N : Int), .nilIface]) ∧ w'.heap[u]? = some (.cells (stoV1 p z (bst T) nx) 85 (0, 0)) ∧ ChgS (fun k => k = u) w w'

theorem SLoaded.drew {w : World} {u p z N nx : Nat} {T : List UInt8} {e : Ending} {w' : World} (h : SLoaded w u p z N nx T e w') : SLoaded w u p z N nx T e w'.drew := ⟨h.1, h.2.1, h.2.2.drew⟩
/-- A fresh variable for a snapshot. -/
def SnB (W : World) (k : Nat) : Prop := W.heap[k]? = some (.cells #[.string ⟨#[]⟩, .int .i64 0] 105 (0, 0))
theorem SnB.new (W : World) : SnB (W.alloc (.cells #[.string ⟨#[]⟩, .int .i64 0] 105)) W.heap.size := heap_alloc_new W _
theorem SnB.new2 (W : World) (o : Obj) : SnB ((W.alloc o).alloc (.cells #[.string ⟨#[]⟩, .int .i64 0] 105)) (W.heap.size + 1) := by
  have h := heap_alloc_new (W.alloc o) (.cells #[.string ⟨#[]⟩, .int .i64 0] 105)
  rw [World.size_alloc] at h
  exact h
theorem SnB.lt {W : World} {k : Nat} (h : SnB W k) : k < W.heap.size := lt_of_block h
theorem SnB.alloc {W : World} {k : Nat} (h : SnB W k) (o : Obj) : SnB (W.alloc o) k := (Below.heap_alloc W o k h.lt).trans h
theorem SnB.on {W w' : World} {k : Nat} (hb : Below W.heap.size W w') (h : SnB W k) : SnB w' k := (hb.block k h.lt).trans h
theorem SnB.facts {W : World} {k : Nat} (h : SnB W k) : W.cell? ⟨k, 0, none⟩ = some (.string ⟨#[]⟩) ∧ W.cell? ⟨k, 1, none⟩ = some (.int .i64 0) ∧ W.frozen? ⟨k, 0, none⟩ = false ∧ W.frozen? ⟨k, 1, none⟩ = false :=
  ⟨cell_of_heap h 0, cell_of_heap h 1, frozen_of_heap h 0, frozen_of_heap h 1⟩
/-- Two snapshots in variables of their own. -/
def Snap2 (w : World) (A B : Nat × List UInt8) (x y : Value) (W : World) : Prop :=
  ∃ k l : Nat, x = .pointer (some ⟨k, 0, none⟩) ∧ y = .pointer (some ⟨l, 0, none⟩) ∧ w.heap.size ≤ k ∧ w.heap.size ≤ l ∧ W.heap[k]? = some (.cells #[.string (bst A.2), .int .i64 (A.1 : Int)] 105 (0, 0)) ∧ W.heap[l]? = some (.cells #[.string (bst B.2), .int .i64 (B.1 : Int)] 105 (0, 0)) ∧ Below w.heap.size w W

/-- A snapshot's variable. -/
def SnF (W : World) (k : Nat) (a b : Value) : Prop := W.heap[k]? = some (.cells #[a, b] 105 (0, 0))
theorem SnF.lt {W : World} {k : Nat} {a b : Value} (h : SnF W k a b) : k < W.heap.size := lt_of_block h
theorem SnF.new (W : World) (a b : Value) : SnF (W.alloc (.cells #[a, b] 105)) W.heap.size a b := heap_alloc_new W _
theorem SnF.new2 (W : World) (o : Obj) (a b : Value) : SnF ((W.alloc o).alloc (.cells #[a, b] 105)) (W.heap.size + 1) a b := by
  have h := heap_alloc_new (W.alloc o) (.cells #[a, b] 105)
  rw [World.size_alloc] at h
  exact h
theorem SnF.newS (W : World) (p q : Addr) (x y a b : Value) : SnF (((W.setCell p x).setCell q y).alloc (.cells #[a, b] 105)) W.heap.size a b := by
  have h := heap_alloc_new ((W.setCell p x).setCell q y) (.cells #[a, b] 105)
  rw [World.size_setCell, World.size_setCell] at h
  exact h
theorem SnF.alloc {W : World} {k : Nat} {a b : Value} (h : SnF W k a b) (o : Obj) : SnF (W.alloc o) k a b := (Below.heap_alloc W o k h.lt).trans h
theorem SnF.set {W : World} {k : Nat} {a b : Value} (h : SnB W k) : SnF ((W.setCell ⟨k, 0, none⟩ a).setCell ⟨k, 1, none⟩ b) k a b := by
  unfold SnF
  rw [set_cells (set_cells h)]; rfl
theorem SnF.other {W : World} {k l : Nat} {a b x y : Value} (h : SnF W k a b) (hne : k ≠ l) : SnF ((W.setCell ⟨l, 0, none⟩ x).setCell ⟨l, 1, none⟩ y) k a b := (Below.heap_setCell _ ⟨l, 1, none⟩ _ k hne).trans ((Below.heap_setCell W ⟨l, 0, none⟩ _ k hne).trans h)
theorem SnB.other {W : World} {k l : Nat} {x y : Value} (h : SnB W k) (hne : k ≠ l) : SnB ((W.setCell ⟨l, 0, none⟩ x).setCell ⟨l, 1, none⟩ y) k := (Below.heap_setCell _ ⟨l, 1, none⟩ _ k hne).trans ((Below.heap_setCell W ⟨l, 0, none⟩ _ k hne).trans h)

set_option maxHeartbeats 6400000 in
set_option maxRecDepth 100000 in
theorem sload_c (s : Nat → Addr) (u p g cap : Nat) (d : DS) (z N nx : Nat) (T : List UInt8) (w : World) (hs : Sent s w) (hblk : w.heap[u]? = some (.cells (stoV0 p z) 85 (0, 0))) (hd : DiskAt w p g cap d) (_hpu : p < u)
    (hz : 0 < z) (hz2 : z ≤ 108) (hfit : 2 * z ≤ d.n) (ho : d.on = true) (ht : Tells7 d z N nx T) :
    Calls Tryz.prog 54 #[.pointer (some ⟨u, 0, none⟩)] w fun e w' => SLoaded w u p z N nx T e w' := by
  have c0 : w.cell? ⟨u, 0, none⟩ = some (.pointer (some ⟨p, 0, none⟩)) := cell_of_heap hblk 0
  have c1 : w.cell? ⟨u, 1, none⟩ = some (.int .i64 (z : Int)) := cell_of_heap hblk 1
  have hul := lt_of_block hblk
  have hCEL := Lib.hid (Cel.mk2 c0 c1)
  have HC1 : Hid (∀ W, Below w.heap.size w W → Cel W u [(0, .pointer (some ⟨p, 0, none⟩)), (1, .int .i64 (z : Int))]) := Lib.hid fun W hW =>
    Cel.mk2 ((hW.cell (p := ⟨u, 0, none⟩) hul).trans c0) ((hW.cell (p := ⟨u, 1, none⟩) hul).trans c1)
  have HRG : Hid (∀ W : World, Same w W → Calls Tryz.prog 58 #[.pointer (some ⟨p, 0, none⟩), .int .i64 0, .int .i64 (2 * (z : Int))] W fun e w' => (∃ v, e = .returned (.tuple #[v, .nilIface]) ∧ w'.ownsRow w.heap.size 9 1 v (2 * z) (strVs (rowsD d 0 (2 * z)))) ∧ Below w.heap.size w w') := Lib.hid fun W hW => by
    have h1 := rget_c s p g cap d 0 (2 * z) 0 (2 * (z : Int)) W (hs.below (hW.below _) (Nat.le_refl _)) (hd.still hW) rfl (by omega) (by omega) ho
    rw [hW.size] at h1
    refine h1.mono ?_
    rintro e w' ⟨hv, hb'⟩
    exact ⟨hv, (hW.below _).trans hb'⟩
  have HSM := Lib.hid (Same.refl w)
  have HS := Lib.hid hs; have HD := Lib.hid hd; have HT := Lib.hid ht; have HB := Lib.hid hblk
  have hwz : IntKind.i64.wrap (2 * (z : Int)) = 2 * (z : Int) := IntWalk.i64_in _ (by omega)
  clear hs hd ht hblk
  go_enter Tryz.func54, Tryz.ntmps54
  go_wp2_with fail
  go_region_held3 (fun W => W.cell? ⟨u, 0, none⟩ = some (.pointer (some ⟨p, 0, none⟩)) ∧ W.cell? ⟨u, 1, none⟩ = some (.int .i64 (z : Int)))
    (exact Cel.two (by (repeat' (first | (with_reducible assumption) | (with_reducible exact Hid.out (by with_reducible assumption)) | (with_reducible refine Cel.drewN ?_ _) | (with_reducible refine Cel.drew ?_)))))
    (first
      | (go_at_call 58; (with_reducible refine (HRG.out _ (by (repeat' (first | (with_reducible assumption) | (with_reducible exact Hid.out (by with_reducible assumption)) | (with_reducible refine Same.thenN ?_ _) | (with_reducible refine Same.thenD ?_) | (with_reducible refine Same.refl _))))).mono ?_); rintro e wr ⟨⟨bl, rfl, hown⟩, hb⟩; have c5 : Cel wr u [(0, .pointer (some ⟨p, 0, none⟩)), (1, .int .i64 (z : Int))] := HC1.out _ hb))
  obtain ⟨gb, c, hbl, hcc, hsr, hlen⟩ := own_srow hown (by omega)
  subst hbl
  have hgb := (hown.lt gb rfl).1
  have hgl := (hown.lt gb rfl).2
  rw [rowsD_len] at hcc
  have hr0 : ((rowsD d 0 (2 * z)).map bst).take z = (rowsD d 0 z).map bst := by
    rw [← List.map_take, show 2 * z = z + z by omega, rowsD_app, List.take_left' (rowsD_len _ _ _)]
  have hr1 : ((rowsD d 0 (2 * z)).map bst).drop z = (rowsD d z z).map bst := by
    rw [← List.map_drop, show 2 * z = z + z by omega, rowsD_app, List.drop_left' (rowsD_len _ _ _), Nat.zero_add]
  have hA := hsr.take z
  have hBz := hsr.at_end (n := z) (by rw [List.length_map, rowsD_len]; omega)
  rw [hr0] at hA
  rw [hr1, Nat.zero_add] at hBz
  obtain ⟨SA, hSA⟩ : ∃ SA, snapF (rowsD d 0 z) = SA := ⟨_, rfl⟩
  obtain ⟨SB, hSB⟩ : ∃ SB, snapF (rowsD d z z) = SB := ⟨_, rfl⟩
  have HA : Hid (∀ W, Below wr.heap.size wr W → Calls Tryz.prog 69 #[.slice (some ⟨gb, 0, none⟩) z c] W fun e w' => e = .returned (.agg #[.string (bst SA.2), .int .i64 (SA.1 : Int)]) ∧ Below W.heap.size W w') := Lib.hid fun W hW => by
    have h := snapOf_c s wr.heap.size c (some ⟨gb, 0, none⟩) ((rowsD d 0 z).map bst) W (HS.out.below (hb.trans (hW.mono hb.size)) (Nat.le_refl _)) (by rw [List.length_map, rowsD_len]; omega) (by rw [List.length_map, rowsD_len]; omega) (hA.below hW (Nat.le_refl _)) hW.size
    rw [List.length_map, rowsD_len, rows_bst, hSA] at h
    exact h
  have HB2 : Hid (∀ W, Below wr.heap.size wr W → Calls Tryz.prog 69 #[.slice (some ⟨gb, z, none⟩) (2 * z - z) (c - z)] W fun e w' => e = .returned (.agg #[.string (bst SB.2), .int .i64 (SB.1 : Int)]) ∧ Below W.heap.size W w') := Lib.hid fun W hW => by
    rw [show 2 * z - z = z by omega]
    have h := snapOf_c s wr.heap.size (c - z) (some ⟨gb, z, none⟩) ((rowsD d z z).map bst) W (HS.out.below (hb.trans (hW.mono hb.size)) (Nat.le_refl _)) (by rw [List.length_map, rowsD_len]; omega) (by rw [List.length_map, rowsD_len]; omega) (hBz.below hW (Nat.le_refl _)) hW.size
    rw [List.length_map, rowsD_len, rows_bst, hSB] at h
    exact h
  have d1 : wr.cell? ⟨u, 1, none⟩ = some (.int .i64 (z : Int)) := (Cel.two c5).2
  have hulr : u < wr.heap.size := Nat.lt_of_lt_of_le hul hb.size
  have HCW : Hid (∀ W, Below wr.heap.size wr W → W.cell? ⟨u, 1, none⟩ = some (.int .i64 (z : Int))) := Lib.hid fun W hW => (hW.cell (p := ⟨u, 1, none⟩) hulr).trans d1
  have HBR := Lib.hid hb
  have z0 : (0 : Int) ≤ (z : Int) := by omega
  have z1 : (z : Int) ≤ 2 * (z : Int) := by omega
  have z2 : (z : Int) ≤ (c : Int) := by omega
  rw [rowsD_len]
  have HSA := Lib.hid hSA; have HSB := Lib.hid hSB
  clear hlen hSA hSB hown hb hsr hA hBz hr0 hr1 c5 hCEL HC1 HRG HSM c0 c1
  go_upto_region 4 with fail
  go_cut [6, 7] (fun x y wx => Snap2 wr SA SB x y wx)
  case first =>
    go_region_held3 (fun W => W.cell? ⟨u, 1, none⟩ = some (.int .i64 (z : Int)))
      (exact HCW.out _ (by (repeat' (first | (with_reducible exact Below.refl _ _) | (with_reducible refine below_drewN ?_ _) | (with_reducible refine Below.drew ?_) | (with_reducible refine Below.alloc ?_ ?_ _) | (with_reducible refine Below.setCell ?_ ?_ _) | (with_reducible refine Below.trans ?_ (Below.mono (by with_reducible assumption) ?_)) | omega | (simp only [World.size_alloc, World.size_setCell, World.size_drew] at *; omega) | (with_reducible refine Below.size (B := 0) ?_)))))
      (first
        | (go_at_call 69; (with_reducible refine (HA.out _ (by (repeat' (first | (with_reducible exact Below.refl _ _) | (with_reducible refine below_drewN ?_ _) | (with_reducible refine Below.drew ?_) | (with_reducible refine Below.alloc ?_ ?_ _) | (with_reducible refine Below.setCell ?_ ?_ _) | (with_reducible refine Below.trans ?_ (Below.mono (by with_reducible assumption) ?_)) | omega | (simp only [World.size_alloc] at *; omega) | (with_reducible refine Below.size (B := 0) ?_))))).mono ?_); rintro e w5 ⟨rfl, b5⟩; have s5 := b5.size; (try simp only [World.size_alloc, World.size_drew] at s5); (first | (have p1 := SnB.on b5 (SnB.alloc (SnB.new _) _); have p2 := SnB.on b5 (SnB.new2 _ _)) | have p1 := SnB.on b5 (SnB.new _) | skip); (first | (have p1l := SnB.lt p1; have q9 := SnB.facts p1; obtain ⟨p1a, p1b, p1c, p1d⟩ := q9) | skip); (first | (have p2l := SnB.lt p2; have q9 := SnB.facts p2; obtain ⟨p2a, p2b, p2c, p2d⟩ := q9) | skip))
        | (go_at_call 69; (with_reducible refine (HB2.out _ (by (repeat' (first | (with_reducible exact Below.refl _ _) | (with_reducible refine below_drewN ?_ _) | (with_reducible refine Below.drew ?_) | (with_reducible refine Below.alloc ?_ ?_ _) | (with_reducible refine Below.setCell ?_ ?_ _) | (with_reducible refine Below.trans ?_ (Below.mono (by with_reducible assumption) ?_)) | omega | (simp only [World.size_alloc, World.size_drew] at *; omega) | (with_reducible refine Below.size (B := 0) ?_))))).mono ?_); rintro e w6 ⟨rfl, b6⟩; have s6 := b6.size; (try simp only [World.size_alloc] at s6); (first | have p1 := SnB.on b6 p1 | have p1 := SnB.on b6 (SnB.alloc p1 _) | have p1 := SnB.on b6 (SnB.alloc (SnB.alloc p1 _) _) | skip); (first | have p2 := SnB.on b6 p2 | have p2 := SnB.on b6 (SnB.alloc p2 _) | have p2 := SnB.on b6 (SnB.alloc (SnB.alloc p2 _) _) | skip); (first | (have r1 := SnB.on b6 (SnB.alloc (SnB.new _) _); have r2 := SnB.on b6 (SnB.new2 _ _)) | have r1 := SnB.on b6 (SnB.new _) | skip); (first | (have p1l := SnB.lt p1; have q9 := SnB.facts p1; obtain ⟨p1a, p1b, p1c, p1d⟩ := q9) | skip); (first | (have p2l := SnB.lt p2; have q9 := SnB.facts p2; obtain ⟨p2a, p2b, p2c, p2d⟩ := q9) | skip); (first | (have r1l := SnB.lt r1; have q9 := SnB.facts r1; obtain ⟨r1a, r1b, r1c, r1d⟩ := q9) | skip); (first | (have r2l := SnB.lt r2; have q9 := SnB.facts r2; obtain ⟨r2a, r2b, r2c, r2d⟩ := q9) | skip)))
    all_goals go_wp2_with fail
    all_goals go_meet
    all_goals refine ⟨_, _, rfl, rfl, ?_, ?_, ?_, ?_, ?_⟩
    all_goals first
      | omega
      | (show SnF _ _ _ _; repeat' (first | (with_reducible assumption) | (with_reducible exact SnF.new _ _ _) | (with_reducible exact SnF.new2 _ _ _ _) | (with_reducible exact SnF.newS _ _ _ _ _ _ _) | (with_reducible refine SnF.alloc ?_ _) | (with_reducible refine SnF.set ?_) | (with_reducible refine SnF.other ?_ ?_) | (with_reducible refine SnB.other ?_ ?_) | (with_reducible refine SnB.alloc ?_ _) | omega))
      | ((repeat' (first | (with_reducible exact Below.refl _ _) | (with_reducible refine below_drewN ?_ _) | (with_reducible refine Below.drew ?_) | (with_reducible refine Below.alloc ?_ ?_ _) | (with_reducible refine Below.setCell ?_ ?_ _) | (with_reducible refine Below.trans ?_ (Below.mono (by with_reducible assumption) ?_)) | omega | (simp only [World.size_alloc, World.size_setCell, World.size_drew] at *; omega) | (with_reducible refine Below.size (B := 0) ?_))))
  case rest =>
    obtain ⟨k, l, rfl, rfl, hk, hl, h6, h7, hbX⟩ := hcut
    have e60 := cell_of_heap h6 0
    have e61 := cell_of_heap h6 1
    have e70 := cell_of_heap h7 0
    have e71 := cell_of_heap h7 1
    have hub : wc.heap[u]? = some (.cells (stoV0 p z) 85 (0, 0)) := (hbX.block u hulr).trans ((HBR.out.block u hul).trans HB.out)
    have c1 : wc.cell? ⟨u, 1, none⟩ = some (.int .i64 (z : Int)) := cell_of_heap hub 1
    have c2 : wc.cell? ⟨u, 2, none⟩ = some (.string ⟨#[]⟩) := cell_of_heap hub 2
    have c3 : wc.cell? ⟨u, 3, none⟩ = some (.int .i64 0) := cell_of_heap hub 3
    have f2 := frozen_of_heap hub 2
    have f3 := frozen_of_heap hub 3
    have hne1 : ¬ k = u := by omega
    have hne2 : ¬ l = u := by omega
    have hne3 : ¬ u = k := by omega
    have hne4 : ¬ u = l := by omega
    have hsel : selF z SA SB = (N, T, nx) := by
      have := HT.out
      unfold Tells7 at this
      rw [HSA.out, HSB.out] at this
      exact this
    have HBX : Hid (Below w.heap.size w wc) := Lib.hid (HBR.out.trans (hbX.mono HBR.out.size))
    have HF : Hid (∀ (W : World) (e : Ending) (x y : Value) (n : Nat), Same wc W → e = .returned (.tuple #[.int .i64 (n : Int), .nilIface]) → x = .string (bst T) → y = .int .i64 (nx : Int) → n = N → SLoaded w u p z N nx T e ((W.setCell ⟨u, 2, none⟩ x).setCell ⟨u, 3, none⟩ y)) := Lib.hid fun W e x y n hW he hx hy hn => by
      subst he; subst hx; subst hy; subst hn
      have hub := (hW.block u).trans hub
      refine ⟨rfl, ?_, ((ChgS.of_below (S := fun k => k = u) (HBX.out.trans (hW.below _))).setCell (ad := ⟨u, 2, none⟩) (.inl rfl) _).setCell (ad := ⟨u, 3, none⟩) (.inl rfl) _⟩
      rw [set_cells (set_cells hub)]; rfl
    have HF0 : Hid (T = [] → nx = 0 → ∀ n : Nat, n = N → SLoaded w u p z N nx T (.returned (.tuple #[.int .i64 (n : Int), .nilIface])) wc) := Lib.hid fun hT hx n hn => by
      subst hT; subst hx; subst hn
      exact ⟨rfl, hub, ChgS.of_below HBX.out⟩
    clear hub hbX HBR HCW HA HB2 HSA HSB HT HB h6 h7 d1
    unfold selF at hsel
    by_cases hlt : SA.1 < SB.1
    · rw [if_pos hlt] at hsel
      simp only [Prod.mk.injEq] at hsel
      obtain ⟨rfl, rfl, rfl⟩ := hsel
      have hlt2 : (SA.1 : Int) < (SB.1 : Int) := by omega
      go_wp2_with fail
      go_ret2
      exact HF.out _ _ _ _ _ (by first | exact Same.refl _ | exact Same.drew _ | exact ⟨rfl, rfl, rfl, rfl, fun _ => rfl⟩) rfl rfl rfl rfl
    · rw [if_neg hlt] at hsel
      have hlt2 : ¬ (SA.1 : Int) < (SB.1 : Int) := by omega
      by_cases h0 : 0 < SA.1
      · rw [if_pos h0] at hsel
        simp only [Prod.mk.injEq] at hsel
        obtain ⟨rfl, rfl, rfl⟩ := hsel
        have h02 : (0 : Int) < (SA.1 : Int) := by omega
        go_wp2_with fail
        go_region
        all_goals go_wp2_with fail
        all_goals go_ret2
        all_goals exact SLoaded.drew (HF.out _ _ _ _ _ (Same.refl _) rfl rfl rfl rfl)
      · rw [if_neg h0] at hsel
        simp only [Prod.mk.injEq] at hsel
        obtain ⟨h1, h2, h3⟩ := hsel
        have h02 : ¬ (0 : Int) < (SA.1 : Int) := by omega
        have HX := Lib.hid (HF0.out h2.symm h3.symm SA.1 h1)
        clear h1 h2 h3
        go_wp2_with fail
        go_ret2
        exact HX.out
end Go.Proofs.YtmfchjbpbfkgiaaGreatDoor
