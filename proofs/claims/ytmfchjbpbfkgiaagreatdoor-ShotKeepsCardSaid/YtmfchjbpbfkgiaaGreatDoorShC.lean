/- A store in memory, and its small methods. Conditions: the sentinels lie as the program's text lays them; the store lies in memory (StoMem). -/
import Derived.Test.YtmfchjbpbfkgiaaGreatDoorShM
import Derived.Test.YtmfchjbpbfkgiaaGreatDoorLgV
import Derived.Deep.RegionHeld3
namespace Go.Proofs.YtmfchjbpbfkgiaaGreatDoor
open Go Go.RowKit

/-- The cells of a store. -/
def stoV (p q z : Nat) (T : ByteArray) (nx : Nat) (fell : Bool) : Array Value := #[.pointer (some ⟨p, 0, none⟩), .int .i64 (z : Int), .string T, .int .i64 (nx : Int), .pointer (some ⟨q, 0, none⟩), .bool fell]
/-- A store in memory: u its own block, q its log's, p its disk's, g that of the disk's bytes. -/
structure StoMem (w : World) (B u q p g cap : Nat) (d : DS) (z m N : Nat) (T : ByteArray) (nx : Nat) (v : Value) (rs : List (List UInt8)) (fell lf : Bool) : Prop where
  blk : w.heap[u]? = some (.cells (stoV p q z T nx fell) 85 (0, 0))
  log : LogMem w B q p g cap d (2 * z) m N v rs lf
  lo : B ≤ u
  pu : p < u
  uq : u < q
  apart : ∀ k, v.ownBlock = some k → k ≠ u
/-- The blocks that a call of a store may write. -/
def StoS (u q p g : Nat) (v : Value) : Nat → Prop := fun k => k = u ∨ LogS q p g v k
theorem StoMem.cells {w : World} {B u q p g cap : Nat} {d : DS} {z m N nx : Nat} {T : ByteArray} {v : Value} {rs : List (List UInt8)} {fell lf : Bool} (h : StoMem w B u q p g cap d z m N T nx v rs fell lf) :
    w.cell? ⟨u, 0, none⟩ = some (.pointer (some ⟨p, 0, none⟩)) ∧ w.cell? ⟨u, 1, none⟩ = some (.int .i64 (z : Int)) ∧ w.cell? ⟨u, 2, none⟩ = some (.string T) ∧ w.cell? ⟨u, 3, none⟩ = some (.int .i64 (nx : Int)) ∧ w.cell? ⟨u, 4, none⟩ = some (.pointer (some ⟨q, 0, none⟩)) ∧ w.cell? ⟨u, 5, none⟩ = some (.bool fell) :=
  ⟨cell_of_heap h.blk 0, cell_of_heap h.blk 1, cell_of_heap h.blk 2, cell_of_heap h.blk 3, cell_of_heap h.blk 4, cell_of_heap h.blk 5⟩
theorem StoMem.lts {w : World} {B u q p g cap : Nat} {d : DS} {z m N nx : Nat} {T : ByteArray} {v : Value} {rs : List (List UInt8)} {fell lf : Bool} (h : StoMem w B u q p g cap d z m N T nx v rs fell lf) : ∀ k, StoS u q p g v k → B ≤ k ∧ k < w.heap.size := by
  have hl := h.log.lt
  have h1 := h.lo
  have h2 := h.uq
  rintro k (rfl | hk)
  · omega
  · exact h.log.lts k hk
theorem StoMem.kept {w w' : World} {S : Nat → Prop} {B u q p g cap : Nat} {d : DS} {z m N nx : Nat} {T : ByteArray} {v : Value} {rs : List (List UInt8)} {fell lf : Bool} (h : StoMem w B u q p g cap d z m N T nx v rs fell lf) (hc : ChgS S w w') (hS : ∀ k, StoS u q p g v k → ¬ S k) : StoMem w' B u q p g cap d z m N T nx v rs fell lf :=
  ⟨hc.row h.blk (hS u (.inl rfl)), h.log.kept hc fun k hk => hS k (.inr hk), h.lo, h.pu, h.uq, h.apart⟩
theorem StoMem.same {w w' : World} {B u q p g cap : Nat} {d : DS} {z m N nx : Nat} {T : ByteArray} {v : Value} {rs : List (List UInt8)} {fell lf : Bool} (h : StoMem w B u q p g cap d z m N T nx v rs fell lf) (hs : Same w w') : StoMem w' B u q p g cap d z m N T nx v rs fell lf :=
  h.kept (hs.chg fun _ => False) fun _ _ hf => hf
theorem StoMem.below {w w' : World} {B C u q p g cap : Nat} {d : DS} {z m N nx : Nat} {T : ByteArray} {v : Value} {rs : List (List UInt8)} {fell lf : Bool} (h : StoMem w B u q p g cap d z m N T nx v rs fell lf) (hb : Below C w w') (hC : w.heap.size ≤ C) : StoMem w' B u q p g cap d z m N T nx v rs fell lf :=
  h.kept (S := fun k => w.heap.size ≤ k) ⟨hb.os, hb.tape, hb.output, hb.size, fun k hk _ => hb.block k (by omega)⟩ fun k hk hs => by have := (h.lts k hk).2; omega
/-- The log was written, the store's own block was not. -/
theorem StoMem.logged {w w' : World} {B u q p g cap : Nat} {d d' : DS} {z m N N' nx : Nat} {T : ByteArray} {v v' : Value} {rs rs' : List (List UInt8)} {fell lf lf' : Bool} (h : StoMem w B u q p g cap d z m N T nx v rs fell lf) (hc : ChgS (LogS q p g v) w w') (hl : LogMem w' B q p g cap d' (2 * z) m N' v' rs' lf') (hv : ∀ k, v'.ownBlock = some k → v.ownBlock = some k ∨ w.heap.size ≤ k) :
    StoMem w' B u q p g cap d' z m N' T nx v' rs' fell lf' := by
  have h1 := h.log.lt
  have h2 := h.uq
  have h3 := h.pu
  refine ⟨hc.row h.blk ?_, hl, h.lo, h.pu, h.uq, fun k hk => ?_⟩
  · rintro (h | h4 | h | h4)
    · omega
    · omega
    · omega
    · exact h.apart u h4 rfl
  · rcases hv k hk with h4 | h4
    · exact h.apart k h4
    · omega

set_option maxHeartbeats 1600000 in
set_option maxRecDepth 100000 in
theorem seq_c (B u q p g cap : Nat) (d : DS) (z m N nx : Nat) (T : ByteArray) (v : Value) (rs : List (List UInt8)) (fell lf : Bool) (w : World) (h : StoMem w B u q p g cap d z m N T nx v rs fell lf) :
    Calls Tryz.prog 31 #[.pointer (some ⟨u, 0, none⟩)] w fun e w' => e = .returned (.int .i64 ((N + rs.length : Nat) : Int)) ∧ Same w w' := by
  have c4 := h.cells.2.2.2.2.1
  have hsz := h.log.sizes
  have hbs := h.log.base
  have hn := next_c B q p g cap d (2 * z) m N v rs lf w h.log
  have HN := Lib.hid hn
  clear hn h
  go_enter Tryz.func31, Tryz.ntmps31
  go_wp2_with fail
  refine (HN.out).mono ?_
  rintro e w1 ⟨he, h1⟩
  obtain ⟨X, he2, hX⟩ : ∃ X : Int, e = .returned (.int .i64 X) ∧ X = ((N + rs.length : Nat) : Int) + 1 := ⟨_, he, by omega⟩
  subst he2
  clear he
  have HX := Lib.hid hX
  have hXb : 1 ≤ X := by omega
  have hXc : X ≤ 2000000000 := by omega
  clear hX
  go_wp2_with fail
  go_ret
  exact ⟨ret_i (by have := HX.out; omega), h1⟩

set_option maxHeartbeats 1600000 in
set_option maxRecDepth 100000 in
theorem state_c (B u q p g cap : Nat) (d : DS) (z m N nx : Nat) (T : ByteArray) (v : Value) (rs : List (List UInt8)) (fell lf : Bool) (w : World) (h : StoMem w B u q p g cap d z m N T nx v rs fell lf) :
    Calls Tryz.prog 28 #[.pointer (some ⟨u, 0, none⟩)] w fun e w' => e = .returned (.string T) ∧ w = w' := by
  have c2 := h.cells.2.2.1
  clear h
  go_enter Tryz.func28, Tryz.ntmps28
  go_wp2_with fail
  go_ret
  exact ⟨rfl, rfl⟩

set_option maxHeartbeats 1600000 in
set_option maxRecDepth 100000 in
theorem srecs_c (B u q p g cap : Nat) (d : DS) (z m N nx : Nat) (T : ByteArray) (v : Value) (rs : List (List UInt8)) (fell lf : Bool) (w : World) (h : StoMem w B u q p g cap d z m N T nx v rs fell lf) :
    Calls Tryz.prog 30 #[.pointer (some ⟨u, 0, none⟩)] w fun e w' => (∃ v', e = .returned v' ∧ w'.ownsRow w.heap.size 9 1 v' rs.length (strVs rs)) ∧ Below w.heap.size w w' := by
  have c4 := h.cells.2.2.2.2.1
  have hr := records_c B q p g cap d (2 * z) m N v rs lf w h.log
  have HR := Lib.hid hr
  clear hr h
  go_enter Tryz.func30, Tryz.ntmps30
  go_wp2_with fail
  refine (HR.out).mono ?_
  rintro e w1 ⟨⟨v1, rfl, o1⟩, b1⟩
  have O1 := Lib.hid o1
  clear o1
  go_wp2_with fail
  go_ret
  exact ⟨⟨_, rfl, O1.out⟩, b1⟩

set_option maxHeartbeats 1600000 in
set_option maxRecDepth 100000 in
/-- No error: nothing is kept in mind. -/
theorem snote_nil (s : Nat → Addr) (B u q p g cap : Nat) (d : DS) (z m N nx : Nat) (T : ByteArray) (v : Value) (rs : List (List UInt8)) (fell lf : Bool) (w : World) (hs : Sent s w) (h : StoMem w B u q p g cap d z m N T nx v rs fell lf) :
    Calls Tryz.prog 56 #[.pointer (some ⟨u, 0, none⟩), .nilIface] w fun e w' => e = .returned .nilIface ∧ Same w w' := by
  have c5 := h.cells.2.2.2.2.2
  have f5 := frozen_of_heap h.blk 5
  have gD := (sent_err s w hs).2.2.2
  have HS := Lib.hid (Same.set (w := w) (j := 5) (x := .bool fell) h.blk rfl)
  have HN : Hid (∀ W, Calls Tryz.prog 46 #[.nilIface, .iface 163 (.pointer (some (s 13)))] W fun e w' => e = .returned (.bool false) ∧ W = w') := Lib.hid fun W => is_nil _ W
  clear h hs
  cases fell
  · go_enter Tryz.func56, Tryz.ntmps56
    go_wp2_with fail
    refine (HN.out _).mono ?_
    rintro e w1 ⟨rfl, rfl⟩
    go_wp2_with fail
    go_ret
    exact ⟨rfl, HS.out⟩
  · go_enter Tryz.func56, Tryz.ntmps56
    go_wp2_with fail
    go_ret
    exact ⟨rfl, HS.out⟩

set_option maxHeartbeats 1600000 in
set_option maxRecDepth 100000 in
/-- Another error than that of a lost power. -/
theorem snote_other (s : Nat → Addr) (B u q p g cap : Nat) (d : DS) (z m N nx : Nat) (T : ByteArray) (v : Value) (rs : List (List UInt8)) (fell lf : Bool) (k : Nat) (w : World) (hs : Sent s w) (h : StoMem w B u q p g cap d z m N T nx v rs fell lf) (hk : k < 14) (hne : k ≠ 13) :
    Calls Tryz.prog 56 #[.pointer (some ⟨u, 0, none⟩), .iface 163 (.pointer (some (s k)))] w fun e w' => e = .returned (.iface 163 (.pointer (some (s k)))) ∧ Same w w' := by
  have c5 := h.cells.2.2.2.2.2
  have f5 := frozen_of_heap h.blk 5
  have gD := (sent_err s w hs).2.2.2
  have HS := Lib.hid (Same.set (w := w) (j := 5) (x := .bool fell) h.blk rfl)
  have hn := is_sent s k 13 w hs hk (by omega)
  rw [decide_eq_false hne] at hn
  have HN := Lib.hid hn
  clear h hs hn
  cases fell
  · go_enter Tryz.func56, Tryz.ntmps56
    go_wp2_with fail
    refine (HN.out).mono ?_
    rintro e w1 ⟨rfl, rfl⟩
    go_wp2_with fail
    go_ret
    exact ⟨rfl, HS.out⟩
  · go_enter Tryz.func56, Tryz.ntmps56
    go_wp2_with fail
    go_ret
    exact ⟨rfl, HS.out⟩

set_option maxHeartbeats 1600000 in
set_option maxRecDepth 100000 in
/-- The power went. -/
theorem snote_down (s : Nat → Addr) (u p q z nx : Nat) (T : ByteArray) (fell : Bool) (w : World) (hs : Sent s w) (h : w.heap[u]? = some (.cells (stoV p q z T nx fell) 85 (0, 0))) :
    Calls Tryz.prog 56 #[.pointer (some ⟨u, 0, none⟩), .iface 163 (.pointer (some (s 13)))] w fun e w' => e = .returned (.iface 163 (.pointer (some (s 13)))) ∧ ChgS (fun k => k = u) w w' := by
  have c5 : w.cell? ⟨u, 5, none⟩ = some (.bool fell) := cell_of_heap h 5
  have f5 := frozen_of_heap h 5
  have gD := (sent_err s w hs).2.2.2
  have HS : Hid (ChgS (fun k => k = u) w (w.setCell ⟨u, 5, none⟩ (.bool true))) := Lib.hid ((ChgS.refl (fun k => k = u) w).setCell (ad := ⟨u, 5, none⟩) (.inl rfl) _)
  have hn := is_sent s 13 13 w hs (by omega) (by omega)
  rw [decide_eq_true rfl] at hn
  have HN := Lib.hid hn
  clear h hs hn
  cases fell
  · go_enter Tryz.func56, Tryz.ntmps56
    go_wp2_with fail
    refine (HN.out).mono ?_
    rintro e w1 ⟨rfl, rfl⟩
    go_wp2_with fail
    go_ret
    exact ⟨rfl, HS.out⟩
  · go_enter Tryz.func56, Tryz.ntmps56
    go_wp2_with fail
    go_ret
    exact ⟨rfl, HS.out⟩

set_option maxHeartbeats 1600000 in
set_option maxRecDepth 100000 in
/-- The snapshot that the blocks of an area hold. -/
theorem snapOf_c (s : Nat → Addr) (B c : Nat) (A : Option Addr) (zs : List ByteArray) (w : World) (hs : Sent s w) (hl : zs.length ≤ 9223372036854775807) (hc : zs.length ≤ c) (h : SRow w B A zs) (hB : B ≤ w.heap.size) :
    Calls Tryz.prog 69 #[.slice A zs.length c] w fun e w' => e = .returned (.agg #[.string (bst (snapF (rows zs)).2), .int .i64 ((snapF (rows zs)).1 : Int)]) ∧ Below w.heap.size w w' := by
  have HRD : Hid (∀ W, Below w.heap.size w W → Calls Tryz.prog 59 #[.slice A zs.length c] W fun e w' => ReadV s w' e (readF (rows zs)) ∧ Below W.heap.size W w') := Lib.hid fun W hW =>
    read_c s B c A zs W (hs.below hW (Nat.le_refl _)) hl hc (h.below hW hB) (Nat.le_trans hB hW.size)
  have HK : Hid (∀ w3, Below (w.alloc (.cells #[.string ⟨#[]⟩, .int .i64 0] 105)).heap.size (w.alloc (.cells #[.string ⟨#[]⟩, .int .i64 0] 105)) w3 → w3.heap[w.heap.size]? = some (.cells #[.string ⟨#[]⟩, .int .i64 0] 105 (0, 0)) ∧ Below w.heap.size w w3) := Lib.hid fun w3 hb =>
    ⟨(hb.block _ (by rw [World.size_alloc]; omega)).trans (heap_alloc_new w _), ((Below.refl _ w).alloc (Nat.le_refl _) _).trans (hb.mono (by rw [World.size_alloc]; omega))⟩
  clear hs h
  cases hr : readF (rows zs) with
  | error k =>
    rw [hr] at HRD
    rw [snapF_err hr]
    clear hr
    go_enter Tryz.func69, Tryz.ntmps69
    go_wp2_with fail
    refine (HRD.out _ (by (repeat' (first | (with_reducible exact Below.refl _ _) | (with_reducible refine below_drewN ?_ _) | (with_reducible refine Below.drew ?_) | (with_reducible refine Below.alloc ?_ ?_ _) | (with_reducible refine Below.setCell ?_ ?_ _) | (with_reducible refine Below.trans ?_ (Below.mono (by with_reducible assumption) ?_)) | omega | (simp only [World.size_alloc, World.size_setCell, World.size_drew, Go.Proofs.YtmfchjbpbfkgiaaGreatDoor.World.size_drewN] at *; omega) | (with_reducible refine Below.size (B := 0) ?_))))).mono ?_
    rintro e w3 ⟨⟨ev, he, gf, rfl, _⟩, b3⟩
    subst he
    obtain ⟨hk, hb⟩ := HK.out _ b3
    have c0 : w3.cell? ⟨w.heap.size, 0, none⟩ = some (.string ⟨#[]⟩) := cell_of_heap hk 0
    have c1 : w3.cell? ⟨w.heap.size, 1, none⟩ = some (.int .i64 0) := cell_of_heap hk 1
    have f0 := frozen_of_heap hk 0
    have f1 := frozen_of_heap hk 1
    have HB := Lib.hid hb
    have hsz := hb.size
    clear b3 hb
    go_wp2_with fail
    have e0 : ((w3.setCell ⟨w.heap.size, 0, none⟩ (.string ⟨#[]⟩)).setCell ⟨w.heap.size, 1, none⟩ (.int .i64 0)).cell? ⟨w.heap.size, 0, none⟩ = some (.string ⟨#[]⟩) := cell_of_heap (set_cells (set_cells hk)) 0
    have e1 : ((w3.setCell ⟨w.heap.size, 0, none⟩ (.string ⟨#[]⟩)).setCell ⟨w.heap.size, 1, none⟩ (.int .i64 0)).cell? ⟨w.heap.size, 1, none⟩ = some (.int .i64 0) := cell_of_heap (set_cells (set_cells hk)) 1
    refine bodyPost_ret (v := .agg #[.string ⟨#[]⟩, .int .i64 0]) (by simp [results, Tryz.results69, go_sem, e0, e1]) rfl ⟨rfl, (HB.out.setCell (Nat.le_refl _) _).setCell (Nat.le_refl _) _⟩
  | ok r =>
    obtain ⟨x, q, n⟩ := r
    rw [hr] at HRD
    rw [snapF_ok hr]
    clear hr
    go_enter Tryz.func69, Tryz.ntmps69
    go_wp2_with fail
    refine (HRD.out _ (by (repeat' (first | (with_reducible exact Below.refl _ _) | (with_reducible refine below_drewN ?_ _) | (with_reducible refine Below.drew ?_) | (with_reducible refine Below.alloc ?_ ?_ _) | (with_reducible refine Below.setCell ?_ ?_ _) | (with_reducible refine Below.trans ?_ (Below.mono (by with_reducible assumption) ?_)) | omega | (simp only [World.size_alloc, World.size_setCell, World.size_drew, Go.Proofs.YtmfchjbpbfkgiaaGreatDoor.World.size_drewN] at *; omega) | (with_reducible refine Below.size (B := 0) ?_))))).mono ?_
    rintro e w3 ⟨he, b3⟩
    have he : e = _ := he
    subst he
    obtain ⟨hk, hb⟩ := HK.out _ b3
    have c0 : w3.cell? ⟨w.heap.size, 0, none⟩ = some (.string ⟨#[]⟩) := cell_of_heap hk 0
    have c1 : w3.cell? ⟨w.heap.size, 1, none⟩ = some (.int .i64 0) := cell_of_heap hk 1
    have f0 := frozen_of_heap hk 0
    have f1 := frozen_of_heap hk 1
    have HB := Lib.hid hb
    clear b3 hb
    go_wp2_with fail
    have e0 : ((w3.setCell ⟨w.heap.size, 0, none⟩ (.string (bst x))).setCell ⟨w.heap.size, 1, none⟩ (.int .i64 (q : Int))).cell? ⟨w.heap.size, 0, none⟩ = some (.string (bst x)) := cell_of_heap (set_cells (set_cells hk)) 0
    have e1 : ((w3.setCell ⟨w.heap.size, 0, none⟩ (.string (bst x))).setCell ⟨w.heap.size, 1, none⟩ (.int .i64 (q : Int))).cell? ⟨w.heap.size, 1, none⟩ = some (.int .i64 (q : Int)) := cell_of_heap (set_cells (set_cells hk)) 1
    refine bodyPost_ret (v := .agg #[.string (bst x), .int .i64 (q : Int)]) (by simp [results, Tryz.results69, go_sem, e0, e1]) rfl ⟨rfl, (HB.out.setCell (Nat.le_refl _) _).setCell (Nat.le_refl _) _⟩
end Go.Proofs.YtmfchjbpbfkgiaaGreatDoor
