/- Contracts of a log's small methods: Next, Room, Records. Conditions: the sentinels lie as the program's text lays them; the log lies in memory (LogMem). -/
import Derived.Test.YtaibmdjcppeopaaGreatDoorLgC
import Derived.Test.YtaibmdjcppeopaaGreatDoorLgS
import Derived.IntWalk
import Derived.Lib.SliceRun
namespace Go.Proofs.YtaibmdjcppeopaaGreatDoor
open Go Go.RowKit

theorem errV_zero (s : Nat → Addr) : errV s 0 = .nilIface := rfl
theorem errV_pos (s : Nat → Addr) (k : Nat) : errV s (k + 1) = .iface 157 (.pointer (some (s k))) := rfl

theorem LogMem.cells {w : World} {B q p g cap : Nat} {d : DS} {a m b : Nat} {v : Value} {rs : List (List UInt8)} {fell : Bool} (h : LogMem w B q p g cap d a m b v rs fell) :
    w.cell? ⟨q, 0, none⟩ = some (.pointer (some ⟨p, 0, none⟩)) ∧ w.cell? ⟨q, 1, none⟩ = some (.int .i64 (a : Int)) ∧ w.cell? ⟨q, 2, none⟩ = some (.int .i64 ((a + m : Nat) : Int)) ∧ w.cell? ⟨q, 3, none⟩ = some (.int .i64 (b : Int)) ∧ w.cell? ⟨q, 4, none⟩ = some v ∧
    w.cell? ⟨q, 5, none⟩ = some (.int .i64 ((a + (layR b rs).length : Nat) : Int)) ∧ w.cell? ⟨q, 6, none⟩ = some (.bool fell) :=
  ⟨cell_of_heap h.blk 0, cell_of_heap h.blk 1, cell_of_heap h.blk 2, cell_of_heap h.blk 3, cell_of_heap h.blk 4, cell_of_heap h.blk 5, cell_of_heap h.blk 6⟩

/-- A world that differs in what was drawn alone. -/
structure Same (w w' : World) : Prop where
  os : w'.os = w.os
  tape : w'.tape = w.tape
  output : w'.output = w.output
  size : w'.heap.size = w.heap.size
  block : ∀ k : Nat, w'.heap[k]? = w.heap[k]?
theorem Same.chg {w w' : World} (h : Same w w') (S : Nat → Prop) : ChgS S w w' := ⟨h.os, h.tape, h.output, by rw [h.size]; exact Nat.le_refl _, fun k _ _ => h.block k⟩
theorem Same.below {w w' : World} (h : Same w w') (B : Nat) : Below B w w' := ⟨h.os, h.tape, h.output, by rw [h.size]; exact Nat.le_refl _, fun k _ => h.block k⟩
theorem Same.trans {a b c : World} (h : Same a b) (k : Same b c) : Same a c := ⟨k.os.trans h.os, k.tape.trans h.tape, k.output.trans h.output, k.size.trans h.size, fun i => (k.block i).trans (h.block i)⟩
theorem Same.drewN (w : World) (n : Nat) : Same w (w.drewN n) := ⟨rfl, rfl, rfl, rfl, fun _ => rfl⟩
theorem Same.drew (w : World) : Same w w.drew := ⟨rfl, rfl, rfl, rfl, fun _ => rfl⟩
theorem Same.thenN {w W : World} (h : Same w W) (n : Nat) : Same w (W.drewN n) := ⟨h.os, h.tape, h.output, h.size, h.block⟩
theorem Same.thenD {w W : World} (h : Same w W) : Same w W.drew := ⟨h.os, h.tape, h.output, h.size, h.block⟩
/-- Some cells of the block q. -/
def Cel (W : World) (q : Nat) (l : List (Nat × Value)) : Prop := ∀ x ∈ l, W.cell? ⟨q, x.1, none⟩ = some x.2
theorem Cel.drewN {W : World} {q : Nat} {l : List (Nat × Value)} (h : Cel W q l) (n : Nat) : Cel (W.drewN n) q l := h
theorem Cel.drew {W : World} {q : Nat} {l : List (Nat × Value)} (h : Cel W q l) : Cel W.drew q l := h
theorem Cel.two {W : World} {q i j : Nat} {x y : Value} (h : Cel W q [(i, x), (j, y)]) : W.cell? ⟨q, i, none⟩ = some x ∧ W.cell? ⟨q, j, none⟩ = some y := ⟨h (i, x) (by simp), h (j, y) (by simp)⟩
theorem Cel.three {W : World} {q i j k : Nat} {x y z : Value} (h : Cel W q [(i, x), (j, y), (k, z)]) : W.cell? ⟨q, i, none⟩ = some x ∧ W.cell? ⟨q, j, none⟩ = some y ∧ W.cell? ⟨q, k, none⟩ = some z := ⟨h (i, x) (by simp), h (j, y) (by simp), h (k, z) (by simp)⟩
theorem Cel.mk2 {W : World} {q i j : Nat} {x y : Value} (h1 : W.cell? ⟨q, i, none⟩ = some x) (h2 : W.cell? ⟨q, j, none⟩ = some y) : Cel W q [(i, x), (j, y)] := fun z hz => by
  simp only [List.mem_cons, List.not_mem_nil, or_false] at hz
  rcases hz with rfl | rfl
  · exact h1
  · exact h2
theorem Cel.mk3 {W : World} {q i j k : Nat} {x y z : Value} (h1 : W.cell? ⟨q, i, none⟩ = some x) (h2 : W.cell? ⟨q, j, none⟩ = some y) (h3 : W.cell? ⟨q, k, none⟩ = some z) : Cel W q [(i, x), (j, y), (k, z)] := fun u hu => by
  simp only [List.mem_cons, List.not_mem_nil, or_false] at hu
  rcases hu with rfl | rfl | rfl
  · exact h1
  · exact h2
  · exact h3
theorem Same.refl (w : World) : Same w w := ⟨rfl, rfl, rfl, rfl, fun _ => rfl⟩
theorem Same.set {w : World} {q j : Nat} {cs : Array Value} {t : TypeId} {x : Value} (h : w.heap[q]? = some (.cells cs t (0, 0))) (hx : cs[j]? = some x) : Same w (w.setCell ⟨q, j, none⟩ x) := by
  refine ⟨rfl, rfl, rfl, by simp [World.setCell], fun k => ?_⟩
  by_cases hk : k = q
  · subst hk
    rw [set_cells h, h]
    obtain ⟨h1, h2⟩ := Array.getElem?_eq_some_iff.1 hx
    have e : cs.setIfInBounds j x = cs := by
      apply Array.ext_getElem?
      intro i
      rw [Array.getElem?_setIfInBounds]
      by_cases hi : j = i
      · subst hi; rw [if_pos rfl, if_pos h1, hx]
      · rw [if_neg hi]
    rw [e]
  · exact Below.heap_setCell w ⟨q, j, none⟩ x k hk
theorem LogMem.same {w w' : World} {B q p g cap : Nat} {d : DS} {a m b : Nat} {v : Value} {rs : List (List UInt8)} {fell : Bool} (h : LogMem w B q p g cap d a m b v rs fell) (hs : Same w w') : LogMem w' B q p g cap d a m b v rs fell :=
  h.kept (hs.chg fun _ => False) fun _ _ hf => hf

set_option maxHeartbeats 1600000 in
set_option maxRecDepth 100000 in
theorem next_c (B q p g cap : Nat) (d : DS) (a m b : Nat) (v : Value) (rs : List (List UInt8)) (fell : Bool) (w : World) (h : LogMem w B q p g cap d a m b v rs fell) :
    Calls Tryz.prog 32 #[.pointer (some ⟨q, 0, none⟩)] w fun e w' => e = .returned (.int .i64 ((b + rs.length + 1 : Nat) : Int)) ∧ Same w w' := by
  obtain ⟨_, _, _, c3, c4, _, _⟩ := h.cells
  obtain ⟨z1, z2, z3⟩ := h.sizes
  have hb := h.base
  obtain ⟨A, c, rfl⟩ := own_form h.own
  clear h
  go_enter Tryz.func32, Tryz.ntmps32
  go_wp2_with fail
  go_region
  all_goals go_wp2_with fail
  all_goals go_ret
  all_goals exact ⟨ret_i (by omega), Same.drewN _ _⟩

set_option maxHeartbeats 1600000 in
set_option maxRecDepth 100000 in
theorem room_c (B q p g cap : Nat) (d : DS) (a m b : Nat) (v : Value) (rs : List (List UInt8)) (fell : Bool) (w : World) (h : LogMem w B q p g cap d a m b v rs fell) :
    Calls Tryz.prog 54 #[.pointer (some ⟨q, 0, none⟩)] w fun e w' => e = .returned (.int .i64 ((m - (layR b rs).length : Nat) : Int)) ∧ Same w w' := by
  obtain ⟨_, _, c2, _, _, c5, _⟩ := h.cells
  obtain ⟨z1, z2, z3⟩ := h.sizes
  clear h
  obtain ⟨u, hu⟩ : ∃ u, (layR b rs).length = u := ⟨_, rfl⟩
  rw [hu] at c5 z2 z3 ⊢
  clear hu
  go_enter Tryz.func54, Tryz.ntmps54
  go_wp2_with fail
  go_region
  all_goals go_wp2_with fail
  all_goals go_ret
  all_goals exact ⟨ret_i (by omega), Same.drewN _ _⟩

theorem Tryz.infoSt : ∃ i, Tryz.prog.info? 9 = some i ∧ i.zero = some (.string ⟨#[]⟩) ∧ i.size = 1 ∧ i.bytes = 16 := by
  obtain ⟨i, hi, h⟩ := Option.map_eq_some_iff.1 Tryz.infoS
  simp only [Prod.mk.injEq] at h
  exact ⟨i, hi, h.1, h.2.1, h.2.2⟩

set_option maxHeartbeats 1600000 in
set_option maxRecDepth 100000 in
/-- slices.Clone of an owned row of strings. -/
theorem clone_c (B : Nat) (v : Value) (F : List (List UInt8)) (w : World) (h : w.ownsRow B 9 1 v F.length (strVs F)) (hn : F = [] → v = .slice none 0 0) (hl : F.length ≤ 100000) :
    Calls Tryz.prog 48 #[v] w fun e w' => (∃ v', e = .returned v' ∧ w'.ownsRow w.heap.size 9 1 v' F.length (strVs F)) ∧ Below w.heap.size w w' := by
  have q24 : ∀ (w : World) (a : Option Addr) (n c n' c' : Nat), (binOp .eql 22 (.slice a n c) (.slice none n' c')).run Tryz.prog w = .ok (.bool a.isNone) w := fun w a n c n' c' => Lib.run_eql_slice_nil w _ _ a n c n' c' Tryz.underlying22
  by_cases h0 : F = []
  · subst h0
    rw [hn rfl]
    go_enter Tryz.func48, Tryz.ntmps48
    go_wp2_with fail
    go_ret
    exact ⟨⟨_, rfl, World.ownsRow_nil _ _ _ _⟩, Below.refl _ _⟩
  · have hpos : 0 < F.length := List.length_pos_iff.2 h0
    have hfull := h
    rcases h.2 with ⟨_, h1⟩ | ⟨gr, c, cur, rfl, hbg, hgg, hcc, hcm, hcs, htk⟩
    · omega
    · have hcell := hfull.cells (g := gr) rfl
      have hgl := (Array.getElem?_eq_some_iff.1 hgg).1
      obtain ⟨ti, hi, hz0, hz1, hz2⟩ := Tryz.infoSt
      have HC := Lib.hid hcell
      clear h hfull hgg hcs htk hcell hn
      go_enter Tryz.func48, Tryz.ntmps48
      go_wp2_with (at_builtin; refine wpList_append_own_at _ rfl _ _ 22 rfl w.heap.size 9 ti _ 1 16 Tryz.underlying22 hi hz0 hz1 hz2 rfl (by decide) _ 0 [] rfl (World.ownsRow_made w #[] 0 (Nat.le_refl _) (by unfold maxLen; omega) rfl) ⟨gr, 0, none⟩ F.length c (strVs F) rfl ?c0 ?c1 ?c2 ?c3 ?c4 ?c5 ?_)
      case c0 => rw [strVs_len, Nat.mul_one]
      case c1 =>
        intro j u hu
        have hx := HC.out j u hu
        exact (World.cell?_of_block (a := (⟨gr, 0, none⟩ : Addr).add j) (by rw [block_addS]; exact Below.heap_alloc w _ gr hgl)).trans hx
      case c2 => exact strVs_one F
      case c3 => unfold maxLen; omega
      case c4 => omega
      case c5 => rw [World.size_alloc]; omega
      intro v1 w4 o1 g1 _ _
      have HB : Hid (Below w.heap.size w w4) := Lib.hid (((Below.refl _ w).alloc (Nat.le_refl _) _).grown g1 (by rw [World.size_alloc]; omega) (fun k hk => by simp [Value.ownBlock] at hk; omega))
      have O1 := Lib.hid o1
      clear o1 g1
      go_wp2_with fail
      go_ret
      exact ⟨⟨_, rfl, O1.out⟩, HB.out⟩

set_option maxHeartbeats 1600000 in
set_option maxRecDepth 100000 in
theorem records_c (B q p g cap : Nat) (d : DS) (a m b : Nat) (v : Value) (rs : List (List UInt8)) (fell : Bool) (w : World) (h : LogMem w B q p g cap d a m b v rs fell) :
    Calls Tryz.prog 31 #[.pointer (some ⟨q, 0, none⟩)] w fun e w' => (∃ v', e = .returned v' ∧ w'.ownsRow w.heap.size 9 1 v' rs.length (strVs rs)) ∧ Below w.heap.size w w' := by
  obtain ⟨_, _, _, _, c4, _, _⟩ := h.cells
  obtain ⟨z1, z2, z3⟩ := h.sizes
  have hc := clone_c B v rs w h.own h.nil0 (by omega)
  have HC := Lib.hid hc
  clear h hc
  go_enter Tryz.func31, Tryz.ntmps31
  go_wp2_with fail
  refine (HC.out).mono ?_
  rintro e w1 ⟨⟨v1, rfl, o1⟩, b1⟩
  have O1 := Lib.hid o1; clear o1
  go_wp2_with fail
  go_ret
  exact ⟨⟨_, rfl, O1.out⟩, b1⟩
end Go.Proofs.YtaibmdjcppeopaaGreatDoor
