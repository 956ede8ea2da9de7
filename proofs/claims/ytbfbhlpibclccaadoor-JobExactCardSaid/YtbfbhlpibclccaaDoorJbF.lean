/- The program's table of jobs by contracts: find, Put, Wait, Where, Drop, Of. Conditions: the table lies in memory as its map has it; the sentinels lie where the program's text lays them. -/
import Derived.Test.YtbfbhlpibclccaaDoorJbA
import Derived.Deep.DeepCutAuto
import Derived.Deep.CutBlock
namespace Go.Proofs.YtbfbhlpibclccaaDoor
open Go Go.RowKit Go.Maps

section
variable {w : World} {P : Nat → Prop} {q b : Nat} {T : List (Int × Option EN)} {bl : Int → Nat} {L : List JE}
theorem JbP.cell (h : JbP w P q b T bl L) {e : JE} (he : e ∈ L) {k : Nat} (hk : k < e.pl.length) : w.cell? ⟨bl e.job.id, k, none⟩ = some (.int .i64 (plAt e k)) ∧ w.frozen? ⟨bl e.job.id, k, none⟩ = false := by
  obtain ⟨g, cap, hv, _, _, _, hf, hc⟩ := (h.rows e he).some (by omega)
  simp only [Value.slice.injEq, Option.some.injEq, Addr.mk.injEq, and_true] at hv
  obtain ⟨rfl, _⟩ := hv
  have := hc k _ (plAt_lt hk) 0 _ rfl
  rw [Nat.mul_one, Nat.add_zero] at this
  exact ⟨this, hf k⟩
/-- A task is put elsewhere. -/
theorem JbP.moved (h : JbP w P q b T bl L) {id : Int} {e : JE} (k : findJ L id = some e) {j : Nat} (hj : j < e.pl.length) {p : Int} (hp : -1 ≤ p) :
    JbP (w.setCell ⟨bl id, j, none⟩ (.int .i64 p)) P q b T bl (setJ L id j p) := by
  have hm := findJ_mem h.good k
  have hid := findJ_id h.good k
  have hst := (h.rows e hm).stored (i := j) (r := 0) (x' := p) (u := .int .i64 p) (plAt_lt hj) (by decide) rfl
  rw [Nat.mul_one, Nat.add_zero, List.length_set, hid] at hst
  have other : ∀ i, i ≠ bl id → (w.setCell ⟨bl id, j, none⟩ (.int .i64 p)).heap[i]? = w.heap[i]? := fun i hi => heap_setCell_other _ _ _ _ hi
  have hb := h.rb hm
  have hq := h.qr hm
  rw [hid] at hb hq
  have hmem : ∀ f ∈ setJ L id j p, ∃ z ∈ L, f = (if z.job.id = id then ⟨z.job, z.pl.set j p⟩ else z) ∧ f.job = z.job := fun f hf => by
    obtain ⟨z, hz, rfl⟩ := List.mem_map.1 hf
    exact ⟨z, hz, rfl, setJ_id id j p z⟩
  refine ⟨(other q hq.symm).trans h.box, h.m.same (other b hb.symm), fun i => ?_, fun f hf => ?_, fun f hf f' hf' hff => ?_, h.good.setJ id j hp, h.pq, h.pb, fun f hf => ?_, fun i hi => by simpa [World.setCell] using h.old i hi⟩
  · rw [h.ents, findJ_set]
    cases hi : findJ L i with
    | none => rfl
    | some z =>
      simp only [Option.map_some]
      congr 2
      unfold enOf
      split <;> simp
  · obtain ⟨z, hz, rfl, hjob⟩ := hmem f hf
    by_cases hzi : z.job.id = id
    · have hze : z = e := by
        have := (findJ_iff h.good).2 ⟨hz, hzi⟩
        rw [k] at this; exact (Option.some.inj this).symm
      subst hze
      rw [if_pos hzi]
      simp only [List.length_set]
      rw [hzi]
      exact hst
    · rw [if_neg hzi]
      refine (h.rows z hz).same fun i hi => ?_
      simp [Value.ownBlock] at hi; subst hi
      exact other _ fun e2 => hzi (by have := h.inj z hz e hm (by rw [hid]; exact e2); rw [this, hid])
  · obtain ⟨z, hz, rfl, e1⟩ := hmem f hf
    obtain ⟨z', hz', rfl, e2⟩ := hmem f' hf'
    rw [e1, e2] at hff ⊢
    exact h.inj z hz z' hz' hff
  · obtain ⟨z, hz, rfl, e1⟩ := hmem f hf
    rw [e1]; exact h.pr z hz
end
/-- What find looks at. -/
def FndS (b X q : Nat) (t : Tk) (v : Value) (r : Bool) (W : World) : Prop :=
  W.cell? ⟨q, 0, none⟩ = some (.map (some b)) ∧ W.cell? ⟨X, 0, none⟩ = some (.int .i64 t.job) ∧ W.cell? ⟨X, 1, none⟩ = some (.int .i64 t.ix) ∧ (Instr.lookup 96 (.map (some b)) (.int .i64 t.job) true).run Tryd.prog W = .ok (.tuple #[v, .bool r]) W
theorem errs_at (s : Nat → Addr) {w : World} (hs : Sent s w) (W : World) (hb : Below w.heap.size w W) : W.cell? ⟨1, 0, none⟩ = some (.iface 201 (.pointer (some (s 0)))) ∧ W.cell? ⟨4, 0, none⟩ = some (.iface 201 (.pointer (some (s 4)))) ∧ W.cell? ⟨12, 0, none⟩ = some (.iface 201 (.pointer (some (s 12)))) ∧ W.cell? ⟨0, 0, none⟩ = some (.iface 201 (.pointer (some (s 1)))) := by
  have hs' := hs.below hb (Nat.le_refl _)
  have e0 := hs'.cell 0 (by omega)
  have e1 := hs'.cell 1 (by omega)
  have e4 := hs'.cell 4 (by omega)
  have e12 := hs'.cell 12 (by omega)
  simp only [gnum, List.getD_cons_zero, List.getD_cons_succ] at e0 e1 e4 e12
  exact ⟨e0, e4, e12, e1⟩
section
variable {w : World} {P : Nat → Prop} {q b : Nat} {T : List (Int × Option EN)} {bl : Int → Nat} {L : List JE}
set_option maxRecDepth 100000 in
set_option maxHeartbeats 3200000 in
/-- A task is found. -/
theorem jfind_ok (h : JbP w P q b T bl L) {job : Int} {k : Nat} (ht : i64 job) {e : JE} (he : findJ L job = some e) (hk : k < e.pl.length) :
    Calls Tryd.prog 43 #[.pointer (some ⟨q, 0, none⟩), .agg #[.int .i64 job, .int .i64 (k : Int)]] w fun r w' => r = .returned (.tuple #[.pointer (some ⟨bl job, k, none⟩), .nilIface]) ∧ Below w.heap.size w w' := by
  obtain ⟨y, hy⟩ : ∃ y, enOf bl e = y := ⟨_, rfl⟩
  obtain ⟨X, hX⟩ : ∃ X, w.heap.size = X := ⟨_, rfl⟩
  obtain ⟨W1, hW1⟩ : ∃ W1, w.alloc (.cells #[.int .i64 job, .int .i64 (k : Int)] 35) = W1 := ⟨_, rfl⟩
  have hb1 : Below w.heap.size w W1 := by rw [← hW1]; exact (Below.refl _ _).alloc (Nat.le_refl _) _
  have hx1 : W1.heap[X]? = some (.cells #[.int .i64 job, .int .i64 (k : Int)] 35 (0, 0)) := by rw [← hW1, ← hX]; exact heap_alloc_new _ _
  have HS : Hid (∀ W, Below W1.heap.size W1 W → FndS b X q ⟨job, (k : Int)⟩ (encEv y) true W) := Lib.hid fun W hb => by
    have hx2 := (hb.block X (lt_of_row hx1)).trans hx1
    have h2 := (h.on hb1).on hb
    exact ⟨cell_of_heap h2.box 0, cell_of_heap hx2 0, cell_of_heap hx2 1, h2.lk ht (x := some y) (by rw [he]; simp [hy]) (by rw [he]; rfl)⟩
  have hg : y.g = bl job := by rw [← hy]; unfold enOf; rw [findJ_id h.good he]
  have hn : y.n = e.pl.length := by rw [← hy]; rfl
  rw [← hg]
  have hkn : k < y.n := by omega
  have k0 : (0 : Int) ≤ (k : Int) := by omega
  have k1 : (k : Int) < (y.n : Int) := by omega
  have HB1 := Lib.hid hb1
  have HW1 := Lib.hid hW1
  have HXX := Lib.hid hX
  clear h he hk hy hg hn hb1 hx1 hW1 hX ht
  unfold FndS encEv at HS
  simp only at HS
  go_enter Tryd.func43, Tryd.ntmps43
  go_upto_region 1 with fail
  rw [HW1.out, HXX.out]
  go_wp2_with fail
  go_region_held3 (fun W => W.cell? ⟨q, 0, none⟩ = some (.map (some b)) ∧ W.cell? ⟨X, 0, none⟩ = some (.int .i64 job) ∧ W.cell? ⟨X, 1, none⟩ = some (.int .i64 (k : Int)) ∧ (Instr.lookup 96 (.map (some b)) (.int .i64 job) true).run Tryd.prog W = .ok (.tuple #[.agg #[.int .i64 y.job.id, .int .i64 y.job.tenant, .int .i64 y.job.cell, .int .i64 y.job.band, .int .i64 y.job.tasks, .int .i64 y.job.need.a, .int .i64 y.job.need.b, .int .i64 y.job.need.c, .int .i64 y.job.need.d, .int .i64 y.job.first, .int .i64 y.job.windows, .int .i64 y.job.budget, .bool y.job.env, .int .i64 y.job.set, .slice (some ⟨y.g, 0, none⟩) y.n y.n], .bool true]) W)
    (first | exact HS.out _ (by (repeat' (first | (with_reducible exact Below.refl _ _) | (with_reducible refine below_drewN ?_ _) | (with_reducible refine Below.drew ?_) | (with_reducible refine Below.alloc ?_ ?_ _) | (with_reducible refine Below.setCell ?_ ?_ _) | (with_reducible refine Below.trans ?_ (Below.mono (by with_reducible assumption) ?_)) | omega | (simp only [World.size_alloc, World.size_setCell, World.size_drew, Go.Proofs.YtbfbhlpibclccaaDoor.World.size_drewN] at *; omega) | (with_reducible refine Below.size (B := 0) ?_)))))
    (fail)
  all_goals go_wp2_with fail
  all_goals refine bodyPost_ret (v := .tuple #[.pointer (some ⟨y.g, k, none⟩), .nilIface]) (by simp [results, Tryd.results43, go_sem]) rfl ?_
  all_goals exact ⟨rfl, by have := HB1.out; (repeat' (first | (with_reducible exact Below.refl _ _) | (with_reducible refine below_drewN ?_ _) | (with_reducible refine Below.drew ?_) | (with_reducible refine Below.alloc ?_ ?_ _) | (with_reducible refine Below.setCell ?_ ?_ _) | (with_reducible refine Below.trans ?_ (Below.mono (by with_reducible assumption) ?_)) | omega | (simp only [World.size_alloc, World.size_setCell, World.size_drew, Go.Proofs.YtbfbhlpibclccaaDoor.World.size_drewN] at *; omega) | (with_reducible refine Below.size (B := 0) ?_)))⟩
set_option maxRecDepth 100000 in
set_option maxHeartbeats 3200000 in
/-- There is no such job. -/
theorem jfind_none (s : Nat → Addr) (h : JbP w P q b T bl L) (hs : Sent s w) {t : Tk} (ht : i64 t.job) (he : findJ L t.job = none) :
    Calls Tryd.prog 43 #[.pointer (some ⟨q, 0, none⟩), .agg #[.int .i64 t.job, .int .i64 t.ix]] w fun r w' => r = .returned (.tuple #[.pointer none, errV s 5]) ∧ Below w.heap.size w w' := by
  obtain ⟨job, ix⟩ := t
  simp only at *
  obtain ⟨X, hX⟩ : ∃ X, w.heap.size = X := ⟨_, rfl⟩
  obtain ⟨W1, hW1⟩ : ∃ W1, w.alloc (.cells #[.int .i64 job, .int .i64 ix] 35) = W1 := ⟨_, rfl⟩
  have hb1 : Below w.heap.size w W1 := by rw [← hW1]; exact (Below.refl _ _).alloc (Nat.le_refl _) _
  have hx1 : W1.heap[X]? = some (.cells #[.int .i64 job, .int .i64 ix] 35 (0, 0)) := by rw [← hW1, ← hX]; exact heap_alloc_new _ _
  have HS : Hid (∀ W, Below W1.heap.size W1 W → FndS b X q ⟨job, ix⟩ en0V false W) := Lib.hid fun W hb => by
    have hx2 := (hb.block X (lt_of_row hx1)).trans hx1
    have h2 := (h.on hb1).on hb
    exact ⟨cell_of_heap h2.box 0, cell_of_heap hx2 0, cell_of_heap hx2 1, h2.lk ht (x := none) (by rw [he]; rfl) (by rw [he]; rfl)⟩
  have HE : Hid (∀ W, Below W1.heap.size W1 W → W.cell? ⟨1, 0, none⟩ = some (.iface 201 (.pointer (some (s 0)))) ∧ W.cell? ⟨4, 0, none⟩ = some (.iface 201 (.pointer (some (s 4))))) := Lib.hid fun W hb => by
    obtain ⟨k1, k2, _⟩ := errs_at s hs W (hb1.trans (hb.mono hb1.size)); exact ⟨k1, k2⟩
  have HB1 := Lib.hid hb1
  have HW1 := Lib.hid hW1
  have HXX := Lib.hid hX
  rw [errA s 5 (by omega)]
  clear h hb1 hx1 hW1 hX ht he hs
  unfold FndS en0V at HS
  simp only at HS
  go_enter Tryd.func43, Tryd.ntmps43
  go_upto_region 1 with fail
  rw [HW1.out, HXX.out]
  go_wp2_with fail
  go_region_held3 (fun W => W.cell? ⟨q, 0, none⟩ = some (.map (some b)) ∧ W.cell? ⟨X, 0, none⟩ = some (.int .i64 job) ∧ W.cell? ⟨X, 1, none⟩ = some (.int .i64 ix) ∧ (Instr.lookup 96 (.map (some b)) (.int .i64 job) true).run Tryd.prog W = .ok (.tuple #[.agg #[.int .i64 0, .int .i64 0, .int .i64 0, .int .i64 0, .int .i64 0, .int .i64 0, .int .i64 0, .int .i64 0, .int .i64 0, .int .i64 0, .int .i64 0, .int .i64 0, .bool false, .int .i64 0, .slice none 0 0], .bool false]) W)
      (first | exact HS.out _ (by (repeat' (first | (with_reducible exact Below.refl _ _) | (with_reducible refine below_drewN ?_ _) | (with_reducible refine Below.drew ?_) | (with_reducible refine Below.alloc ?_ ?_ _) | (with_reducible refine Below.setCell ?_ ?_ _) | (with_reducible refine Below.trans ?_ (Below.mono (by with_reducible assumption) ?_)) | omega | (simp only [World.size_alloc, World.size_setCell, World.size_drew, Go.Proofs.YtbfbhlpibclccaaDoor.World.size_drewN] at *; omega) | (with_reducible refine Below.size (B := 0) ?_)))))
      (fail)
  all_goals go_wp2_with fail
  all_goals obtain ⟨W2, hW2⟩ : ∃ W2, W1.alloc (.cells #[.int .i64 0, .int .i64 0, .int .i64 0, .int .i64 0, .int .i64 0, .int .i64 0, .int .i64 0, .int .i64 0, .int .i64 0, .int .i64 0, .int .i64 0, .int .i64 0, .bool false, .int .i64 0, .slice none 0 0] 107) = W2 := ⟨_, rfl⟩
  all_goals obtain ⟨e0, e4⟩ := HE.out W2 (by rw [← hW2]; exact (Below.refl _ _).alloc (Nat.le_refl _) _)
  all_goals have HB2 : Hid (Below w.heap.size w W2) := Lib.hid (by rw [← hW2]; exact HB1.out.alloc HB1.out.size _)
  all_goals rw [hW2]
  all_goals clear hW2
  all_goals go_quiet (fail)
  all_goals go_wp2_with fail
  all_goals refine bodyPost_ret (v := .tuple #[.pointer none, .iface 201 (.pointer (some (s 4)))]) (by simp [results, Tryd.results43, go_sem]) rfl ?_
  all_goals exact ⟨rfl, by have := HB2.out; (repeat' (first | (with_reducible exact Below.refl _ _) | (with_reducible refine below_drewN ?_ _) | (with_reducible refine Below.drew ?_) | (with_reducible refine Below.alloc ?_ ?_ _) | (with_reducible refine Below.setCell ?_ ?_ _) | (with_reducible refine Below.trans ?_ (Below.mono (by with_reducible assumption) ?_)) | omega | (simp only [World.size_alloc, World.size_setCell, World.size_drew, Go.Proofs.YtbfbhlpibclccaaDoor.World.size_drewN] at *; omega) | (with_reducible refine Below.size (B := 0) ?_)))⟩
set_option maxRecDepth 100000 in
set_option maxHeartbeats 3200000 in
/-- The job has no such task. -/
theorem jfind_arg (s : Nat → Addr) (h : JbP w P q b T bl L) (hs : Sent s w) {t : Tk} (ht : i64 t.job) {e : JE} (he : findJ L t.job = some e) (hbad : t.ix < 0 ∨ (e.pl.length : Int) ≤ t.ix) :
    Calls Tryd.prog 43 #[.pointer (some ⟨q, 0, none⟩), .agg #[.int .i64 t.job, .int .i64 t.ix]] w fun r w' => r = .returned (.tuple #[.pointer none, errV s 1]) ∧ Below w.heap.size w w' := by
  obtain ⟨job, ix⟩ := t
  simp only at *
  obtain ⟨X, hX⟩ : ∃ X, w.heap.size = X := ⟨_, rfl⟩
  obtain ⟨W1, hW1⟩ : ∃ W1, w.alloc (.cells #[.int .i64 job, .int .i64 ix] 35) = W1 := ⟨_, rfl⟩
  have hb1 : Below w.heap.size w W1 := by rw [← hW1]; exact (Below.refl _ _).alloc (Nat.le_refl _) _
  have hx1 : W1.heap[X]? = some (.cells #[.int .i64 job, .int .i64 ix] 35 (0, 0)) := by rw [← hW1, ← hX]; exact heap_alloc_new _ _
  obtain ⟨y, hy⟩ : ∃ y, enOf bl e = y := ⟨_, rfl⟩
  have HS : Hid (∀ W, Below W1.heap.size W1 W → FndS b X q ⟨job, ix⟩ (encEv y) true W) := Lib.hid fun W hb => by
    have hx2 := (hb.block X (lt_of_row hx1)).trans hx1
    have h2 := (h.on hb1).on hb
    exact ⟨cell_of_heap h2.box 0, cell_of_heap hx2 0, cell_of_heap hx2 1, h2.lk ht (x := some y) (by rw [he]; simp [hy]) (by rw [he]; rfl)⟩
  have hn : y.n = e.pl.length := by rw [← hy]; rfl
  have hbad' : ix < 0 ∨ (y.n : Int) ≤ ix := by rw [hn]; exact hbad
  clear hbad hn hy
  have HE : Hid (∀ W, Below W1.heap.size W1 W → W.cell? ⟨1, 0, none⟩ = some (.iface 201 (.pointer (some (s 0)))) ∧ W.cell? ⟨4, 0, none⟩ = some (.iface 201 (.pointer (some (s 4))))) := Lib.hid fun W hb => by
    obtain ⟨k1, k2, _⟩ := errs_at s hs W (hb1.trans (hb.mono hb1.size)); exact ⟨k1, k2⟩
  have HB1 := Lib.hid hb1
  have HW1 := Lib.hid hW1
  have HXX := Lib.hid hX
  rw [errA s 1 (by omega)]
  clear h hb1 hx1 hW1 hX ht he hs
  unfold FndS encEv at HS
  simp only at HS
  by_cases hneg : ix < 0
  · clear hbad'
    go_enter Tryd.func43, Tryd.ntmps43
    go_upto_region 1 with fail
    rw [HW1.out, HXX.out]
    go_wp2_with fail
    go_region_held3 (fun W => W.cell? ⟨q, 0, none⟩ = some (.map (some b)) ∧ W.cell? ⟨X, 0, none⟩ = some (.int .i64 job) ∧ W.cell? ⟨X, 1, none⟩ = some (.int .i64 ix) ∧ (Instr.lookup 96 (.map (some b)) (.int .i64 job) true).run Tryd.prog W = .ok (.tuple #[.agg #[.int .i64 y.job.id, .int .i64 y.job.tenant, .int .i64 y.job.cell, .int .i64 y.job.band, .int .i64 y.job.tasks, .int .i64 y.job.need.a, .int .i64 y.job.need.b, .int .i64 y.job.need.c, .int .i64 y.job.need.d, .int .i64 y.job.first, .int .i64 y.job.windows, .int .i64 y.job.budget, .bool y.job.env, .int .i64 y.job.set, .slice (some ⟨y.g, 0, none⟩) y.n y.n], .bool true]) W)
        (first | exact HS.out _ (by (repeat' (first | (with_reducible exact Below.refl _ _) | (with_reducible refine below_drewN ?_ _) | (with_reducible refine Below.drew ?_) | (with_reducible refine Below.alloc ?_ ?_ _) | (with_reducible refine Below.setCell ?_ ?_ _) | (with_reducible refine Below.trans ?_ (Below.mono (by with_reducible assumption) ?_)) | omega | (simp only [World.size_alloc, World.size_setCell, World.size_drew, Go.Proofs.YtbfbhlpibclccaaDoor.World.size_drewN] at *; omega) | (with_reducible refine Below.size (B := 0) ?_)))))
        (fail)
    all_goals go_wp2_with fail
    all_goals obtain ⟨W2, hW2⟩ : ∃ W2, W1.alloc (.cells #[.int .i64 y.job.id, .int .i64 y.job.tenant, .int .i64 y.job.cell, .int .i64 y.job.band, .int .i64 y.job.tasks, .int .i64 y.job.need.a, .int .i64 y.job.need.b, .int .i64 y.job.need.c, .int .i64 y.job.need.d, .int .i64 y.job.first, .int .i64 y.job.windows, .int .i64 y.job.budget, .bool y.job.env, .int .i64 y.job.set, .slice (some ⟨y.g, 0, none⟩) y.n y.n] 107) = W2 := ⟨_, rfl⟩
    all_goals obtain ⟨e0, e4⟩ := HE.out W2 (by rw [← hW2]; exact (Below.refl _ _).alloc (Nat.le_refl _) _)
    all_goals have HB2 : Hid (Below w.heap.size w W2) := Lib.hid (by rw [← hW2]; exact HB1.out.alloc HB1.out.size _)
    all_goals rw [hW2]
    all_goals clear hW2
    all_goals go_quiet (fail)
    all_goals go_wp2_with fail
    all_goals refine bodyPost_ret (v := .tuple #[.pointer none, .iface 201 (.pointer (some (s 0)))]) (by simp [results, Tryd.results43, go_sem]) rfl ?_
    all_goals exact ⟨rfl, by have := HB2.out; (repeat' (first | (with_reducible exact Below.refl _ _) | (with_reducible refine below_drewN ?_ _) | (with_reducible refine Below.drew ?_) | (with_reducible refine Below.alloc ?_ ?_ _) | (with_reducible refine Below.setCell ?_ ?_ _) | (with_reducible refine Below.trans ?_ (Below.mono (by with_reducible assumption) ?_)) | omega | (simp only [World.size_alloc, World.size_setCell, World.size_drew, Go.Proofs.YtbfbhlpibclccaaDoor.World.size_drewN] at *; omega) | (with_reducible refine Below.size (B := 0) ?_)))⟩

  · have hge : (y.n : Int) ≤ ix := by omega
    have h0 : 0 ≤ ix := by omega
    clear hbad'
    go_enter Tryd.func43, Tryd.ntmps43
    go_upto_region 1 with fail
    rw [HW1.out, HXX.out]
    go_wp2_with fail
    go_region_held3 (fun W => W.cell? ⟨q, 0, none⟩ = some (.map (some b)) ∧ W.cell? ⟨X, 0, none⟩ = some (.int .i64 job) ∧ W.cell? ⟨X, 1, none⟩ = some (.int .i64 ix) ∧ (Instr.lookup 96 (.map (some b)) (.int .i64 job) true).run Tryd.prog W = .ok (.tuple #[.agg #[.int .i64 y.job.id, .int .i64 y.job.tenant, .int .i64 y.job.cell, .int .i64 y.job.band, .int .i64 y.job.tasks, .int .i64 y.job.need.a, .int .i64 y.job.need.b, .int .i64 y.job.need.c, .int .i64 y.job.need.d, .int .i64 y.job.first, .int .i64 y.job.windows, .int .i64 y.job.budget, .bool y.job.env, .int .i64 y.job.set, .slice (some ⟨y.g, 0, none⟩) y.n y.n], .bool true]) W)
        (first | exact HS.out _ (by (repeat' (first | (with_reducible exact Below.refl _ _) | (with_reducible refine below_drewN ?_ _) | (with_reducible refine Below.drew ?_) | (with_reducible refine Below.alloc ?_ ?_ _) | (with_reducible refine Below.setCell ?_ ?_ _) | (with_reducible refine Below.trans ?_ (Below.mono (by with_reducible assumption) ?_)) | omega | (simp only [World.size_alloc, World.size_setCell, World.size_drew, Go.Proofs.YtbfbhlpibclccaaDoor.World.size_drewN] at *; omega) | (with_reducible refine Below.size (B := 0) ?_)))))
        (fail)
    all_goals go_wp2_with fail
    all_goals obtain ⟨W2, hW2⟩ : ∃ W2, W1.alloc (.cells #[.int .i64 y.job.id, .int .i64 y.job.tenant, .int .i64 y.job.cell, .int .i64 y.job.band, .int .i64 y.job.tasks, .int .i64 y.job.need.a, .int .i64 y.job.need.b, .int .i64 y.job.need.c, .int .i64 y.job.need.d, .int .i64 y.job.first, .int .i64 y.job.windows, .int .i64 y.job.budget, .bool y.job.env, .int .i64 y.job.set, .slice (some ⟨y.g, 0, none⟩) y.n y.n] 107) = W2 := ⟨_, rfl⟩
    all_goals obtain ⟨e0, e4⟩ := HE.out W2 (by rw [← hW2]; exact (Below.refl _ _).alloc (Nat.le_refl _) _)
    all_goals have HB2 : Hid (Below w.heap.size w W2) := Lib.hid (by rw [← hW2]; exact HB1.out.alloc HB1.out.size _)
    all_goals rw [hW2]
    all_goals clear hW2
    all_goals go_quiet (fail)
    all_goals go_wp2_with fail
    all_goals refine bodyPost_ret (v := .tuple #[.pointer none, .iface 201 (.pointer (some (s 0)))]) (by simp [results, Tryd.results43, go_sem]) rfl ?_
    all_goals exact ⟨rfl, by have := HB2.out; (repeat' (first | (with_reducible exact Below.refl _ _) | (with_reducible refine below_drewN ?_ _) | (with_reducible refine Below.drew ?_) | (with_reducible refine Below.alloc ?_ ?_ _) | (with_reducible refine Below.setCell ?_ ?_ _) | (with_reducible refine Below.trans ?_ (Below.mono (by with_reducible assumption) ?_)) | omega | (simp only [World.size_alloc, World.size_setCell, World.size_drew, Go.Proofs.YtbfbhlpibclccaaDoor.World.size_drewN] at *; omega) | (with_reducible refine Below.size (B := 0) ?_)))⟩
end
set_option maxRecDepth 100000 in
/-- .. of no table. -/
theorem jfind_nil (s : Nat → Addr) (w : World) (hs : Sent s w) (t : Tk) :
    Calls Tryd.prog 43 #[.pointer none, .agg #[.int .i64 t.job, .int .i64 t.ix]] w fun r w' => r = .returned (.tuple #[.pointer none, errV s 2]) ∧ Below w.heap.size w w' := by
  have hb1 : Below w.heap.size w (w.alloc (.cells #[.int .i64 t.job, .int .i64 t.ix] 35)) := (Below.refl _ _).alloc (Nat.le_refl _) _
  obtain ⟨_, _, _, e1⟩ := errs_at s hs _ hb1
  rw [errA s 2 (by omega)]
  have HB1 := Lib.hid hb1
  clear hs hb1
  go_enter Tryd.func43, Tryd.ntmps43
  go_wp2
  go_quiet (fail)
  go_wp2_with fail
  refine bodyPost_ret (v := .tuple #[.pointer none, .iface 201 (.pointer (some (s 1)))]) (by simp [results, Tryd.results43, go_sem]) rfl ?_
  exact ⟨rfl, by have := HB1.out; (repeat' (first | (with_reducible exact Below.refl _ _) | (with_reducible refine below_drewN ?_ _) | (with_reducible refine Below.drew ?_) | (with_reducible refine Below.alloc ?_ ?_ _) | (with_reducible refine Below.setCell ?_ ?_ _) | (with_reducible refine Below.trans ?_ (Below.mono (by with_reducible assumption) ?_)) | omega | (simp only [World.size_alloc, World.size_setCell, World.size_drew, Go.Proofs.YtbfbhlpibclccaaDoor.World.size_drewN] at *; omega) | (with_reducible refine Below.size (B := 0) ?_)))⟩
end Go.Proofs.YtbfbhlpibclccaaDoor
