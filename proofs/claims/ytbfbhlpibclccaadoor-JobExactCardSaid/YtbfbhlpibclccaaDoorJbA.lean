/- The program's table of jobs in memory: a map of jobs and the rows of places; what it finds. Conditions: the table lies in memory as its map has it; the sentinels lie where the program's text lays them. -/
import Derived.Test.YtbfbhlpibclccaaDoorJbM
import Derived.Test.YtbfbhlpibclccaaDoorKeyN
import Derived.Test.YtbfbhlpibclccaaDoorTkE
import Derived.Test.YtbfbhlpibclccaaDoorChP
import Derived.Test.YtbfbhlpibclccaaDoorErrs
import Derived.Test.YtbfbhlpibclccaaDoorVecAdd
import Derived.IntWalk
import Derived.Deep.RegionHeld3
import Derived.Deep.QuietTactic
import Derived.StillTailTactics
import Derived.LoopTactic
import Derived.Lib.Hide
namespace Go.Proofs.YtbfbhlpibclccaaDoor
open Go Go.RowKit Go.Maps

/-- An entry, as the program has it: the job, the block of its places, how many. -/
structure EN where
  job : JR
  g : Nat
  n : Nat
instance : Inhabited EN := ⟨⟨⟨0, 0, 0, 0, 0, ⟨0, 0, 0, 0⟩, 0, 0, 0, false, 0⟩, 0, 0⟩⟩
def encJR : EncK JR 14 where
  enc x := #[.int .i64 x.id, .int .i64 x.tenant, .int .i64 x.cell, .int .i64 x.band, .int .i64 x.tasks, .int .i64 x.need.a, .int .i64 x.need.b, .int .i64 x.need.c, .int .i64 x.need.d, .int .i64 x.first, .int .i64 x.windows, .int .i64 x.budget, .bool x.env, .int .i64 x.set].toList
  len _ := rfl
  one x u hu := by simp at hu; rcases hu with rfl | rfl | rfl | rfl | rfl | rfl | rfl | rfl | rfl | rfl | rfl | rfl | rfl | rfl <;> rfl
def encEn : EncK EN 15 where
  enc x := #[.int .i64 x.job.id, .int .i64 x.job.tenant, .int .i64 x.job.cell, .int .i64 x.job.band, .int .i64 x.job.tasks, .int .i64 x.job.need.a, .int .i64 x.job.need.b, .int .i64 x.job.need.c, .int .i64 x.job.need.d, .int .i64 x.job.first, .int .i64 x.job.windows, .int .i64 x.job.budget, .bool x.job.env, .int .i64 x.job.set, .slice (some ⟨x.g, 0, none⟩) x.n x.n].toList
  len _ := rfl
  one x u hu := by simp at hu; rcases hu with rfl | rfl | rfl | rfl | rfl | rfl | rfl | rfl | rfl | rfl | rfl | rfl | rfl | rfl | rfl <;> rfl
def encEv (x : EN) : Value := .agg #[.int .i64 x.job.id, .int .i64 x.job.tenant, .int .i64 x.job.cell, .int .i64 x.job.band, .int .i64 x.job.tasks, .int .i64 x.job.need.a, .int .i64 x.job.need.b, .int .i64 x.job.need.c, .int .i64 x.job.need.d, .int .i64 x.job.first, .int .i64 x.job.windows, .int .i64 x.job.budget, .bool x.job.env, .int .i64 x.job.set, .slice (some ⟨x.g, 0, none⟩) x.n x.n]
/-- What a map of entries tells where there is none: cells that are no entry's. -/
def en0V : Value := .agg #[.int .i64 0, .int .i64 0, .int .i64 0, .int .i64 0, .int .i64 0, .int .i64 0, .int .i64 0, .int .i64 0, .int .i64 0, .int .i64 0, .int .i64 0, .int .i64 0, .bool false, .int .i64 0, .slice none 0 0]
theorem Tryd.zeroEn (w : World) : (zeroValue 107).run Tryd.prog w = .ok en0V w := Tryd.zeroValue107 w
/-- An entry or none of it, as a value. -/
def optV : Option EN → Value
  | none => en0V
  | some x => encEv x
/-- The jobs by number. -/
abbrev JobsAt (w : World) (b : Nat) (T : List (Int × Option EN)) : Prop := MapG Tryd.prog 3 (Lit.int .i64) i64 optV w b T
def enOf (bl : Int → Nat) (e : JE) : EN := ⟨e.job, bl e.job.id, e.pl.length⟩
/-- Block q is the program's table that has L; all its blocks are of P. -/
structure JbP (w : World) (P : Nat → Prop) (q b : Nat) (T : List (Int × Option EN)) (bl : Int → Nat) (L : List JE) : Prop where
  box : w.heap[q]? = some (.cells #[.map (some b)] 98 (0, 0))
  m : JobsAt w b T
  ents : ∀ id, look T id = (findJ L id).map fun e => some (enOf bl e)
  rows : ∀ e ∈ L, OwnE encI 3 w 0 (.slice (some ⟨bl e.job.id, 0, none⟩) e.pl.length e.pl.length) e.pl
  inj : ∀ e ∈ L, ∀ f ∈ L, bl e.job.id = bl f.job.id → e.job.id = f.job.id
  good : GJ L
  pq : P q
  pb : P b
  pr : ∀ e ∈ L, P (bl e.job.id)
  old : ∀ k, P k → k < w.heap.size
def JbW (w : World) (P : Nat → Prop) (q : Nat) (L : List JE) : Prop := ∃ b T bl, JbP w P q b T bl L
section
variable {w w' : World} {P : Nat → Prop} {q b : Nat} {T : List (Int × Option EN)} {bl : Int → Nat} {L : List JE}
theorem JbP.same (h : JbP w P q b T bl L) (hs : w.heap.size ≤ w'.heap.size) (hb : ∀ k, P k → w'.heap[k]? = w.heap[k]?) : JbP w' P q b T bl L where
  box := (hb q h.pq).trans h.box
  m := h.m.same (hb b h.pb)
  ents := h.ents
  rows := fun e he => (h.rows e he).same fun k hk => by simp [Value.ownBlock] at hk; subst hk; exact hb _ (h.pr e he)
  inj := h.inj
  good := h.good
  pq := h.pq
  pb := h.pb
  pr := h.pr
  old := fun k hk => Nat.lt_of_lt_of_le (h.old k hk) hs
theorem JbP.on (h : JbP w P q b T bl L) (hb : Below w.heap.size w w') : JbP w' P q b T bl L := h.same hb.size fun k hk => hb.block k (h.old k hk)
theorem JbP.far {R : Nat → Prop} (h : JbP w P q b T bl L) (hc : ChP R w w') (hR : ∀ k, P k → ¬ R k) : JbP w' P q b T bl L := h.same hc.size fun k hk => hc.block k (h.old k hk) (hR k hk)
theorem JbP.drew (h : JbP w P q b T bl L) : JbP w.drew P q b T bl L := h.on (Below.refl _ _).drew
theorem JbP.any (h : JbP w P q b T bl L) : JbW w P q L := ⟨_, _, _, h⟩
theorem JbW.on (h : JbW w P q L) (hb : Below w.heap.size w w') : JbW w' P q L := by obtain ⟨_, _, _, h⟩ := h; exact (h.on hb).any
theorem JbW.far {R : Nat → Prop} (h : JbW w P q L) (hc : ChP R w w') (hR : ∀ k, P k → ¬ R k) : JbW w' P q L := by obtain ⟨_, _, _, h⟩ := h; exact (h.far hc hR).any
theorem JbW.drew (h : JbW w P q L) : JbW w.drew P q L := h.on (Below.refl _ _).drew
theorem JbW.good (h : JbW w P q L) : GJ L := by obtain ⟨_, _, _, h⟩ := h; exact h.good
theorem JbW.old (h : JbW w P q L) : ∀ k, P k → k < w.heap.size := by obtain ⟨_, _, _, h⟩ := h; exact h.old
theorem JbP.lt (h : JbP w P q b T bl L) : q < w.heap.size := lt_of_row h.box
/-- Its blocks are apart. -/
theorem JbP.map (h : JbP w P q b T bl L) : ∃ es c, w.heap[b]? = some (.map es c) := by obtain ⟨D, ⟨es, c, hb, _⟩, _⟩ := h.m; exact ⟨es, c, hb⟩
theorem JbP.row (h : JbP w P q b T bl L) {e : JE} (he : e ∈ L) : ∃ cur, w.heap[bl e.job.id]? = some (.cells cur 3 (0, 0)) := by
  obtain ⟨cur, hh, _⟩ := ownE_raw (h.rows e he); exact ⟨cur, hh⟩
theorem JbP.qb (h : JbP w P q b T bl L) : q ≠ b := by intro e; obtain ⟨_, _, k⟩ := h.map; rw [← e, h.box] at k; cases k
theorem JbP.qr (h : JbP w P q b T bl L) {e : JE} (he : e ∈ L) : bl e.job.id ≠ q := by
  intro k; obtain ⟨_, k2⟩ := h.row he; rw [k, h.box] at k2
  simp at k2
theorem JbP.rb (h : JbP w P q b T bl L) {e : JE} (he : e ∈ L) : bl e.job.id ≠ b := by
  intro k; obtain ⟨_, k2⟩ := h.row he; obtain ⟨_, _, k3⟩ := h.map; rw [k, k3] at k2; cases k2
theorem JbP.hit (h : JbP w P q b T bl L) {id : Int} {e : JE} (k : findJ L id = some e) : look T id = some (some (enOf bl e)) := by rw [h.ents, k]; rfl
theorem JbP.miss (h : JbP w P q b T bl L) {id : Int} (k : findJ L id = none) : look T id = none := by rw [h.ents, k]; rfl
theorem JbP.keys (h : JbP w P q b T bl L) : (T.map (·.1)).Perm (L.map fun e => e.job.id) := by
  refine (List.perm_ext_iff_of_nodup h.m.apart.nodup h.good.nodup).2 fun x => ?_
  rw [← look_keys, h.ents]
  cases k : findJ L x with
  | none =>
    have := findJ_none.1 k
    simp only [Option.map_none, Option.isSome_none, Bool.false_eq_true, false_iff, List.mem_map, not_exists, not_and]
    exact this
  | some s =>
    have := (findJ_iff h.good).1 k
    simp only [Option.map_some, Option.isSome_some, true_iff, List.mem_map]
    exact ⟨s, this⟩
theorem JbP.len (h : JbP w P q b T bl L) : T.length = L.length := by have := h.keys.length_eq; simpa using this
theorem JbP.lk (h : JbP w P q b T bl L) {id : Int} (hid : i64 id) {x : Option EN} (hx : (findJ L id).map (enOf bl) = x) {r : Bool} (hr : (findJ L id).isSome = r) :
    (Instr.lookup 96 (.map (some b)) (.int .i64 id) true).run Tryd.prog w = .ok (.tuple #[optV x, .bool r]) w := by
  have := run_lookG_ok kitI Tryd.underlying96 (enc := optV) (z := none) (Tryd.zeroEn w) h.m hid
  rw [h.ents] at this
  subst hx
  subst hr
  cases k : findJ L id with
  | none => rw [k] at this; exact this
  | some e => rw [k] at this; exact this
end
theorem lk_nil (w : World) {id : Int} (hid : i64 id) : (Instr.lookup 96 (.map none) (.int .i64 id) true).run Tryd.prog w = .ok (.tuple #[en0V, .bool false]) w :=
  Maps.look_nil true kitI.keyed Tryd.underlying96 (Tryd.zeroEn w) (kitI.of hid)

/-- job.New. -/
theorem jnew_c (w : World) : Calls Tryd.prog 7 #[] w fun e w' => ∃ q, e = .returned (.pointer (some ⟨q, 0, none⟩)) ∧ JbW w' (fun k => w.heap.size ≤ k ∧ k < w'.heap.size) q [] ∧ Below w.heap.size w w' := by
  have hmm := @run_makeMap Tryd.prog
  go_enter Tryd.func7, Tryd.ntmps7
  go_wp2
  go_ret
  obtain ⟨W1, hW1⟩ : ∃ W1, w.alloc (.map #[] 0) = W1 := ⟨_, rfl⟩
  have s1 : W1.heap.size = w.heap.size + 1 := by rw [← hW1]; simp
  have m1 : JobsAt W1 w.heap.size [] := by rw [← hW1]; exact MapG.made _ _ _ _ _ _
  have b1 : Below w.heap.size w W1 := by rw [← hW1]; exact (Below.refl _ _).alloc (Nat.le_refl _) _
  rw [hW1]
  refine ⟨w.heap.size + 1, by simp, ⟨w.heap.size, [], fun _ => 0, ?_⟩, b1.alloc b1.size _⟩
  refine ⟨?_, m1.alloc _, fun _ => rfl, fun _ e => (by cases e), fun _ e => (by cases e), GJ.nil, ?_, ?_, fun _ e => (by cases e), fun k hk => hk.2⟩
  · rw [← s1]; exact heap_alloc_new _ _
  all_goals (simp [s1] <;> omega)

/-- What a table has. -/
theorem jknown_c (q b : Nat) (w : World) (h : w.heap[q]? = some (.cells #[.map (some b)] 98 (0, 0))) :
    Calls Tryd.prog 47 #[.pointer (some ⟨q, 0, none⟩)] w fun e w' => e = .returned (.map (some b)) ∧ w' = w := by
  have c0 := cell_of_heap h 0
  clear h
  go_enter Tryd.func47, Tryd.ntmps47
  go_wp2
  go_ret
  exact ⟨rfl, rfl⟩
/-- A nil table has nothing. -/
theorem jknown_nil (w : World) : Calls Tryd.prog 47 #[.pointer none] w fun e w' => e = .returned (.map none) ∧ w' = w := by
  go_enter Tryd.func47, Tryd.ntmps47
  go_wp2
  go_ret
  exact ⟨rfl, rfl⟩

/-! ### the sentinels, as long as only the table's blocks turn -/
def SentP (s : Nat → Addr) (P : Nat → Prop) (w : World) : Prop := ∀ W, ChP P w W → Sent s W
theorem SentP.here {s : Nat → Addr} {P : Nat → Prop} {w : World} (h : SentP s P w) : Sent s w := h w (ChP.refl _ _)
theorem SentP.chp {s : Nat → Addr} {P Q : Nat → Prop} {w w' : World} (h : SentP s P w) (hc : ChP P w w') (hQ : ∀ i, Q i → P i ∨ w.heap.size ≤ i) : SentP s Q w' := fun W hW => h W (hc.trans hW hQ)
theorem SentP.on {s : Nat → Addr} {P : Nat → Prop} {w w' : World} (h : SentP s P w) (hb : Below w.heap.size w w') : SentP s P w' := h.chp (ChP.of_below hb) fun _ h => .inl h
theorem SentP.of {s : Nat → Addr} {P : Nat → Prop} {w0 w : World} (h : Sent s w0) (hb : Below w0.heap.size w0 w) (hP : ∀ k, P k → w0.heap.size ≤ k) : SentP s P w := fun _ hW => h.below (hb.trans (hW.below hP hb.size)) (Nat.le_refl _)
theorem errA (s : Nat → Addr) (k : Nat) (h : 0 < k) : errV s k = .iface 201 (.pointer (some (s (k - 1)))) := by unfold errV; rw [if_neg (by omega)]
theorem errA0 (s : Nat → Addr) : errV s 0 = .nilIface := rfl

/-! ### has -/
set_option maxRecDepth 100000 in
set_option maxHeartbeats 1600000 in
theorem jhas_go (m : Option Nat) (id : Int) (x : Option EN) (r : Bool) (w : World) (hl : ∀ W, Below w.heap.size w W → (Instr.lookup 96 (.map m) (.int .i64 id) true).run Tryd.prog W = .ok (.tuple #[optV x, .bool r]) W) :
    Calls Tryd.prog 42 #[.map m, .int .i64 id] w fun e w' => e = .returned (.bool r) ∧ Below w.heap.size w w' := by
  have HL := hl w (Below.refl _ _)
  clear hl
  cases x with
  | none =>
    unfold optV en0V at HL
    go_enter Tryd.func42, Tryd.ntmps42
    go_wp2_with fail
    go_ret
    exact ⟨rfl, by (repeat' (first | (with_reducible exact Below.refl _ _) | (with_reducible refine below_drewN ?_ _) | (with_reducible refine Below.drew ?_) | (with_reducible refine Below.alloc ?_ ?_ _) | (with_reducible refine Below.setCell ?_ ?_ _) | (with_reducible refine Below.trans ?_ (Below.mono (by with_reducible assumption) ?_)) | omega | (simp only [World.size_alloc, World.size_setCell, World.size_drew, Go.Proofs.YtbfbhlpibclccaaDoor.World.size_drewN] at *; omega) | (with_reducible refine Below.size (B := 0) ?_)))⟩
  | some y =>
    unfold optV encEv at HL
    simp only at HL
    go_enter Tryd.func42, Tryd.ntmps42
    go_wp2_with fail
    go_ret
    exact ⟨rfl, by (repeat' (first | (with_reducible exact Below.refl _ _) | (with_reducible refine below_drewN ?_ _) | (with_reducible refine Below.drew ?_) | (with_reducible refine Below.alloc ?_ ?_ _) | (with_reducible refine Below.setCell ?_ ?_ _) | (with_reducible refine Below.trans ?_ (Below.mono (by with_reducible assumption) ?_)) | omega | (simp only [World.size_alloc, World.size_setCell, World.size_drew, Go.Proofs.YtbfbhlpibclccaaDoor.World.size_drewN] at *; omega) | (with_reducible refine Below.size (B := 0) ?_)))⟩
theorem jhas_c {w : World} {P : Nat → Prop} {q b : Nat} {T : List (Int × Option EN)} {bl : Int → Nat} {L : List JE} (h : JbP w P q b T bl L) {id : Int} (hid : i64 id) :
    Calls Tryd.prog 42 #[.map (some b), .int .i64 id] w fun e w' => e = .returned (.bool (findJ L id).isSome) ∧ Below w.heap.size w w' :=
  jhas_go _ _ _ _ w fun _ hb => (h.on hb).lk hid rfl rfl
end Go.Proofs.YtbfbhlpibclccaaDoor
