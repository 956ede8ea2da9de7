/- The program's book of envelopes in memory: two maps and the rows of envelopes; what it finds. Conditions: the book lies in memory as its maps have it; the sentinels lie where the program's text lays them. -/
import Derived.Test.YtbdnfppbiplpmaaDoorTkE
import Derived.Test.YtbdnfppbiplpmaaDoorChP
import Derived.Test.YtbdnfppbiplpmaaDoorErrs
import Derived.Test.YtbdnfppbiplpmaaDoorVecAdd
import Derived.IntWalk
import Derived.Laws.Cover3
import Derived.Deep.RegionHeld3
import Derived.Deep.QuietTactic
import Derived.StillTailTactics
import Derived.LoopTactic
import Derived.Lib.Hide
namespace Go.Proofs.YtbdnfppbiplpmaaDoor
open Go Go.RowKit Go.Maps

/-- An envelope, as the program has it. -/
structure EnvR where
  up : Bool
  left : V4
/-- A task's seat. -/
structure SeatR where
  set : Int
  pos : Int
  need : V4
def encEnv : EncK EnvR 5 where
  enc x := [.bool x.up, .int .i64 x.left.a, .int .i64 x.left.b, .int .i64 x.left.c, .int .i64 x.left.d]
  len _ := rfl
  one x u hu := by simp at hu; rcases hu with rfl | rfl | rfl | rfl | rfl <;> rfl
def seat0 : SeatR := ⟨0, 0, ⟨0, 0, 0, 0⟩⟩
def encSeat (x : SeatR) : Value := .agg #[.int .i64 x.set, .int .i64 x.pos, .int .i64 x.need.a, .int .i64 x.need.b, .int .i64 x.need.c, .int .i64 x.need.d]
def slV : Option (Nat × Nat) → Value
  | none => .slice none 0 0
  | some (g, n) => .slice (some ⟨g, 0, none⟩) n n
theorem Tryd.zeroSl (w : World) : (zeroValue 111).run Tryd.prog w = .ok (slV none) w := Tryd.zeroValue111 w
theorem Tryd.zeroSeat (w : World) : (zeroValue 116).run Tryd.prog w = .ok (encSeat seat0) w := Tryd.zeroValue116 w
/-- The envelopes of a set. -/
def envs (G : AG) (s : SetA) : List EnvR := (List.range s.n).map fun (k : Nat) => ⟨s.up (k : Int), leftA G s (k : Int)⟩
theorem envs_len (G : AG) (s : SetA) : (envs G s).length = s.n := by simp [envs]
theorem envs_at (G : AG) (s : SetA) {k : Nat} (h : k < s.n) : (envs G s)[k]? = some ⟨s.up (k : Int), leftA G s (k : Int)⟩ := by simp [envs, h]
/-- The sets by number, the seats by task. -/
abbrev SetsAt (w : World) (b : Nat) (T : List (Int × Option (Nat × Nat))) : Prop := MapG Tryd.prog 3 (Lit.int .i64) i64 slV w b T
abbrev SeatsAt (w : World) (b : Nat) (T : List (Tk × SeatR)) : Prop := MapG Tryd.prog 32 klT okT encSeat w b T
/-- Block q is the program's book that has G; all its blocks are of P. -/
structure AlP (w : World) (P : Nat → Prop) (q b1 b2 : Nat) (T1 : List (Int × Option (Nat × Nat))) (T2 : List (Tk × SeatR)) (bl : Int → Nat) (G : AG) : Prop where
  box : w.heap[q]? = some (.cells #[.map (some b1), .map (some b2)] 107 (0, 0))
  m1 : SetsAt w b1 T1
  m2 : SeatsAt w b2 T2
  ne : b1 ≠ b2
  sets : ∀ id, look T1 id = (setA G id).map fun s => some (bl id, s.n)
  rows : ∀ id s, setA G id = some s → OwnE encEnv 114 w 0 (.slice (some ⟨bl id, 0, none⟩) s.n s.n) (envs G s)
  inj : ∀ i j s t, setA G i = some s → setA G j = some t → bl i = bl j → i = j
  seats : ∀ t, look T2 t = (tkA G t).map fun x => ⟨x.set, x.pos, x.need⟩
  good : GA G
  pq : P q
  p1 : P b1
  p2 : P b2
  pr : ∀ id s, setA G id = some s → P (bl id)
  old : ∀ k, P k → k < w.heap.size
def AlW (w : World) (P : Nat → Prop) (q : Nat) (G : AG) : Prop := ∃ b1 b2 T1 T2 bl, AlP w P q b1 b2 T1 T2 bl G
section
variable {w w' : World} {P : Nat → Prop} {q b1 b2 : Nat} {T1 : List (Int × Option (Nat × Nat))} {T2 : List (Tk × SeatR)} {bl : Int → Nat} {G : AG}
theorem AlP.same (h : AlP w P q b1 b2 T1 T2 bl G) (hs : w.heap.size ≤ w'.heap.size) (hb : ∀ k, P k → w'.heap[k]? = w.heap[k]?) : AlP w' P q b1 b2 T1 T2 bl G where
  box := (hb q h.pq).trans h.box
  m1 := h.m1.same (hb b1 h.p1)
  m2 := h.m2.same (hb b2 h.p2)
  ne := h.ne
  sets := h.sets
  rows := fun id s e => (h.rows id s e).same fun k hk => by simp [Value.ownBlock] at hk; subst hk; exact hb _ (h.pr id s e)
  inj := h.inj
  seats := h.seats
  good := h.good
  pq := h.pq
  p1 := h.p1
  p2 := h.p2
  pr := h.pr
  old := fun k hk => Nat.lt_of_lt_of_le (h.old k hk) hs
theorem AlP.on (h : AlP w P q b1 b2 T1 T2 bl G) (hb : Below w.heap.size w w') : AlP w' P q b1 b2 T1 T2 bl G := h.same hb.size fun k hk => hb.block k (h.old k hk)
theorem AlP.far {R : Nat → Prop} (h : AlP w P q b1 b2 T1 T2 bl G) (hc : ChP R w w') (hR : ∀ k, P k → ¬ R k) : AlP w' P q b1 b2 T1 T2 bl G := h.same hc.size fun k hk => hc.block k (h.old k hk) (hR k hk)
theorem AlP.drew (h : AlP w P q b1 b2 T1 T2 bl G) : AlP w.drew P q b1 b2 T1 T2 bl G := h.on (Below.refl _ _).drew
theorem AlP.any (h : AlP w P q b1 b2 T1 T2 bl G) : AlW w P q G := ⟨_, _, _, _, _, h⟩
theorem AlW.on (h : AlW w P q G) (hb : Below w.heap.size w w') : AlW w' P q G := by obtain ⟨_, _, _, _, _, h⟩ := h; exact (h.on hb).any
theorem AlW.far {R : Nat → Prop} (h : AlW w P q G) (hc : ChP R w w') (hR : ∀ k, P k → ¬ R k) : AlW w' P q G := by obtain ⟨_, _, _, _, _, h⟩ := h; exact (h.far hc hR).any
theorem AlW.drew (h : AlW w P q G) : AlW w.drew P q G := h.on (Below.refl _ _).drew
theorem AlW.good (h : AlW w P q G) : GA G := by obtain ⟨_, _, _, _, _, h⟩ := h; exact h.good
theorem AlW.old (h : AlW w P q G) : ∀ k, P k → k < w.heap.size := by obtain ⟨_, _, _, _, _, h⟩ := h; exact h.old
theorem AlW.pq (h : AlW w P q G) : P q := by obtain ⟨_, _, _, _, _, h⟩ := h; exact h.pq
theorem AlP.lt (h : AlP w P q b1 b2 T1 T2 bl G) : q < w.heap.size := lt_of_row h.box
/-- Its blocks are apart. -/
theorem AlP.map1 (h : AlP w P q b1 b2 T1 T2 bl G) : ∃ es c, w.heap[b1]? = some (.map es c) := by obtain ⟨D, ⟨es, c, hb, _⟩, _⟩ := h.m1; exact ⟨es, c, hb⟩
theorem AlP.map2 (h : AlP w P q b1 b2 T1 T2 bl G) : ∃ es c, w.heap[b2]? = some (.map es c) := by obtain ⟨D, ⟨es, c, hb, _⟩, _⟩ := h.m2; exact ⟨es, c, hb⟩
theorem AlP.row (h : AlP w P q b1 b2 T1 T2 bl G) {id : Int} {s : SetA} (e : setA G id = some s) : ∃ cur, w.heap[bl id]? = some (.cells cur 114 (0, 0)) := by
  obtain ⟨cur, hh, _⟩ := ownE_raw (h.rows id s e); exact ⟨cur, hh⟩
theorem AlP.q1 (h : AlP w P q b1 b2 T1 T2 bl G) : q ≠ b1 := by intro e; obtain ⟨_, _, k⟩ := h.map1; rw [← e, h.box] at k; cases k
theorem AlP.q2 (h : AlP w P q b1 b2 T1 T2 bl G) : q ≠ b2 := by intro e; obtain ⟨_, _, k⟩ := h.map2; rw [← e, h.box] at k; cases k
theorem AlP.qr (h : AlP w P q b1 b2 T1 T2 bl G) {id : Int} {s : SetA} (e : setA G id = some s) : bl id ≠ q := by
  intro k; obtain ⟨_, k2⟩ := h.row e; rw [k, h.box] at k2
  simp at k2
theorem AlP.r1 (h : AlP w P q b1 b2 T1 T2 bl G) {id : Int} {s : SetA} (e : setA G id = some s) : bl id ≠ b1 := by
  intro k; obtain ⟨_, k2⟩ := h.row e; obtain ⟨_, _, k3⟩ := h.map1; rw [k, k3] at k2; cases k2
theorem AlP.r2 (h : AlP w P q b1 b2 T1 T2 bl G) {id : Int} {s : SetA} (e : setA G id = some s) : bl id ≠ b2 := by
  intro k; obtain ⟨_, k2⟩ := h.row e; obtain ⟨_, _, k3⟩ := h.map2; rw [k, k3] at k2; cases k2
theorem AlP.hit (h : AlP w P q b1 b2 T1 T2 bl G) {id : Int} {s : SetA} (e : setA G id = some s) : look T1 id = some (some (bl id, s.n)) := by rw [h.sets, e]; rfl
theorem AlP.miss (h : AlP w P q b1 b2 T1 T2 bl G) {id : Int} (e : setA G id = none) : look T1 id = none := by rw [h.sets, e]; rfl
theorem keys_nodup {G : AG} (h : GA G) : (G.tasks.map (·.tk)).Nodup := List.pairwise_map.2 h.tks
theorem ids_nodup {G : AG} (h : GA G) : (G.sets.map (·.id)).Nodup := List.pairwise_map.2 h.ids
theorem AlP.keys1 (h : AlP w P q b1 b2 T1 T2 bl G) : (T1.map (·.1)).Perm (G.sets.map (·.id)) := by
  refine (List.perm_ext_iff_of_nodup h.m1.apart.nodup (ids_nodup h.good)).2 fun x => ?_
  rw [← look_keys, h.sets]
  cases e : setA G x with
  | none =>
    have := set_none.1 e
    simp only [Option.map_none, Option.isSome_none, Bool.false_eq_true, false_iff, List.mem_map, not_exists, not_and]
    exact this
  | some s =>
    have := (set_iff h.good).1 e
    simp only [Option.map_some, Option.isSome_some, true_iff, List.mem_map]
    exact ⟨s, this⟩
theorem AlP.keys2 (h : AlP w P q b1 b2 T1 T2 bl G) : (T2.map (·.1)).Perm (G.tasks.map (·.tk)) := by
  refine (List.perm_ext_iff_of_nodup h.m2.apart.nodup (keys_nodup h.good)).2 fun x => ?_
  rw [← look_keys, h.seats]
  cases e : tkA G x with
  | none =>
    have := tk_none.1 e
    simp only [Option.map_none, Option.isSome_none, Bool.false_eq_true, false_iff, List.mem_map, not_exists, not_and]
    exact this
  | some s =>
    have := (tk_iff h.good).1 e
    simp only [Option.map_some, Option.isSome_some, true_iff, List.mem_map]
    exact ⟨s, this⟩
theorem AlP.len1 (h : AlP w P q b1 b2 T1 T2 bl G) : T1.length = G.sets.length := by have := h.keys1.length_eq; simpa using this
theorem AlP.len2 (h : AlP w P q b1 b2 T1 T2 bl G) : T2.length = G.tasks.length := by have := h.keys2.length_eq; simpa using this
end

/-- alloc.New. -/
theorem anew_c (w : World) : Calls Tryd.prog 7 #[] w fun e w' => ∃ q, e = .returned (.pointer (some ⟨q, 0, none⟩)) ∧ AlW w' (fun k => w.heap.size ≤ k ∧ k < w'.heap.size) q ⟨[], []⟩ ∧ Below w.heap.size w w' := by
  have hmm := @run_makeMap Tryd.prog
  go_enter Tryd.func7, Tryd.ntmps7
  go_wp2
  go_ret
  obtain ⟨W1, hW1⟩ : ∃ W1, w.alloc (.map #[] 0) = W1 := ⟨_, rfl⟩
  have s1 : W1.heap.size = w.heap.size + 1 := by rw [← hW1]; simp
  have m1 : SetsAt W1 w.heap.size [] := by rw [← hW1]; exact MapG.made _ _ _ _ _ _
  have b1 : Below w.heap.size w W1 := by rw [← hW1]; exact (Below.refl _ _).alloc (Nat.le_refl _) _
  obtain ⟨W2, hW2⟩ : ∃ W2, W1.alloc (.map #[] 0) = W2 := ⟨_, rfl⟩
  have s2 : W2.heap.size = w.heap.size + 2 := by rw [← hW2]; simp [s1]
  have m2 : SeatsAt W2 (w.heap.size + 1) [] := by rw [← hW2, ← s1]; exact MapG.made _ _ _ _ _ _
  have m1' : SetsAt W2 w.heap.size [] := by rw [← hW2]; exact m1.alloc _
  have b2 : Below w.heap.size w W2 := by rw [← hW2]; exact b1.alloc b1.size _
  rw [hW1, hW2]
  refine ⟨w.heap.size + 2, by simp, ⟨w.heap.size, w.heap.size + 1, [], [], fun _ => 0, ?_⟩, b2.alloc b2.size _⟩
  refine ⟨?_, m1'.alloc _, m2.alloc _, by omega, fun _ => rfl, fun _ _ e => (by cases e), fun _ _ _ _ e => (by cases e), fun _ => rfl, GA.empty, ?_, ?_, ?_, fun _ _ e => (by cases e), fun k hk => hk.2⟩
  · rw [← s2]; exact heap_alloc_new _ _
  all_goals (simp [s2] <;> omega)

/-- What a book has. -/
theorem aknown_c (q b1 b2 : Nat) (w : World) (h : w.heap[q]? = some (.cells #[.map (some b1), .map (some b2)] 107 (0, 0))) :
    Calls Tryd.prog 62 #[.pointer (some ⟨q, 0, none⟩)] w fun e w' => e = .returned (.agg #[.map (some b1), .map (some b2)]) ∧ Below w.heap.size w w' := by
  have hq := lt_of_row h
  have h1 := (Below.heap_alloc w (.cells #[.map none, .map none] 107) q hq).trans h
  have c0 := cell_of_heap h1 0
  have c1 := cell_of_heap h1 1
  have cf := frozen_of_heap h1
  have hqn : ¬ q = w.heap.size := by omega
  clear h h1
  go_enter Tryd.func62, Tryd.ntmps62
  go_wp2
  refine bodyPost_ret (v := .agg #[.map (some b1), .map (some b2)]) (by simp [results, Tryd.results62, go_sem]) rfl ?_
  exact ⟨rfl, by (repeat' (first | (with_reducible exact Below.refl _ _) | (with_reducible refine below_drewN ?_ _) | (with_reducible refine Below.drew ?_) | (with_reducible refine Below.alloc ?_ ?_ _) | (with_reducible refine Below.setCell ?_ ?_ _) | (with_reducible refine Below.trans ?_ (Below.mono (by with_reducible assumption) ?_)) | omega | (simp only [World.size_alloc, World.size_setCell, World.size_drew, Go.Proofs.YtbdnfppbiplpmaaDoor.World.size_drewN] at *; omega) | (with_reducible refine Below.size (B := 0) ?_)))⟩
/-- A nil book has nothing. -/
theorem aknown_nil (w : World) : Calls Tryd.prog 62 #[.pointer none] w fun e w' => e = .returned (.agg #[.map none, .map none]) ∧ Below w.heap.size w w' := by
  go_enter Tryd.func62, Tryd.ntmps62
  go_wp2
  refine bodyPost_ret (v := .agg #[.map none, .map none]) (by simp [results, Tryd.results62, go_sem]) rfl ?_
  exact ⟨rfl, by (repeat' (first | (with_reducible exact Below.refl _ _) | (with_reducible refine below_drewN ?_ _) | (with_reducible refine Below.drew ?_) | (with_reducible refine Below.alloc ?_ ?_ _) | (with_reducible refine Below.setCell ?_ ?_ _) | (with_reducible refine Below.trans ?_ (Below.mono (by with_reducible assumption) ?_)) | omega | (simp only [World.size_alloc, World.size_setCell, World.size_drew, Go.Proofs.YtbdnfppbiplpmaaDoor.World.size_drewN] at *; omega) | (with_reducible refine Below.size (B := 0) ?_)))⟩
end Go.Proofs.YtbdnfppbiplpmaaDoor

/- The program's book of envelopes by contracts: find, and the small methods by it. Conditions: the book lies in memory as its maps have it; the sentinels lie where the program's text lays them. -/
namespace Go.Proofs.YtbdnfppbiplpmaaDoor
open Go Go.RowKit Go.Maps

/-- The sentinels lie where they lie as long as only blocks of P turn. -/
def SentP (s : Nat → Addr) (P : Nat → Prop) (w : World) : Prop := ∀ W, ChP P w W → Sent s W
theorem SentP.here {s : Nat → Addr} {P : Nat → Prop} {w : World} (h : SentP s P w) : Sent s w := h w (ChP.refl _ _)
theorem SentP.chp {s : Nat → Addr} {P Q : Nat → Prop} {w w' : World} (h : SentP s P w) (hc : ChP P w w') (hQ : ∀ i, Q i → P i ∨ w.heap.size ≤ i) : SentP s Q w' := fun W hW => h W (hc.trans hW hQ)
theorem SentP.on {s : Nat → Addr} {P : Nat → Prop} {w w' : World} (h : SentP s P w) (hb : Below w.heap.size w w') : SentP s P w' := h.chp (ChP.of_below hb) fun _ h => .inl h
theorem SentP.of {s : Nat → Addr} {P : Nat → Prop} {w0 w : World} (h : Sent s w0) (hb : Below w0.heap.size w0 w) (hP : ∀ k, P k → w0.heap.size ≤ k) : SentP s P w := fun _ hW => h.below (hb.trans (hW.below hP hb.size)) (Nat.le_refl _)
theorem errA (s : Nat → Addr) (k : Nat) (h : 0 < k) : errV s k = .iface 225 (.pointer (some (s (k - 1)))) := by unfold errV; rw [if_neg (by omega)]
theorem errA0 (s : Nat → Addr) : errV s 0 = .nilIface := rfl
theorem eqlS (W : World) (A : Option Addr) (l c : Nat) : (binOp .eql 111 (.slice A l c) (.slice none 0 0)).run Tryd.prog W = .ok (.bool A.isNone) W := by
  simp [binOp, run_equal_slice_nil W 111 _ A l c Tryd.underlying111]
theorem neqS (W : World) (A : Option Addr) (l c : Nat) : (binOp .neq 111 (.slice A l c) (.slice none 0 0)).run Tryd.prog W = .ok (.bool (!A.isNone)) W := by
  simp only [binOp]
  simp [run_equal_slice_nil W 111 _ A l c Tryd.underlying111]
theorem fieldB0 (a0 a1 : Value) (W : World) : (Instr.field 107 (.agg #[a0, a1]) 0).run Tryd.prog W = .ok a0 W := by kernel_rfl
theorem fieldB1 (a0 a1 : Value) (W : World) : (Instr.field 107 (.agg #[a0, a1]) 1).run Tryd.prog W = .ok a1 W := by kernel_rfl
section
variable {w : World} {P : Nat → Prop} {q b1 b2 : Nat} {T1 : List (Int × Option (Nat × Nat))} {T2 : List (Tk × SeatR)} {bl : Int → Nat} {G : AG}

set_option maxRecDepth 100000 in
/-- An envelope is found. -/
theorem afind_ok (h : AlP w P q b1 b2 T1 T2 bl G) {id : Int} {sA : SetA} (e : setA G id = some sA) {k : Nat} (hk : k < sA.n) (hid : i64 id) :
    Calls Tryd.prog 58 #[.pointer (some ⟨q, 0, none⟩), .int .i64 id, .int .i64 (k : Int)] w fun e w' => e = .returned (.tuple #[.pointer (some ⟨bl id, k * 5, none⟩), .nilIface]) ∧ w' = w := by
  have c0 := cell_of_heap h.box 0
  have hE0 := eqlS
  obtain ⟨ad, had⟩ : ∃ ad : Addr, (⟨bl id, 0, none⟩ : Addr) = ad := ⟨_, rfl⟩
  have hadd : ad.add (k * 5) = ⟨bl id, k * 5, none⟩ := by rw [← had, Addr.add_lit, Nat.zero_add]
  have hv : slV ((look T1 id).getD none) = .slice (some ad) sA.n sA.n := by rw [h.hit e]; simp [slV, had]
  have HM := Lib.hid h.m1
  have k0 : (0 : Int) ≤ (k : Int) := by omega
  have k1 : (k : Int) < (sA.n : Int) := by omega
  clear h e had
  go_enter Tryd.func58, Tryd.ntmps58
  go_wp2_with (at_lookup; refine wpList_lookG _ kitI rfl _ _ 104 rfl 111 Tryd.underlying104 slV none (Tryd.zeroSl _) b1 T1 rfl HM.out id rfl hid _ hv ?_)
  refine bodyPost_ret (v := .tuple #[.pointer (some ⟨bl id, k * 5, none⟩), .nilIface]) (by simp [results, Tryd.results58, go_sem]) rfl ?_
  exact ⟨rfl, rfl⟩
/-- What find answers where there is none: its error. -/
def findE (G : AG) (id pos : Int) : Nat := match setA G id with
  | none => 5
  | some s => if pos < 0 ∨ (s.n : Int) ≤ pos then 1 else 0
set_option maxRecDepth 100000 in
/-- None is found. -/
theorem afind_no (s : Nat → Addr) (h : AlP w P q b1 b2 T1 T2 bl G) (hs : Sent s w) {id pos : Int} (he : 0 < findE G id pos) (hid : i64 id) :
    Calls Tryd.prog 58 #[.pointer (some ⟨q, 0, none⟩), .int .i64 id, .int .i64 pos] w fun e w' => e = .returned (.tuple #[.pointer none, errV s (findE G id pos)]) ∧ Below w.heap.size w w' := by
  have c0 := cell_of_heap h.box 0
  have hE0 := eqlS
  have e0 := hs.cell 0 (by omega)
  have e4 := hs.cell 4 (by omega)
  simp only [gnum, List.getD_cons_zero, List.getD_cons_succ] at e0 e4
  have HM := Lib.hid h.m1
  cases e : setA G id with
  | none =>
    have hE : findE G id pos = 5 := by unfold findE; rw [e]
    rw [hE]
    have hv : slV ((look T1 id).getD none) = .slice none 0 0 := by rw [h.miss e]; rfl
    clear h hs e hE he
    go_enter Tryd.func58, Tryd.ntmps58
    go_wp2_with (at_lookup; refine wpList_lookG _ kitI rfl _ _ 104 rfl 111 Tryd.underlying104 slV none (Tryd.zeroSl _) b1 T1 rfl HM.out id rfl hid _ hv ?_)
    go_quiet (fail)
    go_wp2_with fail
    refine bodyPost_ret (v := .tuple #[.pointer none, .iface 225 (.pointer (some (s 4)))]) (by simp [results, Tryd.results58, go_sem]) rfl ?_
    exact ⟨rfl, by (repeat' (first | (with_reducible exact Below.refl _ _) | (with_reducible refine below_drewN ?_ _) | (with_reducible refine Below.drew ?_) | (with_reducible refine Below.alloc ?_ ?_ _) | (with_reducible refine Below.setCell ?_ ?_ _) | (with_reducible refine Below.trans ?_ (Below.mono (by with_reducible assumption) ?_)) | omega | (simp only [World.size_alloc, World.size_setCell, World.size_drew, Go.Proofs.YtbdnfppbiplpmaaDoor.World.size_drewN] at *; omega) | (with_reducible refine Below.size (B := 0) ?_)))⟩
  | some sA =>
    have hE : findE G id pos = 1 := by unfold findE at he ⊢; rw [e] at he ⊢; simp only at he ⊢; split <;> simp_all
    have hb : pos < 0 ∨ (sA.n : Int) ≤ pos := by unfold findE at he; rw [e] at he; simp only at he; split at he <;> simp_all
    rw [hE]
    have hv : slV ((look T1 id).getD none) = .slice (some ⟨bl id, 0, none⟩) sA.n sA.n := by rw [h.hit e]; simp [slV]
    clear h hs e hE he
    by_cases hp : pos < 0
    · clear hb
      go_enter Tryd.func58, Tryd.ntmps58
      go_wp2_with (at_lookup; refine wpList_lookG _ kitI rfl _ _ 104 rfl 111 Tryd.underlying104 slV none (Tryd.zeroSl _) b1 T1 rfl HM.out id rfl hid _ hv ?_)
      go_quiet (fail)
      go_wp2_with fail
      refine bodyPost_ret (v := .tuple #[.pointer none, .iface 225 (.pointer (some (s 0)))]) (by simp [results, Tryd.results58, go_sem]) rfl ?_
      exact ⟨rfl, by (repeat' (first | (with_reducible exact Below.refl _ _) | (with_reducible refine below_drewN ?_ _) | (with_reducible refine Below.drew ?_) | (with_reducible refine Below.alloc ?_ ?_ _) | (with_reducible refine Below.setCell ?_ ?_ _) | (with_reducible refine Below.trans ?_ (Below.mono (by with_reducible assumption) ?_)) | omega | (simp only [World.size_alloc, World.size_setCell, World.size_drew, Go.Proofs.YtbdnfppbiplpmaaDoor.World.size_drewN] at *; omega) | (with_reducible refine Below.size (B := 0) ?_)))⟩
    · have hq : (sA.n : Int) ≤ pos := by omega
      clear hb
      go_enter Tryd.func58, Tryd.ntmps58
      go_wp2_with (at_lookup; refine wpList_lookG _ kitI rfl _ _ 104 rfl 111 Tryd.underlying104 slV none (Tryd.zeroSl _) b1 T1 rfl HM.out id rfl hid _ hv ?_)
      go_quiet (fail)
      go_wp2_with fail
      refine bodyPost_ret (v := .tuple #[.pointer none, .iface 225 (.pointer (some (s 0)))]) (by simp [results, Tryd.results58, go_sem]) rfl ?_
      exact ⟨rfl, by (repeat' (first | (with_reducible exact Below.refl _ _) | (with_reducible refine below_drewN ?_ _) | (with_reducible refine Below.drew ?_) | (with_reducible refine Below.alloc ?_ ?_ _) | (with_reducible refine Below.setCell ?_ ?_ _) | (with_reducible refine Below.trans ?_ (Below.mono (by with_reducible assumption) ?_)) | omega | (simp only [World.size_alloc, World.size_setCell, World.size_drew, Go.Proofs.YtbdnfppbiplpmaaDoor.World.size_drewN] at *; omega) | (with_reducible refine Below.size (B := 0) ?_)))⟩
end
/-- .. of no book. -/
theorem afind_nil (s : Nat → Addr) (w : World) (hs : Sent s w) (id pos : Int) :
    Calls Tryd.prog 58 #[.pointer none, .int .i64 id, .int .i64 pos] w fun e w' => e = .returned (.tuple #[.pointer none, errV s 2]) ∧ Below w.heap.size w w' := by
  have e1 := hs.cell 1 (by omega)
  simp only [gnum, List.getD_cons_zero, List.getD_cons_succ] at e1
  clear hs
  go_enter Tryd.func58, Tryd.ntmps58
  go_wp2
  go_quiet (fail)
  go_wp2_with fail
  refine bodyPost_ret (v := .tuple #[.pointer none, .iface 225 (.pointer (some (s 1)))]) (by simp [results, Tryd.results58, go_sem]) rfl ?_
  exact ⟨rfl, by (repeat' (first | (with_reducible exact Below.refl _ _) | (with_reducible refine below_drewN ?_ _) | (with_reducible refine Below.drew ?_) | (with_reducible refine Below.alloc ?_ ?_ _) | (with_reducible refine Below.setCell ?_ ?_ _) | (with_reducible refine Below.trans ?_ (Below.mono (by with_reducible assumption) ?_)) | omega | (simp only [World.size_alloc, World.size_setCell, World.size_drew, Go.Proofs.YtbdnfppbiplpmaaDoor.World.size_drewN] at *; omega) | (with_reducible refine Below.size (B := 0) ?_)))⟩
end Go.Proofs.YtbdnfppbiplpmaaDoor

/- The program's book of envelopes by contracts: Where, Raise. Conditions: the book lies in memory as its maps have it; the sentinels lie where the program's text lays them. -/
namespace Go.Proofs.YtbdnfppbiplpmaaDoor
open Go Go.RowKit Go.Maps

/-- A task's seat. -/
def seatA (G : AG) (t : Tk) : SeatR := ((tkA G t).map fun x => (⟨x.set, x.pos, x.need⟩ : SeatR)).getD seat0
/-- A block that a seat's variable begins with. -/
abbrev seatO : Obj := .cells #[.int .i64 0, .int .i64 0, .int .i64 0, .int .i64 0, .int .i64 0, .int .i64 0] 116
theorem seat_new {W w' : World} (h : Below (W.alloc seatO).heap.size (W.alloc seatO) w') : w'.heap[W.heap.size]? = some seatO := (h.block _ (by simp)).trans (heap_alloc_new W _)
theorem seat_cells {W : World} {g : Nat} (h : W.heap[g]? = some seatO) : W.cell? ⟨g, 0, none⟩ = some (.int .i64 0) ∧ W.cell? ⟨g, 1, none⟩ = some (.int .i64 0) ∧ W.cell? ⟨g, 2, none⟩ = some (.int .i64 0) ∧ W.cell? ⟨g, 3, none⟩ = some (.int .i64 0) ∧ W.cell? ⟨g, 4, none⟩ = some (.int .i64 0) ∧ W.cell? ⟨g, 5, none⟩ = some (.int .i64 0) ∧ ∀ j, W.frozen? ⟨g, j, none⟩ = false :=
  ⟨cell_of_heap h 0, cell_of_heap h 1, cell_of_heap h 2, cell_of_heap h 3, cell_of_heap h 4, cell_of_heap h 5, fun j => frozen_of_heap h j⟩
section
variable {w : World} {P : Nat → Prop} {q b1 b2 : Nat} {T1 : List (Int × Option (Nat × Nat))} {T2 : List (Tk × SeatR)} {bl : Int → Nat} {G : AG}
theorem AlP.lk2 (h : AlP w P q b1 b2 T1 T2 bl G) {t : Tk} (ht : okT t) {x : SeatR} (hx : seatA G t = x) {b : Bool} (hb : (tkA G t).isSome = b) :
    (Instr.lookup 105 (.map (some b2)) (.agg #[.int .i64 t.job, .int .i64 t.ix]) true).run Tryd.prog w = .ok (.tuple #[.agg #[.int .i64 x.set, .int .i64 x.pos, .int .i64 x.need.a, .int .i64 x.need.b, .int .i64 x.need.c, .int .i64 x.need.d], .bool b]) w := by
  have := run_lookG_ok kitT Tryd.underlying105 (z := seat0) (Tryd.zeroSeat w) h.m2 ht
  rw [h.seats, show ((tkA G t).map fun x => (⟨x.set, x.pos, x.need⟩ : SeatR)).getD seat0 = seatA G t from rfl, hx, Option.isSome_map, hb] at this
  exact this

set_option maxRecDepth 100000 in
set_option maxHeartbeats 1600000 in
/-- Book.Where. -/
theorem awhere_c (h : AlP w P q b1 b2 T1 T2 bl G) {t : Tk} (ht : okT t) :
    Calls Tryd.prog 22 #[.pointer (some ⟨q, 0, none⟩), .agg #[.int .i64 t.job, .int .i64 t.ix]] w fun e w' => e = .returned (.tuple #[.int .i64 (seatA G t).set, .int .i64 (seatA G t).pos, .bool (tkA G t).isSome]) ∧ Below w.heap.size w w' := by
  obtain ⟨x, hx⟩ : ∃ x, seatA G t = x := ⟨_, rfl⟩
  obtain ⟨b, hb⟩ : ∃ b, (tkA G t).isSome = b := ⟨_, rfl⟩
  obtain ⟨X, hX⟩ : ∃ X, w.heap.size = X := ⟨_, rfl⟩
  have hlt := h.lt
  have HS : Hid (∀ W, Below w.heap.size w W → W.heap[X]? = some (.cells #[.int .i64 t.job, .int .i64 t.ix] 32 (0, 0)) → (W.cell? ⟨X, 0, none⟩ = some (.int .i64 t.job) ∧ W.cell? ⟨X, 1, none⟩ = some (.int .i64 t.ix) ∧
      (Instr.lookup 105 (.map (some b2)) (.agg #[.int .i64 t.job, .int .i64 t.ix]) true).run Tryd.prog W = .ok (.tuple #[.agg #[.int .i64 x.set, .int .i64 x.pos, .int .i64 x.need.a, .int .i64 x.need.b, .int .i64 x.need.c, .int .i64 x.need.d], .bool b]) W)) := Lib.hid fun W hb' hc =>
    ⟨cell_of_heap hc 0, cell_of_heap hc 1, (h.on hb').lk2 ht hx hb⟩
  have HKN : Hid (∀ W, Below w.heap.size w W → Calls Tryd.prog 62 #[.pointer (some ⟨q, 0, none⟩)] W fun e w' => e = .returned (.agg #[.map (some b1), .map (some b2)]) ∧ Below W.heap.size W w') := Lib.hid fun W hW => aknown_c q b1 b2 W (h.on hW).box
  rw [hx, hb]
  have HX := Lib.hid hX
  have hf0 := fieldB0
  have hf1 := fieldB1
  clear h ht hx hb hX
  go_enter Tryd.func22, Tryd.ntmps22
  go_wp2_with fail
  obtain ⟨W1, hW1⟩ : ∃ W1, w.alloc (.cells #[.int .i64 t.job, .int .i64 t.ix] 32) = W1 := ⟨_, rfl⟩
  have k1 : W1.heap[X]? = some (.cells #[.int .i64 t.job, .int .i64 t.ix] 32 (0, 0)) := by rw [← hW1, ← HX.out]; exact heap_alloc_new _ _
  have b1' : Below w.heap.size w W1 := by rw [← hW1]; exact (Below.refl _ _).alloc (Nat.le_refl _) _
  have hXW : X < W1.heap.size := lt_of_row k1
  have HC : Hid (∀ W, Below W1.heap.size W1 W → (W.cell? ⟨X, 0, none⟩ = some (.int .i64 t.job) ∧ W.cell? ⟨X, 1, none⟩ = some (.int .i64 t.ix) ∧ (Instr.lookup 105 (.map (some b2)) (.agg #[.int .i64 t.job, .int .i64 t.ix]) true).run Tryd.prog W = .ok (.tuple #[.agg #[.int .i64 x.set, .int .i64 x.pos, .int .i64 x.need.a, .int .i64 x.need.b, .int .i64 x.need.c, .int .i64 x.need.d], .bool b]) W)) := Lib.hid fun W hb' => HS.out W (b1'.trans (hb'.mono b1'.size)) ((hb'.block X hXW).trans k1)
  have HK1 : Hid (∀ W, Below W1.heap.size W1 W → Calls Tryd.prog 62 #[.pointer (some ⟨q, 0, none⟩)] W fun e w' => e = .returned (.agg #[.map (some b1), .map (some b2)]) ∧ Below W.heap.size W w') := Lib.hid fun W hW => HKN.out W (b1'.trans (hW.mono b1'.size))
  have HB1 := Lib.hid b1'
  have HXL := Lib.hid hXW
  rw [hW1, HX.out]
  clear hW1 k1 b1' hXW HS HKN
  go_region_held3 (fun W => W.cell? ⟨X, 0, none⟩ = some (.int .i64 t.job) ∧ W.cell? ⟨X, 1, none⟩ = some (.int .i64 t.ix) ∧ (Instr.lookup 105 (.map (some b2)) (.agg #[.int .i64 t.job, .int .i64 t.ix]) true).run Tryd.prog W = .ok (.tuple #[.agg #[.int .i64 x.set, .int .i64 x.pos, .int .i64 x.need.a, .int .i64 x.need.b, .int .i64 x.need.c, .int .i64 x.need.d], .bool b]) W)
    (first | exact HC.out _ (by (repeat' (first | (with_reducible exact Below.refl _ _) | (with_reducible refine below_drewN ?_ _) | (with_reducible refine Below.drew ?_) | (with_reducible refine Below.alloc ?_ ?_ _) | (with_reducible refine Below.setCell ?_ ?_ _) | (with_reducible refine Below.trans ?_ (Below.mono (by with_reducible assumption) ?_)) | omega | (simp only [World.size_alloc, World.size_setCell, World.size_drew, Go.Proofs.YtbdnfppbiplpmaaDoor.World.size_drewN] at *; omega) | (with_reducible refine Below.size (B := 0) ?_)))))
    (first
      | (go_at_call 62; (with_reducible refine (HK1.out _ (by (repeat' (first | (with_reducible exact Below.refl _ _) | (with_reducible refine below_drewN ?_ _) | (with_reducible refine Below.drew ?_) | (with_reducible refine Below.alloc ?_ ?_ _) | (with_reducible refine Below.setCell ?_ ?_ _) | (with_reducible refine Below.trans ?_ (Below.mono (by with_reducible assumption) ?_)) | omega | (simp only [World.size_alloc, World.size_setCell, World.size_drew, Go.Proofs.YtbdnfppbiplpmaaDoor.World.size_drewN] at *; omega) | (with_reducible refine Below.size (B := 0) ?_))))).mono ?_); rintro e w5 ⟨rfl, b5⟩; (first | (have z5 : w5.heap[W1.heap.size]? = some seatO := seat_new (W := W1.drew) b5; obtain ⟨d0, d1, d2, d3, d4, d5, df⟩ := seat_cells z5; clear z5) | skip)))
  all_goals have hb1 := HB1.out
  all_goals go_wp2_with fail
  all_goals go_quiet (fail)
  all_goals go_wp2_with fail
  all_goals refine bodyPost_ret (v := .tuple #[.int .i64 x.set, .int .i64 x.pos, .bool b]) (by simp [results, Tryd.results22, go_sem]) rfl ?_
  all_goals exact ⟨rfl, by rw [← HX.out] at *; (repeat' (first | (with_reducible exact Below.refl _ _) | (with_reducible refine below_drewN ?_ _) | (with_reducible refine Below.drew ?_) | (with_reducible refine Below.alloc ?_ ?_ _) | (with_reducible refine Below.setCell ?_ ?_ _) | (with_reducible refine Below.trans ?_ (Below.mono (by with_reducible assumption) ?_)) | omega | (simp only [World.size_alloc, World.size_setCell, World.size_drew, Go.Proofs.YtbdnfppbiplpmaaDoor.World.size_drewN] at *; omega) | (with_reducible refine Below.size (B := 0) ?_)))⟩
end
end Go.Proofs.YtbdnfppbiplpmaaDoor

/- The program's book of envelopes in memory: what a store, an entry and a deletion make of it. Condition: the book lies in memory as its maps have it. -/
namespace Go.Proofs.YtbdnfppbiplpmaaDoor
open Go Go.RowKit Go.Maps

theorem envs_ext {G G' : AG} {s s' : SetA} (hn : s'.n = s.n) (h : ∀ k : Nat, k < s.n → s'.up (k : Int) = s.up (k : Int) ∧ leftA G' s' (k : Int) = leftA G s (k : Int)) : envs G' s' = envs G s := by
  unfold envs
  rw [hn]
  refine List.map_congr_left fun k hk => ?_
  obtain ⟨h1, h2⟩ := h k (List.mem_range.1 hk)
  rw [h1, h2]
theorem envs_set {G G' : AG} {s s' : SetA} (hn : s'.n = s.n) {k : Nat} {r : EnvR} (hk : s'.up (k : Int) = r.up ∧ leftA G' s' (k : Int) = r.left)
    (h : ∀ j : Nat, j ≠ k → s'.up (j : Int) = s.up (j : Int) ∧ leftA G' s' (j : Int) = leftA G s (j : Int)) : envs G' s' = (envs G s).set k r := by
  unfold envs
  apply List.ext_getElem?
  intro j
  rw [List.getElem?_set]
  simp only [List.getElem?_map, List.length_map, List.length_range, hn]
  by_cases hj : j < s.n
  · rw [List.getElem?_range hj]
    by_cases e : k = j
    · subst e
      rw [if_pos rfl, if_pos hj, Option.map_some, hk.1, hk.2]
    · rw [if_neg e, Option.map_some, Option.map_some, (h j (Ne.symm e)).1, (h j (Ne.symm e)).2]
  · rw [List.getElem?_eq_none (l := List.range s.n) (by simpa using hj)]
    by_cases e : k = j
    · subst e; rw [if_pos rfl, if_neg hj]; rfl
    · rw [if_neg e]; rfl
/-- Behind a store of what is left. -/
theorem own_left {e : TypeId} {w : World} {base g cap : Nat} {L : List EnvR} (h : OwnE encEnv e w base (.slice (some ⟨g, 0, none⟩) L.length cap) L) {k : Nat} {r : EnvR} (hk : L[k]? = some r) (x : V4) :
    OwnE encEnv e ((((w.setCell ⟨g, k * 5 + 1, none⟩ (.int .i64 x.a)).setCell ⟨g, k * 5 + 2, none⟩ (.int .i64 x.b)).setCell ⟨g, k * 5 + 3, none⟩ (.int .i64 x.c)).setCell ⟨g, k * 5 + 4, none⟩ (.int .i64 x.d)) base
      (.slice (some ⟨g, 0, none⟩) L.length cap) (L.set k ⟨r.up, x⟩) := by
  have hl := (List.getElem?_eq_some_iff.1 hk).1
  have h1 := h.stored (r := 1) (x' := ⟨r.up, ⟨x.a, r.left.b, r.left.c, r.left.d⟩⟩) (u := .int .i64 x.a) hk (by decide) rfl
  have h2 := h1.stored (i := k) (r := 2) (x := ⟨r.up, ⟨x.a, r.left.b, r.left.c, r.left.d⟩⟩) (x' := ⟨r.up, ⟨x.a, x.b, r.left.c, r.left.d⟩⟩) (u := .int .i64 x.b) (by simp [hl]) (by decide) rfl
  have h3 := h2.stored (i := k) (r := 3) (x := ⟨r.up, ⟨x.a, x.b, r.left.c, r.left.d⟩⟩) (x' := ⟨r.up, ⟨x.a, x.b, x.c, r.left.d⟩⟩) (u := .int .i64 x.c) (by simp [hl]) (by decide) rfl
  have h4 := h3.stored (i := k) (r := 4) (x := ⟨r.up, ⟨x.a, x.b, x.c, r.left.d⟩⟩) (x' := ⟨r.up, x⟩) (u := .int .i64 x.d) (by simp [hl]) (by decide) rfl
  simpa [List.set_set] using h4
section
variable {w w' : World} {P : Nat → Prop} {q b1 b2 : Nat} {T1 : List (Int × Option (Nat × Nat))} {T2 T2' : List (Tk × SeatR)} {bl : Int → Nat} {G G' : AG}
/-- One row and the seats have turned. -/
theorem AlP.upd (h : AlP w P q b1 b2 T1 T2 bl G) {id : Int} {s s' : SetA} (e : setA G id = some s) (hs : w.heap.size ≤ w'.heap.size) (keep : ∀ k, P k → k ≠ b2 → k ≠ bl id → w'.heap[k]? = w.heap[k]?)
    (m2 : SeatsAt w' b2 T2') (e' : setA G' id = some s') (hn : s'.n = s.n) (row : OwnE encEnv 114 w' 0 (.slice (some ⟨bl id, 0, none⟩) s.n s.n) (envs G' s'))
    (oth : ∀ j, j ≠ id → setA G' j = setA G j) (env : ∀ j t, j ≠ id → setA G j = some t → envs G' t = envs G t)
    (seats : ∀ t, look T2' t = (tkA G' t).map fun x => ⟨x.set, x.pos, x.need⟩) (good : GA G') : AlP w' P q b1 b2 T1 T2' bl G' where
  box := (keep q h.pq h.q2 (h.qr e).symm).trans h.box
  m1 := h.m1.same (keep b1 h.p1 h.ne (h.r1 e).symm)
  m2 := m2
  ne := h.ne
  sets := fun j => by
    by_cases hj : j = id
    · subst hj; rw [h.sets, e, e', Option.map_some, Option.map_some, hn]
    · rw [h.sets, oth j hj]
  rows := fun j t ht => by
    by_cases hj : j = id
    · subst hj
      rw [e'] at ht
      obtain rfl := Option.some.inj ht
      rw [hn]; exact row
    · rw [oth j hj] at ht
      rw [env j t hj ht]
      refine (h.rows j t ht).same fun k hk => ?_
      simp [Value.ownBlock] at hk; subst hk
      exact keep _ (h.pr j t ht) (h.r2 ht) fun e3 => hj (h.inj _ _ _ _ ht e e3)
  inj := fun i j a b ha hb => by
    have key : ∀ i a, setA G' i = some a → ∃ a', setA G i = some a' := fun i a ha => by
      by_cases hi : i = id
      · subst hi; exact ⟨s, e⟩
      · exact ⟨a, (oth i hi) ▸ ha⟩
    obtain ⟨a', ha'⟩ := key i a ha
    obtain ⟨b', hb'⟩ := key j b hb
    exact h.inj i j a' b' ha' hb'
  seats := seats
  good := good
  pq := h.pq
  p1 := h.p1
  p2 := h.p2
  pr := fun j t ht => by
    by_cases hj : j = id
    · subst hj; exact h.pr j s e
    · rw [oth j hj] at ht; exact h.pr j t ht
  old := fun k hk => Nat.lt_of_lt_of_le (h.old k hk) hs

theorem AlP.rowL (h : AlP w P q b1 b2 T1 T2 bl G) {id : Int} {s : SetA} (e : setA G id = some s) : OwnE encEnv 114 w 0 (.slice (some ⟨bl id, 0, none⟩) (envs G s).length s.n) (envs G s) := by
  rw [envs_len]; exact h.rows id s e
/-- The cells of an envelope. -/
theorem AlP.cells (h : AlP w P q b1 b2 T1 T2 bl G) {id : Int} {s : SetA} (e : setA G id = some s) {k : Nat} (hk : k < s.n) :
    w.cell? ⟨bl id, k * 5, none⟩ = some (.bool (s.up (k : Int))) ∧ w.cell? ⟨bl id, k * 5 + 1, none⟩ = some (.int .i64 (leftA G s k).a) ∧ w.cell? ⟨bl id, k * 5 + 2, none⟩ = some (.int .i64 (leftA G s k).b) ∧
      w.cell? ⟨bl id, k * 5 + 3, none⟩ = some (.int .i64 (leftA G s k).c) ∧ w.cell? ⟨bl id, k * 5 + 4, none⟩ = some (.int .i64 (leftA G s k).d) ∧ ∀ j, w.frozen? ⟨bl id, j, none⟩ = false := by
  obtain ⟨g, cap, hv, _, _, _, hf, hc⟩ := (h.rowL e).some (by rw [envs_len]; omega)
  simp only [Value.slice.injEq, Option.some.injEq, Addr.mk.injEq, and_true] at hv
  obtain ⟨rfl, _⟩ := hv
  have hi := envs_at G s hk
  exact ⟨hc k _ hi 0 _ rfl, hc k _ hi 1 _ rfl, hc k _ hi 2 _ rfl, hc k _ hi 3 _ rfl, hc k _ hi 4 _ rfl, hf⟩
/-- An envelope that has none inside is turned. -/
theorem AlP.turned (h : AlP w P q b1 b2 T1 T2 bl G) {id : Int} {s : SetA} (e : setA G id = some s) {k : Nat} (hk : k < s.n) {b : Bool} (hu : s.up (k : Int) = !b) (hno : ∀ x ∈ G.tasks, inE id (k : Int) x = false) :
    AlP (w.setCell ⟨bl id, k * 5, none⟩ (.bool b)) P q b1 b2 T1 T2 bl (turnG G id k b) := by
  have hid := set_id h.good e
  have ht : (turnG G id k b).tasks = G.tasks := List.filter_eq_self.2 fun x hx => by rw [hno x hx]; rfl
  have htk : ∀ t, tkA (turnG G id k b) t = tkA G t := fun t => by unfold tkA; rw [ht]
  have hle : ∀ (z : SetA) j, leftA (turnG G id k b) z j = leftA G z j := fun z j => by unfold leftA; rw [ht]
  have hst := (h.rowL e).stored (i := k) (r := 0) (x' := ⟨b, leftA G s k⟩) (u := .bool b) (envs_at G s hk) (by decide) rfl
  rw [Nat.add_zero, List.length_set, envs_len] at hst
  have hb2 := h.r2 e
  refine h.upd e (s' := s.turn k b) (by simp [World.setCell]) (fun j _ _ hj => heap_setCell_other _ _ _ _ hj) (h.m2.same (heap_setCell_other _ _ _ _ hb2.symm)) ?_ rfl ?_ (fun j hj => ?_) (fun j t _ ht' => ?_) (fun t => by rw [htk]; exact h.seats t) (h.good.turnG e hu)
  · rw [turn_set, e, Option.map_some, if_pos hid]
  · have he : envs (turnG G id k b) (s.turn k b) = (envs G s).set k ⟨b, leftA G s k⟩ := by
      refine envs_set (s := s) (s' := s.turn k b) rfl ⟨?_, ?_⟩ fun j hj => ⟨?_, ?_⟩
      · show (if (k : Int) = (k : Int) then b else _) = b
        rw [if_pos rfl]
      · rw [hle]; rfl
      · show (if (j : Int) = (k : Int) then b else s.up j) = s.up j
        rw [if_neg (by omega)]
      · rw [hle]; rfl
    rw [he]; exact hst
  · rw [turn_set]
    cases e4 : setA G j with
    | none => rfl
    | some z => rw [Option.map_some, if_neg (by rw [set_id h.good e4]; exact hj)]
  · exact envs_ext rfl fun i _ => ⟨rfl, hle t i⟩
end
end Go.Proofs.YtbdnfppbiplpmaaDoor
