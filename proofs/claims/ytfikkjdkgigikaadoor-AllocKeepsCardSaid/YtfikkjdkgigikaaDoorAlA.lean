/- The program's book of envelopes in memory: two maps and the rows of envelopes; what it finds. Conditions: the book lies in memory as its maps have it; the sentinels lie where the program's text lays them. -/
import Derived.Test.YtfikkjdkgigikaaDoorTkE
import Derived.Test.YtfikkjdkgigikaaDoorChP
import Derived.Test.YtfikkjdkgigikaaDoorErrs
import Derived.Test.YtfikkjdkgigikaaDoorVecAdd
import Derived.IntWalk
namespace Go.Proofs.YtfikkjdkgigikaaDoor
open Go Go.RowKit Go.Maps

/-- An envelope, as the program has it. -/
structure EnvR where
  up : Bool
  left : V4
/-- A task's seat. -/
structure SeatR where
  set : Int
  pos : Int
  need : V4
def encEnv : EncK EnvR 5 where
  enc x := [.bool x.up, .int .i64 x.left.a, .int .i64 x.left.b, .int .i64 x.left.c, .int .i64 x.left.d]
  len _ := rfl
  one x u hu := by simp at hu; rcases hu with rfl | rfl | rfl | rfl | rfl <;> rfl
def seat0 : SeatR := ⟨0, 0, ⟨0, 0, 0, 0⟩⟩
def encSeat (x : SeatR) : Value := .agg #[.int .i64 x.set, .int .i64 x.pos, .int .i64 x.need.a, .int .i64 x.need.b, .int .i64 x.need.c, .int .i64 x.need.d]
def slV : Option (Nat × Nat) → Value
  | none => .slice none 0 0
  | some (g, n) => .slice (some ⟨g, 0, none⟩) n n
theorem Tryd.zeroSl (w : World) : (zeroValue 81).run Tryd.prog w = .ok (slV none) w := Tryd.zeroValue81 w
theorem Tryd.zeroSeat (w : World) : (zeroValue 86).run Tryd.prog w = .ok (encSeat seat0) w := Tryd.zeroValue86 w
/-- The envelopes of a set. -/
def envs (G : AG) (s : SetA) : List EnvR := (List.range s.n).map fun (k : Nat) => ⟨s.up (k : Int), leftA G s (k : Int)⟩
theorem envs_len (G : AG) (s : SetA) : (envs G s).length = s.n := by simp [envs]
theorem envs_at (G : AG) (s : SetA) {k : Nat} (h : k < s.n) : (envs G s)[k]? = some ⟨s.up (k : Int), leftA G s (k : Int)⟩ := by simp [envs, h]
/-- The sets by number, the seats by task. -/
abbrev SetsAt (w : World) (b : Nat) (T : List (Int × Option (Nat × Nat))) : Prop := MapG Tryd.prog 3 (Lit.int .i64) i64 slV w b T
abbrev SeatsAt (w : World) (b : Nat) (T : List (Tk × SeatR)) : Prop := MapG Tryd.prog 32 klT okT encSeat w b T
/-- Block q is the program's book that has G; all its blocks are of P. -/
structure AlP (w : World) (P : Nat → Prop) (q b1 b2 : Nat) (T1 : List (Int × Option (Nat × Nat))) (T2 : List (Tk × SeatR)) (bl : Int → Nat) (G : AG) : Prop where
  box : w.heap[q]? = some (.cells #[.map (some b1), .map (some b2)] 77 (0, 0))
  m1 : SetsAt w b1 T1
  m2 : SeatsAt w b2 T2
  ne : b1 ≠ b2
  sets : ∀ id, look T1 id = (setA G id).map fun s => some (bl id, s.n)
  rows : ∀ id s, setA G id = some s → OwnE encEnv 84 w 0 (.slice (some ⟨bl id, 0, none⟩) s.n s.n) (envs G s)
  inj : ∀ i j s t, setA G i = some s → setA G j = some t → bl i = bl j → i = j
  seats : ∀ t, look T2 t = (tkA G t).map fun x => ⟨x.set, x.pos, x.need⟩
  good : GA G
  pq : P q
  p1 : P b1
  p2 : P b2
  pr : ∀ id s, setA G id = some s → P (bl id)
  old : ∀ k, P k → k < w.heap.size
def AlW (w : World) (P : Nat → Prop) (q : Nat) (G : AG) : Prop := ∃ b1 b2 T1 T2 bl, AlP w P q b1 b2 T1 T2 bl G
section
variable {w w' : World} {P : Nat → Prop} {q b1 b2 : Nat} {T1 : List (Int × Option (Nat × Nat))} {T2 : List (Tk × SeatR)} {bl : Int → Nat} {G : AG}
theorem AlP.same (h : AlP w P q b1 b2 T1 T2 bl G) (hs : w.heap.size ≤ w'.heap.size) (hb : ∀ k, P k → w'.heap[k]? = w.heap[k]?) : AlP w' P q b1 b2 T1 T2 bl G where
  box := (hb q h.pq).trans h.box
  m1 := h.m1.same (hb b1 h.p1)
  m2 := h.m2.same (hb b2 h.p2)
  ne := h.ne
  sets := h.sets
  rows := fun id s e => (h.rows id s e).same fun k hk => by simp [Value.ownBlock] at hk; subst hk; exact hb _ (h.pr id s e)
  inj := h.inj
  seats := h.seats
  good := h.good
  pq := h.pq
  p1 := h.p1
  p2 := h.p2
  pr := h.pr
  old := fun k hk => Nat.lt_of_lt_of_le (h.old k hk) hs
theorem AlP.on (h : AlP w P q b1 b2 T1 T2 bl G) (hb : Below w.heap.size w w') : AlP w' P q b1 b2 T1 T2 bl G := h.same hb.size fun k hk => hb.block k (h.old k hk)
theorem AlP.far {R : Nat → Prop} (h : AlP w P q b1 b2 T1 T2 bl G) (hc : ChP R w w') (hR : ∀ k, P k → ¬ R k) : AlP w' P q b1 b2 T1 T2 bl G := h.same hc.size fun k hk => hc.block k (h.old k hk) (hR k hk)
theorem AlP.drew (h : AlP w P q b1 b2 T1 T2 bl G) : AlP w.drew P q b1 b2 T1 T2 bl G := h.on (Below.refl _ _).drew
theorem AlP.any (h : AlP w P q b1 b2 T1 T2 bl G) : AlW w P q G := ⟨_, _, _, _, _, h⟩
theorem AlW.on (h : AlW w P q G) (hb : Below w.heap.size w w') : AlW w' P q G := by obtain ⟨_, _, _, _, _, h⟩ := h; exact (h.on hb).any
theorem AlW.far {R : Nat → Prop} (h : AlW w P q G) (hc : ChP R w w') (hR : ∀ k, P k → ¬ R k) : AlW w' P q G := by obtain ⟨_, _, _, _, _, h⟩ := h; exact (h.far hc hR).any
theorem AlW.drew (h : AlW w P q G) : AlW w.drew P q G := h.on (Below.refl _ _).drew
theorem AlW.good (h : AlW w P q G) : GA G := by obtain ⟨_, _, _, _, _, h⟩ := h; exact h.good
theorem AlW.old (h : AlW w P q G) : ∀ k, P k → k < w.heap.size := by obtain ⟨_, _, _, _, _, h⟩ := h; exact h.old
theorem AlW.pq (h : AlW w P q G) : P q := by obtain ⟨_, _, _, _, _, h⟩ := h; exact h.pq
theorem AlP.lt (h : AlP w P q b1 b2 T1 T2 bl G) : q < w.heap.size := lt_of_row h.box
/-- Its blocks are apart. -/
theorem AlP.map1 (h : AlP w P q b1 b2 T1 T2 bl G) : ∃ es c, w.heap[b1]? = some (.map es c) := by obtain ⟨D, ⟨es, c, hb, _⟩, _⟩ := h.m1; exact ⟨es, c, hb⟩
theorem AlP.map2 (h : AlP w P q b1 b2 T1 T2 bl G) : ∃ es c, w.heap[b2]? = some (.map es c) := by obtain ⟨D, ⟨es, c, hb, _⟩, _⟩ := h.m2; exact ⟨es, c, hb⟩
theorem AlP.row (h : AlP w P q b1 b2 T1 T2 bl G) {id : Int} {s : SetA} (e : setA G id = some s) : ∃ cur, w.heap[bl id]? = some (.cells cur 84 (0, 0)) := by
  obtain ⟨cur, hh, _⟩ := ownE_raw (h.rows id s e); exact ⟨cur, hh⟩
theorem AlP.q1 (h : AlP w P q b1 b2 T1 T2 bl G) : q ≠ b1 := by intro e; obtain ⟨_, _, k⟩ := h.map1; rw [← e, h.box] at k; cases k
theorem AlP.q2 (h : AlP w P q b1 b2 T1 T2 bl G) : q ≠ b2 := by intro e; obtain ⟨_, _, k⟩ := h.map2; rw [← e, h.box] at k; cases k
theorem AlP.qr (h : AlP w P q b1 b2 T1 T2 bl G) {id : Int} {s : SetA} (e : setA G id = some s) : bl id ≠ q := by
  intro k; obtain ⟨_, k2⟩ := h.row e; rw [k, h.box] at k2
  simp at k2
theorem AlP.r1 (h : AlP w P q b1 b2 T1 T2 bl G) {id : Int} {s : SetA} (e : setA G id = some s) : bl id ≠ b1 := by
  intro k; obtain ⟨_, k2⟩ := h.row e; obtain ⟨_, _, k3⟩ := h.map1; rw [k, k3] at k2; cases k2
theorem AlP.r2 (h : AlP w P q b1 b2 T1 T2 bl G) {id : Int} {s : SetA} (e : setA G id = some s) : bl id ≠ b2 := by
  intro k; obtain ⟨_, k2⟩ := h.row e; obtain ⟨_, _, k3⟩ := h.map2; rw [k, k3] at k2; cases k2
theorem AlP.hit (h : AlP w P q b1 b2 T1 T2 bl G) {id : Int} {s : SetA} (e : setA G id = some s) : look T1 id = some (some (bl id, s.n)) := by rw [h.sets, e]; rfl
theorem AlP.miss (h : AlP w P q b1 b2 T1 T2 bl G) {id : Int} (e : setA G id = none) : look T1 id = none := by rw [h.sets, e]; rfl
theorem keys_nodup {G : AG} (h : GA G) : (G.tasks.map (·.tk)).Nodup := List.pairwise_map.2 h.tks
theorem ids_nodup {G : AG} (h : GA G) : (G.sets.map (·.id)).Nodup := List.pairwise_map.2 h.ids
theorem AlP.keys1 (h : AlP w P q b1 b2 T1 T2 bl G) : (T1.map (·.1)).Perm (G.sets.map (·.id)) := by
  refine (List.perm_ext_iff_of_nodup h.m1.apart.nodup (ids_nodup h.good)).2 fun x => ?_
  rw [← look_keys, h.sets]
  cases e : setA G x with
  | none =>
    have := set_none.1 e
    simp only [Option.map_none, Option.isSome_none, Bool.false_eq_true, false_iff, List.mem_map, not_exists, not_and]
    exact this
  | some s =>
    have := (set_iff h.good).1 e
    simp only [Option.map_some, Option.isSome_some, true_iff, List.mem_map]
    exact ⟨s, this⟩
theorem AlP.keys2 (h : AlP w P q b1 b2 T1 T2 bl G) : (T2.map (·.1)).Perm (G.tasks.map (·.tk)) := by
  refine (List.perm_ext_iff_of_nodup h.m2.apart.nodup (keys_nodup h.good)).2 fun x => ?_
  rw [← look_keys, h.seats]
  cases e : tkA G x with
  | none =>
    have := tk_none.1 e
    simp only [Option.map_none, Option.isSome_none, Bool.false_eq_true, false_iff, List.mem_map, not_exists, not_and]
    exact this
  | some s =>
    have := (tk_iff h.good).1 e
    simp only [Option.map_some, Option.isSome_some, true_iff, List.mem_map]
    exact ⟨s, this⟩
theorem AlP.len1 (h : AlP w P q b1 b2 T1 T2 bl G) : T1.length = G.sets.length := by have := h.keys1.length_eq; simpa using this
theorem AlP.len2 (h : AlP w P q b1 b2 T1 T2 bl G) : T2.length = G.tasks.length := by have := h.keys2.length_eq; simpa using this
end

/-- alloc.New. -/
theorem anew_c (w : World) : Calls Tryd.prog 7 #[] w fun e w' => ∃ q, e = .returned (.pointer (some ⟨q, 0, none⟩)) ∧ AlW w' (fun k => w.heap.size ≤ k ∧ k < w'.heap.size) q ⟨[], []⟩ ∧ Below w.heap.size w w' := by
  have hmm := @run_makeMap Tryd.prog
  go_enter Tryd.func7, Tryd.ntmps7
  go_wp2
  go_ret
  obtain ⟨W1, hW1⟩ : ∃ W1, w.alloc (.map #[] 0) = W1 := ⟨_, rfl⟩
  have s1 : W1.heap.size = w.heap.size + 1 := by rw [← hW1]; simp
  have m1 : SetsAt W1 w.heap.size [] := by rw [← hW1]; exact MapG.made _ _ _ _ _ _
  have b1 : Below w.heap.size w W1 := by rw [← hW1]; exact (Below.refl _ _).alloc (Nat.le_refl _) _
  obtain ⟨W2, hW2⟩ : ∃ W2, W1.alloc (.map #[] 0) = W2 := ⟨_, rfl⟩
  have s2 : W2.heap.size = w.heap.size + 2 := by rw [← hW2]; simp [s1]
  have m2 : SeatsAt W2 (w.heap.size + 1) [] := by rw [← hW2, ← s1]; exact MapG.made _ _ _ _ _ _
  have m1' : SetsAt W2 w.heap.size [] := by rw [← hW2]; exact m1.alloc _
  have b2 : Below w.heap.size w W2 := by rw [← hW2]; exact b1.alloc b1.size _
  rw [hW1, hW2]
  refine ⟨w.heap.size + 2, by simp, ⟨w.heap.size, w.heap.size + 1, [], [], fun _ => 0, ?_⟩, b2.alloc b2.size _⟩
  refine ⟨?_, m1'.alloc _, m2.alloc _, by omega, fun _ => rfl, fun _ _ e => (by cases e), fun _ _ _ _ e => (by cases e), fun _ => rfl, GA.empty, ?_, ?_, ?_, fun _ _ e => (by cases e), fun k hk => hk.2⟩
  · rw [← s2]; exact heap_alloc_new _ _
  all_goals (simp [s2] <;> omega)

/-- What a book has. -/
theorem aknown_c (q b1 b2 : Nat) (w : World) (h : w.heap[q]? = some (.cells #[.map (some b1), .map (some b2)] 77 (0, 0))) :
    Calls Tryd.prog 37 #[.pointer (some ⟨q, 0, none⟩)] w fun e w' => e = .returned (.agg #[.map (some b1), .map (some b2)]) ∧ Below w.heap.size w w' := by
  have hq := lt_of_row h
  have h1 := (Below.heap_alloc w (.cells #[.map none, .map none] 77) q hq).trans h
  have c0 := cell_of_heap h1 0
  have c1 := cell_of_heap h1 1
  have cf := frozen_of_heap h1
  have hqn : ¬ q = w.heap.size := by omega
  clear h h1
  go_enter Tryd.func37, Tryd.ntmps37
  go_wp2
  refine bodyPost_ret (v := .agg #[.map (some b1), .map (some b2)]) (by simp [results, Tryd.results37, go_sem]) rfl ?_
  exact ⟨rfl, by (repeat' (first | (with_reducible exact Below.refl _ _) | (with_reducible refine below_drewN ?_ _) | (with_reducible refine Below.drew ?_) | (with_reducible refine Below.alloc ?_ ?_ _) | (with_reducible refine Below.setCell ?_ ?_ _) | (with_reducible refine Below.trans ?_ (Below.mono (by with_reducible assumption) ?_)) | omega | (simp only [World.size_alloc, World.size_setCell, World.size_drew, Go.Proofs.YtfikkjdkgigikaaDoor.World.size_drewN] at *; omega) | (with_reducible refine Below.size (B := 0) ?_)))⟩
/-- A nil book has nothing. -/
theorem aknown_nil (w : World) : Calls Tryd.prog 37 #[.pointer none] w fun e w' => e = .returned (.agg #[.map none, .map none]) ∧ Below w.heap.size w w' := by
  go_enter Tryd.func37, Tryd.ntmps37
  go_wp2
  refine bodyPost_ret (v := .agg #[.map none, .map none]) (by simp [results, Tryd.results37, go_sem]) rfl ?_
  exact ⟨rfl, by (repeat' (first | (with_reducible exact Below.refl _ _) | (with_reducible refine below_drewN ?_ _) | (with_reducible refine Below.drew ?_) | (with_reducible refine Below.alloc ?_ ?_ _) | (with_reducible refine Below.setCell ?_ ?_ _) | (with_reducible refine Below.trans ?_ (Below.mono (by with_reducible assumption) ?_)) | omega | (simp only [World.size_alloc, World.size_setCell, World.size_drew, Go.Proofs.YtfikkjdkgigikaaDoor.World.size_drewN] at *; omega) | (with_reducible refine Below.size (B := 0) ?_)))⟩
end Go.Proofs.YtfikkjdkgigikaaDoor
