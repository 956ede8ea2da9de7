/- The program's book of envelopes in memory: what a store, an entry and a deletion make of it. Condition: the book lies in memory as its maps have it. -/
import Derived.Test.YtfikkjdkgigikaaDoorAlC
namespace Go.Proofs.YtfikkjdkgigikaaDoor
open Go Go.RowKit Go.Maps

theorem envs_ext {G G' : AG} {s s' : SetA} (hn : s'.n = s.n) (h : ∀ k : Nat, k < s.n → s'.up (k : Int) = s.up (k : Int) ∧ leftA G' s' (k : Int) = leftA G s (k : Int)) : envs G' s' = envs G s := by
  unfold envs
  rw [hn]
  refine List.map_congr_left fun k hk => ?_
  obtain ⟨h1, h2⟩ := h k (List.mem_range.1 hk)
  rw [h1, h2]
theorem envs_set {G G' : AG} {s s' : SetA} (hn : s'.n = s.n) {k : Nat} {r : EnvR} (hk : s'.up (k : Int) = r.up ∧ leftA G' s' (k : Int) = r.left)
    (h : ∀ j : Nat, j ≠ k → s'.up (j : Int) = s.up (j : Int) ∧ leftA G' s' (j : Int) = leftA G s (j : Int)) : envs G' s' = (envs G s).set k r := by
  unfold envs
  apply List.ext_getElem?
  intro j
  rw [List.getElem?_set]
  simp only [List.getElem?_map, List.length_map, List.length_range, hn]
  by_cases hj : j < s.n
  · rw [List.getElem?_range hj]
    by_cases e : k = j
    · subst e
      rw [if_pos rfl, if_pos hj, Option.map_some, hk.1, hk.2]
    · rw [if_neg e, Option.map_some, Option.map_some, (h j (Ne.symm e)).1, (h j (Ne.symm e)).2]
  · rw [List.getElem?_eq_none (l := List.range s.n) (by simpa using hj)]
    by_cases e : k = j
    · subst e; rw [if_pos rfl, if_neg hj]; rfl
    · rw [if_neg e]; rfl
/-- Behind a store of what is left. -/
theorem own_left {e : TypeId} {w : World} {base g cap : Nat} {L : List EnvR} (h : OwnE encEnv e w base (.slice (some ⟨g, 0, none⟩) L.length cap) L) {k : Nat} {r : EnvR} (hk : L[k]? = some r) (x : V4) :
    OwnE encEnv e ((((w.setCell ⟨g, k * 5 + 1, none⟩ (.int .i64 x.a)).setCell ⟨g, k * 5 + 2, none⟩ (.int .i64 x.b)).setCell ⟨g, k * 5 + 3, none⟩ (.int .i64 x.c)).setCell ⟨g, k * 5 + 4, none⟩ (.int .i64 x.d)) base
      (.slice (some ⟨g, 0, none⟩) L.length cap) (L.set k ⟨r.up, x⟩) := by
  have hl := (List.getElem?_eq_some_iff.1 hk).1
  have h1 := h.stored (r := 1) (x' := ⟨r.up, ⟨x.a, r.left.b, r.left.c, r.left.d⟩⟩) (u := .int .i64 x.a) hk (by decide) rfl
  have h2 := h1.stored (i := k) (r := 2) (x := ⟨r.up, ⟨x.a, r.left.b, r.left.c, r.left.d⟩⟩) (x' := ⟨r.up, ⟨x.a, x.b, r.left.c, r.left.d⟩⟩) (u := .int .i64 x.b) (by simp [hl]) (by decide) rfl
  have h3 := h2.stored (i := k) (r := 3) (x := ⟨r.up, ⟨x.a, x.b, r.left.c, r.left.d⟩⟩) (x' := ⟨r.up, ⟨x.a, x.b, x.c, r.left.d⟩⟩) (u := .int .i64 x.c) (by simp [hl]) (by decide) rfl
  have h4 := h3.stored (i := k) (r := 4) (x := ⟨r.up, ⟨x.a, x.b, x.c, r.left.d⟩⟩) (x' := ⟨r.up, x⟩) (u := .int .i64 x.d) (by simp [hl]) (by decide) rfl
  simpa [List.set_set] using h4
section
variable {w w' : World} {P : Nat → Prop} {q b1 b2 : Nat} {T1 : List (Int × Option (Nat × Nat))} {T2 T2' : List (Tk × SeatR)} {bl : Int → Nat} {G G' : AG}
/-- One row and the seats have turned. -/
theorem AlP.upd (h : AlP w P q b1 b2 T1 T2 bl G) {id : Int} {s s' : SetA} (e : setA G id = some s) (hs : w.heap.size ≤ w'.heap.size) (keep : ∀ k, P k → k ≠ b2 → k ≠ bl id → w'.heap[k]? = w.heap[k]?)
    (m2 : SeatsAt w' b2 T2') (e' : setA G' id = some s') (hn : s'.n = s.n) (row : OwnE encEnv 84 w' 0 (.slice (some ⟨bl id, 0, none⟩) s.n s.n) (envs G' s'))
    (oth : ∀ j, j ≠ id → setA G' j = setA G j) (env : ∀ j t, j ≠ id → setA G j = some t → envs G' t = envs G t)
    (seats : ∀ t, look T2' t = (tkA G' t).map fun x => ⟨x.set, x.pos, x.need⟩) (good : GA G') : AlP w' P q b1 b2 T1 T2' bl G' where
  box := (keep q h.pq h.q2 (h.qr e).symm).trans h.box
  m1 := h.m1.same (keep b1 h.p1 h.ne (h.r1 e).symm)
  m2 := m2
  ne := h.ne
  sets := fun j => by
    by_cases hj : j = id
    · subst hj; rw [h.sets, e, e', Option.map_some, Option.map_some, hn]
    · rw [h.sets, oth j hj]
  rows := fun j t ht => by
    by_cases hj : j = id
    · subst hj
      rw [e'] at ht
      obtain rfl := Option.some.inj ht
      rw [hn]; exact row
    · rw [oth j hj] at ht
      rw [env j t hj ht]
      refine (h.rows j t ht).same fun k hk => ?_
      simp [Value.ownBlock] at hk; subst hk
      exact keep _ (h.pr j t ht) (h.r2 ht) fun e3 => hj (h.inj _ _ _ _ ht e e3)
  inj := fun i j a b ha hb => by
    have key : ∀ i a, setA G' i = some a → ∃ a', setA G i = some a' := fun i a ha => by
      by_cases hi : i = id
      · subst hi; exact ⟨s, e⟩
      · exact ⟨a, (oth i hi) ▸ ha⟩
    obtain ⟨a', ha'⟩ := key i a ha
    obtain ⟨b', hb'⟩ := key j b hb
    exact h.inj i j a' b' ha' hb'
  seats := seats
  good := good
  pq := h.pq
  p1 := h.p1
  p2 := h.p2
  pr := fun j t ht => by
    by_cases hj : j = id
    · subst hj; exact h.pr j s e
    · rw [oth j hj] at ht; exact h.pr j t ht
  old := fun k hk => Nat.lt_of_lt_of_le (h.old k hk) hs

theorem AlP.rowL (h : AlP w P q b1 b2 T1 T2 bl G) {id : Int} {s : SetA} (e : setA G id = some s) : OwnE encEnv 84 w 0 (.slice (some ⟨bl id, 0, none⟩) (envs G s).length s.n) (envs G s) := by
  rw [envs_len]; exact h.rows id s e
/-- The cells of an envelope. -/
theorem AlP.cells (h : AlP w P q b1 b2 T1 T2 bl G) {id : Int} {s : SetA} (e : setA G id = some s) {k : Nat} (hk : k < s.n) :
    w.cell? ⟨bl id, k * 5, none⟩ = some (.bool (s.up (k : Int))) ∧ w.cell? ⟨bl id, k * 5 + 1, none⟩ = some (.int .i64 (leftA G s k).a) ∧ w.cell? ⟨bl id, k * 5 + 2, none⟩ = some (.int .i64 (leftA G s k).b) ∧
      w.cell? ⟨bl id, k * 5 + 3, none⟩ = some (.int .i64 (leftA G s k).c) ∧ w.cell? ⟨bl id, k * 5 + 4, none⟩ = some (.int .i64 (leftA G s k).d) ∧ ∀ j, w.frozen? ⟨bl id, j, none⟩ = false := by
  obtain ⟨g, cap, hv, _, _, _, hf, hc⟩ := (h.rowL e).some (by rw [envs_len]; omega)
  simp only [Value.slice.injEq, Option.some.injEq, Addr.mk.injEq, and_true] at hv
  obtain ⟨rfl, _⟩ := hv
  have hi := envs_at G s hk
  exact ⟨hc k _ hi 0 _ rfl, hc k _ hi 1 _ rfl, hc k _ hi 2 _ rfl, hc k _ hi 3 _ rfl, hc k _ hi 4 _ rfl, hf⟩
/-- An envelope that has none inside is turned. -/
theorem AlP.turned (h : AlP w P q b1 b2 T1 T2 bl G) {id : Int} {s : SetA} (e : setA G id = some s) {k : Nat} (hk : k < s.n) {b : Bool} (hu : s.up (k : Int) = !b) (hno : ∀ x ∈ G.tasks, inE id (k : Int) x = false) :
    AlP (w.setCell ⟨bl id, k * 5, none⟩ (.bool b)) P q b1 b2 T1 T2 bl (turnG G id k b) := by
  have hid := set_id h.good e
  have ht : (turnG G id k b).tasks = G.tasks := List.filter_eq_self.2 fun x hx => by rw [hno x hx]; rfl
  have htk : ∀ t, tkA (turnG G id k b) t = tkA G t := fun t => by unfold tkA; rw [ht]
  have hle : ∀ (z : SetA) j, leftA (turnG G id k b) z j = leftA G z j := fun z j => by unfold leftA; rw [ht]
  have hst := (h.rowL e).stored (i := k) (r := 0) (x' := ⟨b, leftA G s k⟩) (u := .bool b) (envs_at G s hk) (by decide) rfl
  rw [Nat.add_zero, List.length_set, envs_len] at hst
  have hb2 := h.r2 e
  refine h.upd e (s' := s.turn k b) (by simp [World.setCell]) (fun j _ _ hj => heap_setCell_other _ _ _ _ hj) (h.m2.same (heap_setCell_other _ _ _ _ hb2.symm)) ?_ rfl ?_ (fun j hj => ?_) (fun j t _ ht' => ?_) (fun t => by rw [htk]; exact h.seats t) (h.good.turnG e hu)
  · rw [turn_set, e, Option.map_some, if_pos hid]
  · have he : envs (turnG G id k b) (s.turn k b) = (envs G s).set k ⟨b, leftA G s k⟩ := by
      refine envs_set (s := s) (s' := s.turn k b) rfl ⟨?_, ?_⟩ fun j hj => ⟨?_, ?_⟩
      · show (if (k : Int) = (k : Int) then b else _) = b
        rw [if_pos rfl]
      · rw [hle]; rfl
      · show (if (j : Int) = (k : Int) then b else s.up j) = s.up j
        rw [if_neg (by omega)]
      · rw [hle]; rfl
    rw [he]; exact hst
  · rw [turn_set]
    cases e4 : setA G j with
    | none => rfl
    | some z => rw [Option.map_some, if_neg (by rw [set_id h.good e4]; exact hj)]
  · exact envs_ext rfl fun i _ => ⟨rfl, hle t i⟩
end
end Go.Proofs.YtfikkjdkgigikaaDoor
