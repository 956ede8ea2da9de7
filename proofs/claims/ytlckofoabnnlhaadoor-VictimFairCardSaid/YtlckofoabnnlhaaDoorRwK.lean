/- Rows of anything that calls have made: a slice whose elements take n cells each reads as a list. No conditions. -/
import Derived.Test.YtlckofoabnnlhaaDoorChg
import Derived.Deep.AppendLies
import Derived.Maps.AppendAt
import Derived.Laws.AppendOwnNone
import Derived.Laws.Slices
namespace Go.Proofs.YtlckofoabnnlhaaDoor
open Go Go.RowKit

/-- How an element lies in n cells. -/
structure EncK (α : Type) (n : Nat) where
  enc : α → List Value
  len : ∀ x, (enc x).length = n
  one : ∀ x, ∀ u ∈ enc x, u.oneCell' = true

section
variable {α : Type} {n : Nat} (E : EncK α n)
/-- The cells of a list. -/
def cellsE (L : List α) : List Value := L.flatMap E.enc
theorem cellsE_len (L : List α) : (cellsE E L).length = L.length * n := by
  induction L with
  | nil => simp [cellsE]
  | cons x L ih => unfold cellsE at *; rw [List.flatMap_cons, List.length_append, ih, List.length_cons, E.len, Nat.succ_mul]; omega
theorem cellsE_nil : cellsE E [] = [] := rfl
theorem cellsE_cons (x : α) (L : List α) : cellsE E (x :: L) = E.enc x ++ cellsE E L := by unfold cellsE; rw [List.flatMap_cons]
theorem cellsE_app (L M : List α) : cellsE E L ++ cellsE E M = cellsE E (L ++ M) := by unfold cellsE; rw [List.flatMap_append]
theorem cellsE_one (x : α) : cellsE E [x] = E.enc x := by simp [cellsE]
theorem cellsE_get : ∀ (L : List α) (i r : Nat) {x : α}, L[i]? = some x → r < n → (cellsE E L)[i * n + r]? = (E.enc x)[r]?
  | [], _, _, _, h, _ => by cases h
  | y :: L, 0, r, x, h, hr => by
    cases h
    rw [cellsE_cons, List.getElem?_append_left (by rw [E.len]; omega)]
    simp
  | y :: L, i + 1, r, x, h, hr => by
    have ih := cellsE_get L i r (x := x) (by simpa using h) hr
    have e : (i + 1) * n + r = n + (i * n + r) := by rw [Nat.succ_mul]; omega
    rw [cellsE_cons, e, List.getElem?_append_right (by rw [E.len]; omega), ← ih, E.len]
    congr 1; omega
theorem cellsE_oneCell (L : List α) : ∀ u ∈ cellsE E L, u.oneCell' = true := by
  intro u hu
  obtain ⟨x, _, hx⟩ := List.mem_flatMap.1 hu
  exact E.one x u hx
theorem cellsE_take (L : List α) (i : Nat) : (cellsE E L).take (i * n) = cellsE E (L.take i) := by
  induction L generalizing i with
  | nil => simp [cellsE]
  | cons x L ih =>
    cases i with
    | zero => simp [cellsE]
    | succ i =>
      rw [List.take_succ_cons, cellsE_cons, cellsE_cons, ← ih i, Nat.succ_mul]
      rw [show i * n + n = (E.enc x).length + i * n by rw [E.len]; omega, List.take_length_add_append]
theorem cellsE_drop (L : List α) (i : Nat) : (cellsE E L).drop (i * n) = cellsE E (L.drop i) := by
  induction L generalizing i with
  | nil => simp [cellsE]
  | cons x L ih =>
    cases i with
    | zero => simp
    | succ i =>
      rw [List.drop_succ_cons, cellsE_cons, ← ih i, Nat.succ_mul]
      rw [show i * n + n = (E.enc x).length + i * n by rw [E.len]; omega, List.drop_length_add_append]

theorem cellsE_set {x x' : α} {r : Nat} {u : Value} (hr : r < n) (he : E.enc x' = (E.enc x).set r u) : ∀ (L : List α) (i : Nat), L[i]? = some x → cellsE E (L.set i x') = (cellsE E L).set (i * n + r) u
  | [], _, h => by cases h
  | y :: L, 0, h => by
    cases h
    rw [List.set_cons_zero, cellsE_cons, cellsE_cons, he, Nat.zero_mul, Nat.zero_add, List.set_append_left _ _ (by rw [E.len]; exact hr)]
  | y :: L, i + 1, h => by
    have ih := cellsE_set hr he L i (by simpa using h)
    have e : (i + 1) * n + r = n + (i * n + r) := by rw [Nat.succ_mul]; omega
    rw [List.set_cons_succ, cellsE_cons, cellsE_cons, ih, e, List.set_append_right _ _ (by rw [E.len]; omega), E.len]
    congr 2; omega

/-- A slice that the calls have made reads as a list. -/
def OwnE (e : TypeId) (w : World) (base : Nat) (v : Value) (L : List α) : Prop := w.ownsRow base e n v L.length (cellsE E L)
variable {E}
theorem OwnE.nil (e : TypeId) (w : World) (base : Nat) : OwnE E e w base (.slice none 0 0) [] := ⟨by simp [cellsE], .inl ⟨rfl, rfl⟩⟩
theorem OwnE.form {e : TypeId} {w : World} {base : Nat} {v : Value} {L : List α} (h : OwnE E e w base v L) : ∃ A c, v = .slice A L.length c := by
  rcases h.2 with ⟨rfl, h0⟩ | ⟨g, cap, cur, rfl, _⟩
  · exact ⟨none, 0, by rw [h0]⟩
  · exact ⟨_, _, rfl⟩
theorem OwnE.same {e : TypeId} {w w' : World} {base : Nat} {v : Value} {L : List α} (h : OwnE E e w base v L) (hs : ∀ k, v.ownBlock = some k → w'.heap[k]? = w.heap[k]?) : OwnE E e w' base v L := own_same h hs
theorem OwnE.lt {e : TypeId} {w : World} {base : Nat} {v : Value} {L : List α} (h : OwnE E e w base v L) : ∀ k, v.ownBlock = some k → base ≤ k ∧ k < w.heap.size := World.ownsRow.lt h
theorem OwnE.on {e : TypeId} {w w' : World} {base : Nat} {v : Value} {L : List α} (h : OwnE E e w base v L) (hb : Below w.heap.size w w') : OwnE E e w' base v L := h.same fun k hk => hb.block k (h.lt k hk).2
theorem OwnE.base {e : TypeId} {w : World} {base base' : Nat} {v : Value} {L : List α} (h : OwnE E e w base v L) (hb : base' ≤ base) : OwnE E e w base' v L := by
  refine ⟨h.1, ?_⟩
  rcases h.2 with k | ⟨g, cap, cur, rfl, hg, r⟩
  · exact .inl k
  · exact .inr ⟨g, cap, cur, rfl, Nat.le_trans hb hg, r⟩
/-- A slice that holds something: its block, and its cells. -/
theorem OwnE.some {e : TypeId} {w : World} {base : Nat} {v : Value} {L : List α} (h : OwnE E e w base v L) (hn : 0 < L.length) :
    ∃ g cap, v = .slice (some ⟨g, 0, none⟩) L.length cap ∧ L.length ≤ cap ∧ base ≤ g ∧ g < w.heap.size ∧ (∀ j, w.frozen? ⟨g, j, none⟩ = false) ∧
      ∀ i x, L[i]? = some x → ∀ r u, (E.enc x)[r]? = some u → w.cell? ⟨g, i * n + r, none⟩ = some u := by
  rcases h.2 with ⟨rfl, h0⟩ | ⟨g, cap, cur, rfl, hb, hh, hnc, hc, hsz, ht⟩
  · omega
  · refine ⟨g, cap, rfl, hnc, hb, lt_of_block hh, fun j => by simp [World.frozen?, hh], fun i x hi r u hu => ?_⟩
    have hr : r < n := by
      have := (List.getElem?_eq_some_iff.1 hu).1
      rw [E.len] at this; exact this
    have hk := cellsE_get E L i r hi hr
    rw [hu, ← ht, List.getElem?_take] at hk
    split at hk
    · simpa [World.cell?, hh] using hk
    · cases hk
/-- An element's cells; the row's address told by a letter. -/
theorem OwnE.at {e : TypeId} {w : World} {base m c : Nat} {A : Option Addr} {L : List α} (h : OwnE E e w base (.slice A m c) L) {i : Nat} {x : α} (hi : L[i]? = Option.some x) :
    ∃ ad g, A = Option.some ad ∧ ad.add (i * n) = ⟨g, i * n, Option.none⟩ ∧ base ≤ g ∧ g < w.heap.size ∧ (∀ j, w.frozen? ⟨g, j, Option.none⟩ = false) ∧ ∀ r u, (E.enc x)[r]? = Option.some u → w.cell? ⟨g, i * n + r, Option.none⟩ = Option.some u := by
  obtain ⟨g, cap, hv, _, hb, hg, hf, hc⟩ := h.some (Nat.lt_of_le_of_lt (Nat.zero_le _) (List.getElem?_eq_some_iff.1 hi).1)
  simp only [Value.slice.injEq] at hv
  obtain ⟨rfl, _, _⟩ := hv
  exact ⟨_, g, rfl, by unfold Addr.add; split <;> simp_all, hb, hg, hf, hc i x hi⟩
/-- A slice value reads as a list, wherever it lies. -/
def LiesE (E : EncK α n) (w : World) (v : Value) (M : List α) : Prop :=
  (v = .slice none 0 0 ∧ M = []) ∨ ∃ ad c, v = .slice (some ad) M.length c ∧ M.length ≤ c ∧ (∀ j u, (cellsE E M)[j]? = some u → w.cell? (ad.add j) = some u)
theorem LiesE.form {w : World} {v : Value} {M : List α} (h : LiesE E w v M) : ∃ A c, v = .slice A M.length c := by
  rcases h with ⟨rfl, rfl⟩ | ⟨ad, c, rfl, _⟩
  · exact ⟨Option.none, 0, rfl⟩
  · exact ⟨_, _, rfl⟩
/-- An element's cells; the row's address told by a letter. -/
theorem LiesE.at {w : World} {m c : Nat} {A : Option Addr} {M : List α} (h : LiesE E w (.slice A m c) M) {i : Nat} {x : α} (hi : M[i]? = Option.some x) :
    ∃ ad, A = Option.some ad ∧ (0 < n → ad.block < w.heap.size) ∧ ∀ r u, (E.enc x)[r]? = Option.some u → w.cell? (ad.add (i * n + r)) = Option.some u := by
  rcases h with ⟨_, rfl⟩ | ⟨ad, c', hv, _, hc⟩
  · cases hi
  · simp only [Value.slice.injEq] at hv
    obtain ⟨rfl, _, _⟩ := hv
    have key : ∀ r u, (E.enc x)[r]? = Option.some u → w.cell? (ad.add (i * n + r)) = Option.some u := fun r u hu => by
      have hr : r < n := by
        have := (List.getElem?_eq_some_iff.1 hu).1
        rw [E.len] at this; exact this
      exact hc _ _ ((cellsE_get E M i r hi hr).trans hu)
    refine ⟨ad, rfl, fun hn => ?_, key⟩
    have h0 := key 0 ((E.enc x)[0]'(by rw [E.len]; exact hn)) (List.getElem?_eq_getElem _)
    have hb : (ad.add (i * n + 0)).block = ad.block := by unfold Addr.add; split <;> rfl
    rw [← hb]
    generalize ad.add (i * n + 0) = aa at h0
    rcases Nat.lt_or_ge aa.block w.heap.size with h1 | h1
    · exact h1
    · simp [World.cell?, Array.getElem?_eq_none h1] at h0
theorem OwnE.lies {e : TypeId} {w : World} {base : Nat} {v : Value} {L : List α} (h : OwnE E e w base v L) : LiesE E w v L := by
  rcases h.2 with ⟨rfl, h0⟩ | ⟨g, cap, cur, rfl, hb, hh, hnc, hc, hsz, ht⟩
  · exact .inl ⟨rfl, List.eq_nil_of_length_eq_zero h0⟩
  · refine .inr ⟨_, _, rfl, hnc, fun j u hu => ?_⟩
    rw [← ht, List.getElem?_take] at hu
    split at hu
    · rw [show (⟨g, 0, none⟩ : Addr).add j = ⟨g, j, none⟩ by unfold Addr.add; split <;> simp_all]
      simpa [World.cell?, hh] using hu
    · cases hu
theorem LiesE.on {w w' : World} {v : Value} {M : List α} (h : LiesE E w v M) (hb : ∀ a u, w.cell? a = some u → w'.cell? a = some u) : LiesE E w' v M := by
  rcases h with h | ⟨ad, c, h1, h2, h3⟩
  · exact .inl h
  · exact .inr ⟨ad, c, h1, h2, fun j u hu => hb _ _ (h3 j u hu)⟩
theorem LiesE.onB {w w' : World} {v : Value} {M : List α} (h : LiesE E w v M) (hb : Below w.heap.size w w') : LiesE E w' v M := h.on fun a u hu => by
  have hl : a.block < w.heap.size := by
    rcases Nat.lt_or_ge a.block w.heap.size with h1 | h1
    · exact h1
    · simp [World.cell?, Array.getElem?_eq_none h1] at hu
  exact (hb.cell hl).trans hu
/-- []T{}: a row of none in a block of its own. -/
theorem OwnE.none {e : TypeId} (w : World) {base : Nat} (hb : base ≤ w.heap.size) : OwnE E e (w.alloc (.cells #[] e)) base (.slice (Option.some ⟨w.heap.size, 0, Option.none⟩) 0 0) [] :=
  World.ownsRow_lit w #[] 0 hb (by unfold maxLen; omega) (by simp)
theorem add_addE (ad : Addr) (a b : Nat) : (ad.add a).add b = ad.add (a + b) := by
  unfold Addr.add; (repeat' split) <;> simp_all <;> omega
theorem add_zeroE (ad : Addr) : ad.add 0 = ad := by unfold Addr.add; simp
/-- What a slice has from a place on. -/
theorem LiesE.from {P : Program} {t e : TypeId} (ht : P.underlying t = some (.slice e)) (hz : ∀ W : World, (sizeOf e).run P W = .ok n W) {w : World} {v : Value} {L : List α} (h : LiesE E w v L) (k : IntKind) (l : Int) (i : Nat) (hl : l = i) (hi : i ≤ L.length) :
    ∃ X, (∀ W : World, (Instr.slice t v (some (.int k l)) none none).run P W = .ok X W) ∧ LiesE E w X (L.drop i) := by
  have he : P.elem t = e := by simp [Program.elem, ht]
  have ht' : P.underlying t = some (.slice (P.elem t)) := by rw [he]; exact ht
  subst hl
  rcases h with ⟨rfl, rfl⟩ | ⟨ad, c, rfl, h2, h3⟩
  · have hi0 : i = 0 := by simpa using hi
    subst hi0
    refine ⟨.slice none 0 0, fun W => ?_, .inl ⟨rfl, rfl⟩⟩
    rw [run_slice_l W t none 0 0 ht' k ((0 : Nat) : Int) (by omega) (by omega), he]
    simp [hz, Result.andThen, sliced]
  · refine ⟨sliced (some ad) i L.length c n, fun W => ?_, ?_⟩
    · rw [run_slice_l W t (some ad) L.length c ht' k i (by omega) (by omega), he]
      simp [hz, Result.andThen]
    · by_cases hc : c = i
      · have hd : L.drop i = [] := List.drop_eq_nil_of_le (by omega)
        refine .inr ⟨ad, c - i, by simp [sliced, hc, hd]; omega, by rw [hd]; exact Nat.zero_le _, fun j u hu => ?_⟩
        rw [hd] at hu; cases hu
      · refine .inr ⟨ad.add (i * n), c - i, by simp [sliced, hc], by rw [List.length_drop]; omega, fun j u hu => ?_⟩
        rw [← cellsE_drop, List.getElem?_drop] at hu
        rw [add_addE]; exact h3 _ _ hu
/-- What a slice has up to a place. -/
theorem LiesE.upto {P : Program} {t e : TypeId} (ht : P.underlying t = some (.slice e)) (hz : ∀ W : World, (sizeOf e).run P W = .ok n W) {w : World} {v : Value} {L : List α} (h : LiesE E w v L) (k : IntKind) (l : Int) (i : Nat) (hl : l = i) (hi : i ≤ L.length) :
    ∃ X, (∀ W : World, (Instr.slice t v none (some (.int k l)) none).run P W = .ok X W) ∧ LiesE E w X (L.take i) := by
  have he : P.elem t = e := by simp [Program.elem, ht]
  have ht' : P.underlying t = some (.slice (P.elem t)) := by rw [he]; exact ht
  subst hl
  rcases h with ⟨rfl, rfl⟩ | ⟨ad, c, rfl, h2, h3⟩
  · have hi0 : i = 0 := by simpa using hi
    subst hi0
    refine ⟨.slice none 0 0, fun W => ?_, .inl ⟨rfl, rfl⟩⟩
    rw [run_slice_h W t none 0 0 ht' k ((0 : Nat) : Int) (by omega) (by omega), he]
    simp [hz, Result.andThen, sliced]
  · refine ⟨sliced (some ad) 0 i c n, fun W => ?_, ?_⟩
    · rw [run_slice_h W t (some ad) L.length c ht' k i (by omega) (by omega), he]
      simp [hz, Result.andThen]
    · refine .inr ⟨ad, c, by simp [sliced, add_zeroE, List.length_take, Nat.min_eq_left hi], by rw [List.length_take]; omega, fun j u hu => ?_⟩
      rw [← cellsE_take, List.getElem?_take] at hu
      split at hu
      · exact h3 _ _ hu
      · cases hu
/-- Behind a store into one cell of an element. -/
theorem OwnE.stored {e : TypeId} {w : World} {base g cap : Nat} {L : List α} (h : OwnE E e w base (.slice (Option.some ⟨g, 0, Option.none⟩) L.length cap) L) {i r : Nat} {x x' : α} {u : Value} (hi : L[i]? = Option.some x) (hr : r < n) (he : E.enc x' = (E.enc x).set r u) :
    OwnE E e (w.setCell ⟨g, i * n + r, Option.none⟩ u) base (.slice (Option.some ⟨g, 0, Option.none⟩) (L.set i x').length cap) (L.set i x') := by
  have k := (World.ownsRow.stored h (i * n + r) u).1
  unfold OwnE
  rw [cellsE_set E hr he L i hi, List.length_set]
  exact k
/-- append(l, m...) of a slice that the calls have made: the lists one behind the other; the row is the old one or a new one. -/
theorem wpList_append_E {P : Program} {w : World} {ops : Array Oper} {rest : List Oper} {o : Oper} {a : Act} {Q : Exit → Act → World → Prop} (hgd : o.guard = none) (s x : Operand) (t : TypeId)
    (ho : o.op = .call { callee := .builtin .append, args := #[s, x], argTypes := #[t, t] })
    {e : TypeId} (i : TypeInfo) (z : Value) (bytes : Nat) (ht : P.underlying t = some (.slice e)) (hi : P.info? e = some i) (hz : i.zero = some z)
    (hsize : i.size = n) (hby : i.bytes = bytes) (hzs : z.cells.size = n) (hsz : 0 < n)
    {base : Nat} {v : Value} {L M : List α} (hs : a.eval s = v) (hown : OwnE E e w base v L) {y : Value} (hx : a.eval x = y) (hl : LiesE E w y M)
    (h63 : L.length + M.length ≤ maxLen) (hbytes : (L.length + M.length) * bytes ≤ 140737488355328) (hbase : base ≤ w.heap.size)
    (h : ∀ v' w', OwnE E e w' base v' (L ++ M) → w.grownBy w' v.ownBlock → (v'.ownBlock = v.ownBlock ∨ v'.ownBlock = some w.heap.size) → wpList P ops Q rest (a.put o.dst v') w') :
    wpList P ops Q (o :: rest) a w := by
  rcases hl with ⟨rfl, rfl⟩ | ⟨ad, c, rfl, _, hc⟩
  · refine wpList_append_own_none hgd s x t ho base e i n ht hi v L.length (cellsE E L) hs hown hx ?_
    exact h v w (by rw [List.append_nil]; exact hown) (World.grownBy.refl w _) (.inl rfl)
  · refine wpList_append_own_at (P := P) (w := w) hgd s x t ho base e i z n bytes ht hi hz hsize hby hzs hsz v L.length (cellsE E L) hs hown ad M.length c (cellsE E M) hx (cellsE_len E M) hc (cellsE_oneCell E M) h63 hbytes hbase ?_
    intro v' w' h1 h2 _ h4
    exact h v' w' (by unfold OwnE; rw [List.length_append, ← cellsE_app]; exact h1) h2 h4
/-- append(l, m...) as one step of a region that draws. -/
theorem step_append_E {P : Program} {w : World} {ops : Array Oper} {o : Oper} {a : Act} {K : Act → World → Prop} {Q : Exit → Act → World → Prop} {F : Prop} (hgd : o.guard = none) (s x : Operand) (t : TypeId)
    (ho : o.op = .call { callee := .builtin .append, args := #[s, x], argTypes := #[t, t] })
    {e : TypeId} (i : TypeInfo) (z : Value) (bytes : Nat) (ht : P.underlying t = some (.slice e)) (hi : P.info? e = some i) (hz : i.zero = some z)
    (hsize : i.size = n) (hby : i.bytes = bytes) (hzs : z.cells.size = n) (hsz : 0 < n)
    {base : Nat} {v : Value} {L M : List α} (hs : a.eval s = v) (hown : OwnE E e w base v L) {ad : Addr} {c : Nat} (hx : a.eval x = .slice (Option.some ad) M.length c) (hc : ∀ j u, (cellsE E M)[j]? = Option.some u → w.cell? (ad.add j) = Option.some u)
    (h63 : L.length + M.length ≤ maxLen) (hbytes : (L.length + M.length) * bytes ≤ 140737488355328) (hbase : base ≤ w.heap.size)
    (h : ∀ v' w', OwnE E e w' base v' (L ++ M) → w.grownBy w' v.ownBlock → (v'.ownBlock = v.ownBlock ∨ v'.ownBlock = Option.some w.heap.size) → K (a.put o.dst v') w') :
    if Region.wanted o (yielded ops a.tmps) = true then Oper.wp P o a w K Q else F := by
  have hw : Region.wanted o (yielded ops a.tmps) = true := by simp [Region.wanted, hgd]
  rw [if_pos hw]
  obtain ⟨v', w', hrun, h1, h2, _, h4⟩ := run_append_own_at (P := P) w base t o.type e i z n bytes ht hi hz hsize hby hzs hsz v L.length (cellsE E L) hown ad M.length c (cellsE E M) (cellsE_len E M) hc (cellsE_oneCell E M) h63 hbytes hbase
  unfold Oper.wp execOp
  simp only [ho, resolve, invoke, builtin, Sem.run_bind, Sem.run_pure, Result.andThen_ok, List.map_toArray, List.map_cons, List.map_nil, hs, hx, hrun]
  exact h v' w' (by unfold OwnE; rw [List.length_append, ← cellsE_app]; exact h1) h2 h4
end
end Go.Proofs.YtlckofoabnnlhaaDoor
