/- Rows of anything that calls have made: a slice whose elements take n cells each reads as a list. No conditions. -/
import Derived.Test.YtbfbhlpibclccaaDoorChg
import Derived.Deep.AppendLies
import Derived.Maps.AppendAt
import Derived.Laws.AppendOwnNone
import Derived.Laws.Slices
import Derived.Shelf.GgSortFunc.InsertionK
import Derived.Laws.IdiomCopy
import Derived.Shelf.SlicesQ.IndexFunc
import Derived.Lib.Overlaps
import Derived.Lib.AppendZerosOnto
namespace Go.Proofs.YtbfbhlpibclccaaDoor
open Go Go.RowKit

/-- How an element lies in n cells. -/
structure EncK (α : Type) (n : Nat) where
  enc : α → List Value
  len : ∀ x, (enc x).length = n
  one : ∀ x, ∀ u ∈ enc x, u.oneCell' = true

section
variable {α : Type} {n : Nat} (E : EncK α n)
/-- The cells of a list. -/
def cellsE (L : List α) : List Value := L.flatMap E.enc
theorem cellsE_len (L : List α) : (cellsE E L).length = L.length * n := by
  induction L with
  | nil => simp [cellsE]
  | cons x L ih => unfold cellsE at *; rw [List.flatMap_cons, List.length_append, ih, List.length_cons, E.len, Nat.succ_mul]; omega
theorem cellsE_nil : cellsE E [] = [] := rfl
theorem cellsE_cons (x : α) (L : List α) : cellsE E (x :: L) = E.enc x ++ cellsE E L := by unfold cellsE; rw [List.flatMap_cons]
theorem cellsE_app (L M : List α) : cellsE E L ++ cellsE E M = cellsE E (L ++ M) := by unfold cellsE; rw [List.flatMap_append]
theorem cellsE_one (x : α) : cellsE E [x] = E.enc x := by simp [cellsE]
theorem cellsE_get : ∀ (L : List α) (i r : Nat) {x : α}, L[i]? = some x → r < n → (cellsE E L)[i * n + r]? = (E.enc x)[r]?
  | [], _, _, _, h, _ => by cases h
  | y :: L, 0, r, x, h, hr => by
    cases h
    rw [cellsE_cons, List.getElem?_append_left (by rw [E.len]; omega)]
    simp
  | y :: L, i + 1, r, x, h, hr => by
    have ih := cellsE_get L i r (x := x) (by simpa using h) hr
    have e : (i + 1) * n + r = n + (i * n + r) := by rw [Nat.succ_mul]; omega
    rw [cellsE_cons, e, List.getElem?_append_right (by rw [E.len]; omega), ← ih, E.len]
    congr 1; omega
theorem cellsE_oneCell (L : List α) : ∀ u ∈ cellsE E L, u.oneCell' = true := by
  intro u hu
  obtain ⟨x, _, hx⟩ := List.mem_flatMap.1 hu
  exact E.one x u hx
theorem cellsE_take (L : List α) (i : Nat) : (cellsE E L).take (i * n) = cellsE E (L.take i) := by
  induction L generalizing i with
  | nil => simp [cellsE]
  | cons x L ih =>
    cases i with
    | zero => simp [cellsE]
    | succ i =>
      rw [List.take_succ_cons, cellsE_cons, cellsE_cons, ← ih i, Nat.succ_mul]
      rw [show i * n + n = (E.enc x).length + i * n by rw [E.len]; omega, List.take_length_add_append]
theorem cellsE_drop (L : List α) (i : Nat) : (cellsE E L).drop (i * n) = cellsE E (L.drop i) := by
  induction L generalizing i with
  | nil => simp [cellsE]
  | cons x L ih =>
    cases i with
    | zero => simp
    | succ i =>
      rw [List.drop_succ_cons, cellsE_cons, ← ih i, Nat.succ_mul]
      rw [show i * n + n = (E.enc x).length + i * n by rw [E.len]; omega, List.drop_length_add_append]

theorem cellsE_set {x x' : α} {r : Nat} {u : Value} (hr : r < n) (he : E.enc x' = (E.enc x).set r u) : ∀ (L : List α) (i : Nat), L[i]? = some x → cellsE E (L.set i x') = (cellsE E L).set (i * n + r) u
  | [], _, h => by cases h
  | y :: L, 0, h => by
    cases h
    rw [List.set_cons_zero, cellsE_cons, cellsE_cons, he, Nat.zero_mul, Nat.zero_add, List.set_append_left _ _ (by rw [E.len]; exact hr)]
  | y :: L, i + 1, h => by
    have ih := cellsE_set hr he L i (by simpa using h)
    have e : (i + 1) * n + r = n + (i * n + r) := by rw [Nat.succ_mul]; omega
    rw [List.set_cons_succ, cellsE_cons, cellsE_cons, ih, e, List.set_append_right _ _ (by rw [E.len]; omega), E.len]
    congr 2; omega

/-- A slice that the calls have made reads as a list. -/
def OwnE (e : TypeId) (w : World) (base : Nat) (v : Value) (L : List α) : Prop := w.ownsRow base e n v L.length (cellsE E L)
variable {E}
theorem OwnE.nil (e : TypeId) (w : World) (base : Nat) : OwnE E e w base (.slice none 0 0) [] := ⟨by simp [cellsE], .inl ⟨rfl, rfl⟩⟩
theorem OwnE.form {e : TypeId} {w : World} {base : Nat} {v : Value} {L : List α} (h : OwnE E e w base v L) : ∃ A c, v = .slice A L.length c := by
  rcases h.2 with ⟨rfl, h0⟩ | ⟨g, cap, cur, rfl, _⟩
  · exact ⟨none, 0, by rw [h0]⟩
  · exact ⟨_, _, rfl⟩
theorem OwnE.same {e : TypeId} {w w' : World} {base : Nat} {v : Value} {L : List α} (h : OwnE E e w base v L) (hs : ∀ k, v.ownBlock = some k → w'.heap[k]? = w.heap[k]?) : OwnE E e w' base v L := own_same h hs
theorem OwnE.lt {e : TypeId} {w : World} {base : Nat} {v : Value} {L : List α} (h : OwnE E e w base v L) : ∀ k, v.ownBlock = some k → base ≤ k ∧ k < w.heap.size := World.ownsRow.lt h
theorem OwnE.on {e : TypeId} {w w' : World} {base : Nat} {v : Value} {L : List α} (h : OwnE E e w base v L) (hb : Below w.heap.size w w') : OwnE E e w' base v L := h.same fun k hk => hb.block k (h.lt k hk).2
theorem OwnE.base {e : TypeId} {w : World} {base base' : Nat} {v : Value} {L : List α} (h : OwnE E e w base v L) (hb : base' ≤ base) : OwnE E e w base' v L := by
  refine ⟨h.1, ?_⟩
  rcases h.2 with k | ⟨g, cap, cur, rfl, hg, r⟩
  · exact .inl k
  · exact .inr ⟨g, cap, cur, rfl, Nat.le_trans hb hg, r⟩
/-- A slice that holds something: its block, and its cells. -/
theorem OwnE.some {e : TypeId} {w : World} {base : Nat} {v : Value} {L : List α} (h : OwnE E e w base v L) (hn : 0 < L.length) :
    ∃ g cap, v = .slice (some ⟨g, 0, none⟩) L.length cap ∧ L.length ≤ cap ∧ base ≤ g ∧ g < w.heap.size ∧ (∀ j, w.frozen? ⟨g, j, none⟩ = false) ∧
      ∀ i x, L[i]? = some x → ∀ r u, (E.enc x)[r]? = some u → w.cell? ⟨g, i * n + r, none⟩ = some u := by
  rcases h.2 with ⟨rfl, h0⟩ | ⟨g, cap, cur, rfl, hb, hh, hnc, hc, hsz, ht⟩
  · omega
  · refine ⟨g, cap, rfl, hnc, hb, lt_of_block hh, fun j => by simp [World.frozen?, hh], fun i x hi r u hu => ?_⟩
    have hr : r < n := by
      have := (List.getElem?_eq_some_iff.1 hu).1
      rw [E.len] at this; exact this
    have hk := cellsE_get E L i r hi hr
    rw [hu, ← ht, List.getElem?_take] at hk
    split at hk
    · simpa [World.cell?, hh] using hk
    · cases hk
/-- An element's cells; the row's address told by a letter. -/
theorem OwnE.at {e : TypeId} {w : World} {base m c : Nat} {A : Option Addr} {L : List α} (h : OwnE E e w base (.slice A m c) L) {i : Nat} {x : α} (hi : L[i]? = Option.some x) :
    ∃ ad g, A = Option.some ad ∧ ad.add (i * n) = ⟨g, i * n, Option.none⟩ ∧ base ≤ g ∧ g < w.heap.size ∧ (∀ j, w.frozen? ⟨g, j, Option.none⟩ = false) ∧ ∀ r u, (E.enc x)[r]? = Option.some u → w.cell? ⟨g, i * n + r, Option.none⟩ = Option.some u := by
  obtain ⟨g, cap, hv, _, hb, hg, hf, hc⟩ := h.some (Nat.lt_of_le_of_lt (Nat.zero_le _) (List.getElem?_eq_some_iff.1 hi).1)
  simp only [Value.slice.injEq] at hv
  obtain ⟨rfl, _, _⟩ := hv
  exact ⟨_, g, rfl, by unfold Addr.add; split <;> simp_all, hb, hg, hf, hc i x hi⟩
/-- A slice value reads as a list, wherever it lies. -/
def LiesE (E : EncK α n) (w : World) (v : Value) (M : List α) : Prop :=
  (v = .slice none 0 0 ∧ M = []) ∨ ∃ ad c, v = .slice (some ad) M.length c ∧ M.length ≤ c ∧ (∀ j u, (cellsE E M)[j]? = some u → w.cell? (ad.add j) = some u)
theorem LiesE.form {w : World} {v : Value} {M : List α} (h : LiesE E w v M) : ∃ A c, v = .slice A M.length c := by
  rcases h with ⟨rfl, rfl⟩ | ⟨ad, c, rfl, _⟩
  · exact ⟨Option.none, 0, rfl⟩
  · exact ⟨_, _, rfl⟩
/-- An element's cells; the row's address told by a letter. -/
theorem LiesE.at {w : World} {m c : Nat} {A : Option Addr} {M : List α} (h : LiesE E w (.slice A m c) M) {i : Nat} {x : α} (hi : M[i]? = Option.some x) :
    ∃ ad, A = Option.some ad ∧ (0 < n → ad.block < w.heap.size) ∧ ∀ r u, (E.enc x)[r]? = Option.some u → w.cell? (ad.add (i * n + r)) = Option.some u := by
  rcases h with ⟨_, rfl⟩ | ⟨ad, c', hv, _, hc⟩
  · cases hi
  · simp only [Value.slice.injEq] at hv
    obtain ⟨rfl, _, _⟩ := hv
    have key : ∀ r u, (E.enc x)[r]? = Option.some u → w.cell? (ad.add (i * n + r)) = Option.some u := fun r u hu => by
      have hr : r < n := by
        have := (List.getElem?_eq_some_iff.1 hu).1
        rw [E.len] at this; exact this
      exact hc _ _ ((cellsE_get E M i r hi hr).trans hu)
    refine ⟨ad, rfl, fun hn => ?_, key⟩
    have h0 := key 0 ((E.enc x)[0]'(by rw [E.len]; exact hn)) (List.getElem?_eq_getElem _)
    have hb : (ad.add (i * n + 0)).block = ad.block := by unfold Addr.add; split <;> rfl
    rw [← hb]
    generalize ad.add (i * n + 0) = aa at h0
    rcases Nat.lt_or_ge aa.block w.heap.size with h1 | h1
    · exact h1
    · simp [World.cell?, Array.getElem?_eq_none h1] at h0
theorem OwnE.lies {e : TypeId} {w : World} {base : Nat} {v : Value} {L : List α} (h : OwnE E e w base v L) : LiesE E w v L := by
  rcases h.2 with ⟨rfl, h0⟩ | ⟨g, cap, cur, rfl, hb, hh, hnc, hc, hsz, ht⟩
  · exact .inl ⟨rfl, List.eq_nil_of_length_eq_zero h0⟩
  · refine .inr ⟨_, _, rfl, hnc, fun j u hu => ?_⟩
    rw [← ht, List.getElem?_take] at hu
    split at hu
    · rw [show (⟨g, 0, none⟩ : Addr).add j = ⟨g, j, none⟩ by unfold Addr.add; split <;> simp_all]
      simpa [World.cell?, hh] using hu
    · cases hu
theorem LiesE.on {w w' : World} {v : Value} {M : List α} (h : LiesE E w v M) (hb : ∀ a u, w.cell? a = some u → w'.cell? a = some u) : LiesE E w' v M := by
  rcases h with h | ⟨ad, c, h1, h2, h3⟩
  · exact .inl h
  · exact .inr ⟨ad, c, h1, h2, fun j u hu => hb _ _ (h3 j u hu)⟩
theorem LiesE.onB {w w' : World} {v : Value} {M : List α} (h : LiesE E w v M) (hb : Below w.heap.size w w') : LiesE E w' v M := h.on fun a u hu => by
  have hl : a.block < w.heap.size := by
    rcases Nat.lt_or_ge a.block w.heap.size with h1 | h1
    · exact h1
    · simp [World.cell?, Array.getElem?_eq_none h1] at hu
  exact (hb.cell hl).trans hu
/-- []T{}: a row of none in a block of its own. -/
theorem OwnE.none {e : TypeId} (w : World) {base : Nat} (hb : base ≤ w.heap.size) : OwnE E e (w.alloc (.cells #[] e)) base (.slice (Option.some ⟨w.heap.size, 0, Option.none⟩) 0 0) [] :=
  World.ownsRow_lit w #[] 0 hb (by unfold maxLen; omega) (by simp)
theorem add_addE (ad : Addr) (a b : Nat) : (ad.add a).add b = ad.add (a + b) := by
  unfold Addr.add; (repeat' split) <;> simp_all <;> omega
theorem add_zeroE (ad : Addr) : ad.add 0 = ad := by unfold Addr.add; simp
/-- What a slice has from a place on. -/
theorem LiesE.from {P : Program} {t e : TypeId} (ht : P.underlying t = some (.slice e)) (hz : ∀ W : World, (sizeOf e).run P W = .ok n W) {w : World} {v : Value} {L : List α} (h : LiesE E w v L) (k : IntKind) (l : Int) (i : Nat) (hl : l = i) (hi : i ≤ L.length) :
    ∃ X, (∀ W : World, (Instr.slice t v (some (.int k l)) none none).run P W = .ok X W) ∧ LiesE E w X (L.drop i) := by
  have he : P.elem t = e := by simp [Program.elem, ht]
  have ht' : P.underlying t = some (.slice (P.elem t)) := by rw [he]; exact ht
  subst hl
  rcases h with ⟨rfl, rfl⟩ | ⟨ad, c, rfl, h2, h3⟩
  · have hi0 : i = 0 := by simpa using hi
    subst hi0
    refine ⟨.slice none 0 0, fun W => ?_, .inl ⟨rfl, rfl⟩⟩
    rw [run_slice_l W t none 0 0 ht' k ((0 : Nat) : Int) (by omega) (by omega), he]
    simp [hz, Result.andThen, sliced]
  · refine ⟨sliced (some ad) i L.length c n, fun W => ?_, ?_⟩
    · rw [run_slice_l W t (some ad) L.length c ht' k i (by omega) (by omega), he]
      simp [hz, Result.andThen]
    · by_cases hc : c = i
      · have hd : L.drop i = [] := List.drop_eq_nil_of_le (by omega)
        refine .inr ⟨ad, c - i, by simp [sliced, hc, hd]; omega, by rw [hd]; exact Nat.zero_le _, fun j u hu => ?_⟩
        rw [hd] at hu; cases hu
      · refine .inr ⟨ad.add (i * n), c - i, by simp [sliced, hc], by rw [List.length_drop]; omega, fun j u hu => ?_⟩
        rw [← cellsE_drop, List.getElem?_drop] at hu
        rw [add_addE]; exact h3 _ _ hu
/-- What a slice has up to a place. -/
theorem LiesE.upto {P : Program} {t e : TypeId} (ht : P.underlying t = some (.slice e)) (hz : ∀ W : World, (sizeOf e).run P W = .ok n W) {w : World} {v : Value} {L : List α} (h : LiesE E w v L) (k : IntKind) (l : Int) (i : Nat) (hl : l = i) (hi : i ≤ L.length) :
    ∃ X, (∀ W : World, (Instr.slice t v none (some (.int k l)) none).run P W = .ok X W) ∧ LiesE E w X (L.take i) := by
  have he : P.elem t = e := by simp [Program.elem, ht]
  have ht' : P.underlying t = some (.slice (P.elem t)) := by rw [he]; exact ht
  subst hl
  rcases h with ⟨rfl, rfl⟩ | ⟨ad, c, rfl, h2, h3⟩
  · have hi0 : i = 0 := by simpa using hi
    subst hi0
    refine ⟨.slice none 0 0, fun W => ?_, .inl ⟨rfl, rfl⟩⟩
    rw [run_slice_h W t none 0 0 ht' k ((0 : Nat) : Int) (by omega) (by omega), he]
    simp [hz, Result.andThen, sliced]
  · refine ⟨sliced (some ad) 0 i c n, fun W => ?_, ?_⟩
    · rw [run_slice_h W t (some ad) L.length c ht' k i (by omega) (by omega), he]
      simp [hz, Result.andThen]
    · refine .inr ⟨ad, c, by simp [sliced, add_zeroE, List.length_take, Nat.min_eq_left hi], by rw [List.length_take]; omega, fun j u hu => ?_⟩
      rw [← cellsE_take, List.getElem?_take] at hu
      split at hu
      · exact h3 _ _ hu
      · cases hu
/-- Behind a store into one cell of an element. -/
theorem OwnE.stored {e : TypeId} {w : World} {base g cap : Nat} {L : List α} (h : OwnE E e w base (.slice (Option.some ⟨g, 0, Option.none⟩) L.length cap) L) {i r : Nat} {x x' : α} {u : Value} (hi : L[i]? = Option.some x) (hr : r < n) (he : E.enc x' = (E.enc x).set r u) :
    OwnE E e (w.setCell ⟨g, i * n + r, Option.none⟩ u) base (.slice (Option.some ⟨g, 0, Option.none⟩) (L.set i x').length cap) (L.set i x') := by
  have k := (World.ownsRow.stored h (i * n + r) u).1
  unfold OwnE
  rw [cellsE_set E hr he L i hi, List.length_set]
  exact k
/-- append(l, m...) of a slice that the calls have made: the lists one behind the other; the row is the old one or a new one. -/
theorem wpList_append_E {P : Program} {w : World} {ops : Array Oper} {rest : List Oper} {o : Oper} {a : Act} {Q : Exit → Act → World → Prop} (hgd : o.guard = none) (s x : Operand) (t : TypeId)
    (ho : o.op = .call { callee := .builtin .append, args := #[s, x], argTypes := #[t, t] })
    {e : TypeId} (i : TypeInfo) (z : Value) (bytes : Nat) (ht : P.underlying t = some (.slice e)) (hi : P.info? e = some i) (hz : i.zero = some z)
    (hsize : i.size = n) (hby : i.bytes = bytes) (hzs : z.cells.size = n) (hsz : 0 < n)
    {base : Nat} {v : Value} {L M : List α} (hs : a.eval s = v) (hown : OwnE E e w base v L) {y : Value} (hx : a.eval x = y) (hl : LiesE E w y M)
    (h63 : L.length + M.length ≤ maxLen) (hbytes : (L.length + M.length) * bytes ≤ 140737488355328) (hbase : base ≤ w.heap.size)
    (h : ∀ v' w', OwnE E e w' base v' (L ++ M) → w.grownBy w' v.ownBlock → (v'.ownBlock = v.ownBlock ∨ v'.ownBlock = some w.heap.size) → wpList P ops Q rest (a.put o.dst v') w') :
    wpList P ops Q (o :: rest) a w := by
  rcases hl with ⟨rfl, rfl⟩ | ⟨ad, c, rfl, _, hc⟩
  · refine wpList_append_own_none hgd s x t ho base e i n ht hi v L.length (cellsE E L) hs hown hx ?_
    exact h v w (by rw [List.append_nil]; exact hown) (World.grownBy.refl w _) (.inl rfl)
  · refine wpList_append_own_at (P := P) (w := w) hgd s x t ho base e i z n bytes ht hi hz hsize hby hzs hsz v L.length (cellsE E L) hs hown ad M.length c (cellsE E M) hx (cellsE_len E M) hc (cellsE_oneCell E M) h63 hbytes hbase ?_
    intro v' w' h1 h2 _ h4
    exact h v' w' (by unfold OwnE; rw [List.length_append, ← cellsE_app]; exact h1) h2 h4
/-- append(l, m...) as one step of a region that draws. -/
theorem step_append_E {P : Program} {w : World} {ops : Array Oper} {o : Oper} {a : Act} {K : Act → World → Prop} {Q : Exit → Act → World → Prop} {F : Prop} (hgd : o.guard = none) (s x : Operand) (t : TypeId)
    (ho : o.op = .call { callee := .builtin .append, args := #[s, x], argTypes := #[t, t] })
    {e : TypeId} (i : TypeInfo) (z : Value) (bytes : Nat) (ht : P.underlying t = some (.slice e)) (hi : P.info? e = some i) (hz : i.zero = some z)
    (hsize : i.size = n) (hby : i.bytes = bytes) (hzs : z.cells.size = n) (hsz : 0 < n)
    {base : Nat} {v : Value} {L M : List α} (hs : a.eval s = v) (hown : OwnE E e w base v L) {ad : Addr} {c : Nat} (hx : a.eval x = .slice (Option.some ad) M.length c) (hc : ∀ j u, (cellsE E M)[j]? = Option.some u → w.cell? (ad.add j) = Option.some u)
    (h63 : L.length + M.length ≤ maxLen) (hbytes : (L.length + M.length) * bytes ≤ 140737488355328) (hbase : base ≤ w.heap.size)
    (h : ∀ v' w', OwnE E e w' base v' (L ++ M) → w.grownBy w' v.ownBlock → (v'.ownBlock = v.ownBlock ∨ v'.ownBlock = Option.some w.heap.size) → K (a.put o.dst v') w') :
    if Region.wanted o (yielded ops a.tmps) = true then Oper.wp P o a w K Q else F := by
  have hw : Region.wanted o (yielded ops a.tmps) = true := by simp [Region.wanted, hgd]
  rw [if_pos hw]
  obtain ⟨v', w', hrun, h1, h2, _, h4⟩ := run_append_own_at (P := P) w base t o.type e i z n bytes ht hi hz hsize hby hzs hsz v L.length (cellsE E L) hown ad M.length c (cellsE E M) (cellsE_len E M) hc (cellsE_oneCell E M) h63 hbytes hbase
  unfold Oper.wp execOp
  simp only [ho, resolve, invoke, builtin, Sem.run_bind, Sem.run_pure, Result.andThen_ok, List.map_toArray, List.map_cons, List.map_nil, hs, hx, hrun]
  exact h v' w' (by unfold OwnE; rw [List.length_append, ← cellsE_app]; exact h1) h2 h4
end
end Go.Proofs.YtbfbhlpibclccaaDoor

/- Rows of anything, in memory: their block, what another row of the same length makes of it, what a store of a run of cells does. No conditions. -/
namespace Go.Proofs.YtbfbhlpibclccaaDoor
open Go Go.RowKit Go.Sort

section
variable {α : Type} {n : Nat} {E : EncK α n}
theorem cellsE_map {β : Type} (F : EncK β n) (f : β → α) (hf : ∀ y, F.enc y = E.enc (f y)) (L : List β) : cellsE F L = cellsE E (L.map f) := by
  induction L with
  | nil => rfl
  | cons y L ih => rw [cellsE_cons, List.map_cons, cellsE_cons, ih, hf]
theorem ownE_map {β : Type} {F : EncK β n} {f : β → α} (hf : ∀ y, F.enc y = E.enc (f y)) {e : TypeId} {w : World} {base : Nat} {v : Value} {L : List β} : OwnE F e w base v L ↔ OwnE E e w base v (L.map f) := by
  unfold OwnE
  rw [cellsE_map F f hf, List.length_map]
theorem flatE [Inhabited α] (E : EncK α n) (L : List α) : flatK E.enc n L.toArray = (cellsE E L).toArray := by
  apply Array.ext
  · simp [cellsE_len]
  · intro t h1 h2
    have ht : t < L.length * n := by simpa using h1
    have hn : 0 < n := by
      rcases Nat.eq_zero_or_pos n with h | h
      · subst h; simp at ht
      · exact h
    have hi : t / n < L.length := Nat.div_lt_of_lt_mul (by rwa [Nat.mul_comm] at ht)
    have e1 := get_flatK E.enc n L.toArray t (by simpa using ht)
    rw [getElem!_pos _ t (by simpa using ht)] at e1
    rw [e1]
    have e2 := cellsE_get E L (t / n) (t % n) (x := L[t / n]) (List.getElem?_eq_getElem hi) (Nat.mod_lt _ hn)
    rw [show t / n * n + t % n = t by rw [Nat.mul_comm]; exact Nat.div_add_mod t n] at e2
    have hc : t < (cellsE E L).length := by rw [cellsE_len]; exact ht
    rw [List.getElem?_eq_getElem hc] at e2
    have e3 : L.toArray[t / n]! = L[t / n] := by rw [getElem!_pos L.toArray (t / n) (by simpa using hi)]; simp
    rw [e3]
    have hr : t % n < (E.enc L[t / n]).length := by rw [E.len]; exact Nat.mod_lt _ hn
    rw [List.getElem?_eq_getElem hr] at e2
    rw [getElem!_pos (E.enc L[t / n]) (t % n) hr]
    simp only [List.getElem_toArray]
    exact (Option.some.inj e2).symm
/-- Behind a sort the same slice holds another list of the same length. -/
theorem ownE_shape [Inhabited α] {e : TypeId} {w : World} {base : Nat} {v : Value} {L : List α} (h : OwnE E e w base v L) : (v = .slice none 0 0 ∧ L = []) ∨ ∃ g cap, v = .slice (some ⟨g, 0, none⟩) L.length cap ∧ base ≤ g ∧ g < w.heap.size ∧ HoldsK E.enc n w g 0 L.toArray ∧
    ∀ (m : Nat) (os : Array Obj) (M : List α), M.length = L.length → OwnE E e (grow (putRowK E.enc n (Sort.ahead w m) g 0 M.toArray) os) base v M ∧ w.grownBy (grow (putRowK E.enc n (Sort.ahead w m) g 0 M.toArray) os) (some g) := by
  rcases h.2 with ⟨rfl, h0⟩ | ⟨g, cap, cur, rfl, hbase, hg, r1, r2, r3, r4⟩
  · exact .inl ⟨rfl, List.eq_nil_of_length_eq_zero h0⟩
  · have hlt := lt_of_block hg
    refine .inr ⟨g, cap, rfl, hbase, hlt, ?_, fun m os M hM => ⟨?_, ?_⟩⟩
    · unfold HoldsK
      rw [flatE]
      intro j hj
      have hj' : j < L.length * n := by simpa [cellsE_len] using hj
      refine ⟨?_, by simp [World.frozen?, hg]⟩
      have h1 : (cur.toList.take (L.length * n))[j]? = (cellsE E L)[j]? := by rw [r4]
      rw [List.getElem?_take_of_lt hj'] at h1
      simp only [World.cell?, hg, Nat.zero_add]
      simp only [Option.isSome_none, Bool.false_eq_true, if_false]
      rw [← Array.getElem?_toList, h1]
      have hc : j < (cellsE E L).length := by rw [cellsE_len]; exact hj'
      simp [hc]
    · have hb : (grow (putRowK E.enc n (Sort.ahead w m) g 0 M.toArray) os).heap[g]? = some (.cells (putCells id 0 (cellsE E M).toArray cur) e (0, 0)) := by
        rw [heap_grow_old _ _ (by simpa [putRowK] using hlt)]
        simp [putRowK, flatE, putRow, mapBlock, Sort.ahead, Array.getElem?_modify, hg, onCells]
      have hl : (cellsE E M).length = L.length * n := by rw [cellsE_len, hM]
      refine ⟨cellsE_len E M, .inr ⟨g, cap, _, by rw [hM], hbase, hb, by rw [hM]; exact r1, r2, by simp [putCells, r3], ?_⟩⟩
      rw [hM]
      apply List.ext_getElem?
      intro j
      by_cases hj : j < L.length * n
      · rw [List.getElem?_take_of_lt hj, Array.getElem?_toList]
        have hjc : j < cur.size := by rw [r3]; have := Nat.mul_le_mul_right n r1; omega
        simp [putCells, hl, hj, hjc]
      · rw [List.getElem?_take_eq_none (by omega), List.getElem?_eq_none (by omega)]
    · refine ⟨rfl, rfl, rfl, by simp [putRowK], fun k hk hne => ?_⟩
      rw [heap_grow_old _ _ (by simpa [putRowK] using hk)]
      have : g ≠ k := fun e => hne (by rw [e])
      simp [putRowK, putRow, mapBlock, Sort.ahead, Array.getElem?_modify, this]
/-- A row's block. -/
theorem ownE_raw {e : TypeId} {w : World} {base g m c : Nat} {L : List α} (h : OwnE E e w base (.slice (some ⟨g, 0, none⟩) m c) L) : ∃ cur, w.heap[g]? = some (.cells cur e (0, 0)) ∧ base ≤ g ∧ m = L.length ∧ L.length ≤ c ∧ c ≤ maxLen ∧ cur.size = c * n ∧ cur.toList.take (L.length * n) = cellsE E L := by
  rcases h.2 with ⟨hv, _⟩ | ⟨g', cap, cur, hv, hbase, hg, r1, r2, r3, r4⟩
  · simp at hv
  · simp only [Value.slice.injEq, Option.some.injEq, Addr.mk.injEq, and_true] at hv
    obtain ⟨rfl, rfl, rfl⟩ := hv
    exact ⟨cur, hg, hbase, rfl, r1, r2, r3, r4⟩
theorem ownE_of {e : TypeId} {w : World} {base g cap : Nat} {M : List α} {cur : Array Value} (hh : w.heap[g]? = some (.cells cur e (0, 0))) (hb : base ≤ g) (h1 : M.length ≤ cap) (h2 : cap ≤ maxLen) (h3 : cur.size = cap * n)
    (hc : ∀ j u, (cellsE E M)[j]? = some u → w.cell? ⟨g, j, none⟩ = some u) : OwnE E e w base (.slice (some ⟨g, 0, none⟩) M.length cap) M := by
  refine ⟨cellsE_len E M, .inr ⟨g, cap, cur, rfl, hb, hh, h1, h2, h3, ?_⟩⟩
  apply List.ext_getElem?
  intro j
  by_cases hj : j < M.length * n
  · rw [List.getElem?_take_of_lt hj, Array.getElem?_toList]
    have hj' : j < (cellsE E M).length := by rw [cellsE_len]; exact hj
    have := hc j _ (List.getElem?_eq_getElem hj')
    rw [List.getElem?_eq_getElem hj', ← this]
    simp [World.cell?, hh]
  · rw [List.getElem?_take_eq_none (by omega), List.getElem?_eq_none (by rw [cellsE_len]; omega)]
theorem heap_setCells_row (g : Nat) (t : TypeId) : ∀ (vs : List Value) (o : Nat) (w : World) (cs : Array Value), w.heap[g]? = some (.cells cs t (0, 0)) → ∃ cs', (w.setCells g o vs).heap[g]? = some (.cells cs' t (0, 0)) ∧ cs'.size = cs.size
  | [], _, _, cs, h => ⟨cs, h, rfl⟩
  | v :: vs, o, w, cs, h => by
    obtain ⟨cs', h1, h2⟩ := heap_setCells_row g t vs (o + 1) (w.setCell ⟨g, o, none⟩ v) _ (heap_setCell_same w g o _ _ v h)
    exact ⟨cs', h1, by rw [h2]; simp⟩
theorem heap_setCells_off (g : Nat) : ∀ (vs : List Value) (o : Nat) (w : World) (k : Nat), k ≠ g → (w.setCells g o vs).heap[k]? = w.heap[k]?
  | [], _, _, _, _ => rfl
  | v :: vs, o, w, k, h => by rw [World.setCells, heap_setCells_off g vs (o + 1) _ k h]; exact heap_setCell_other w ⟨g, o, none⟩ k v h
theorem grownBy_setCells (g : Nat) : ∀ (vs : List Value) (o : Nat) (w w' : World), w.grownBy w' (some g) → w.grownBy (w'.setCells g o vs) (some g)
  | [], _, _, _, h => h
  | v :: vs, o, w, w', h => grownBy_setCells g vs (o + 1) w _ ⟨h.os, h.tape, h.output, by simpa [World.setCell] using h.size, fun k hk hne => by
      have hne' : k ≠ g := fun e => hne (by rw [e])
      rw [heap_setCell_other w' ⟨g, o, none⟩ k v hne']; exact h.block k hk hne⟩
/-- append(l, m...) as one step of a region that draws; m may be nil. -/
theorem step_append_L {P : Program} {w : World} {ops : Array Oper} {o : Oper} {a : Act} {K : Act → World → Prop} {Q : Exit → Act → World → Prop} {G : Prop} (hgd : o.guard = none) (s x : Operand) (t : TypeId)
    (ho : o.op = .call { callee := .builtin .append, args := #[s, x], argTypes := #[t, t] })
    {e : TypeId} (i : TypeInfo) (z : Value) (bytes : Nat) (ht : P.underlying t = some (.slice e)) (hi : P.info? e = some i) (hz : i.zero = some z)
    (hsize : i.size = n) (hby : i.bytes = bytes) (hzs : z.cells.size = n) (hsz : 0 < n)
    {base : Nat} {v : Value} {L M : List α} (hs : a.eval s = v) (hown : OwnE E e w base v L) {y : Value} (hx : a.eval x = y) (hl : LiesE E w y M)
    (h63 : L.length + M.length ≤ maxLen) (hbytes : (L.length + M.length) * bytes ≤ 140737488355328) (hbase : base ≤ w.heap.size)
    (h : ∀ v' w', OwnE E e w' base v' (L ++ M) → w.grownBy w' v.ownBlock → (v'.ownBlock = v.ownBlock ∨ v'.ownBlock = some w.heap.size) → K (a.put o.dst v') w') :
    if Region.wanted o (yielded ops a.tmps) = true then Oper.wp P o a w K Q else G := by
  rcases hl with ⟨rfl, rfl⟩ | ⟨ad, c, rfl, _, hc⟩
  · have hw : Region.wanted o (yielded ops a.tmps) = true := by simp [Region.wanted, hgd]
    rw [if_pos hw]
    have hrun := run_append_owned_none (P := P) (w := w) base t o.type e i n ht hi v L.length (cellsE E L) hown
    unfold Oper.wp
    simp [execOp, ho, resolve, invoke, builtin, hs, hx, hrun, Result.andThen]
    exact h v w (by rw [List.append_nil]; exact hown) (World.grownBy.refl w _) (.inl rfl)
  · exact step_append_E hgd s x t ho i z bytes ht hi hz hsize hby hzs hsz hs hown hx hc h63 hbytes hbase h
end
end Go.Proofs.YtbfbhlpibclccaaDoor

/- Rows of anything, in memory, part 3: copy and clear of whole elements, a store of a whole element, a part of a row. No conditions. -/
namespace Go.Proofs.YtbfbhlpibclccaaDoor
open Go Go.RowKit Go.Shelf Go.Sort

section
variable {P : Program}
/-- copy of whole elements of k cells each. -/
theorem run_copy_K (w : World) (dT sT ty elem : TypeId) (k b o dLen dCap : Nat) (a : Addr) (sLen sCap : Nat) (cs : List Value)
    (hu : P.underlying dT = some (.slice elem)) (hs : (P.info? elem).map (·.size) = some k) (hn : cs.length = Nat.min sLen dLen * k)
    (hsrc : ∀ j v, cs[j]? = some v → w.cell? (a.add j) = some v) (hc : ∀ j, j < cs.length → (w.cell? ⟨b, o + j, none⟩).isSome = true) (hf : ∀ j, j < cs.length → w.frozen? ⟨b, o + j, none⟩ = false) (h1 : ∀ v ∈ cs, v.oneCell' = true) :
    (Builtin.copy_ #[dT, sT] ty #[.slice (some ⟨b, o, none⟩) dLen dCap, .slice (some a) sLen sCap]).run P w = .ok (goInt (Nat.min sLen dLen)) (w.setCells b o cs) := by
  have hl := run_loadCells_list (P := P) w a cs hsrc
  have hst := run_storeCells_cells (P := P) b o cs 0 w (by simpa using hc) (by simpa using hf) h1
  cases hq : P.info? elem with
  | none => simp [hq] at hs
  | some i =>
    have hi : i.size = k := by simpa [hq] using hs
    rw [hn] at hl
    simp [Builtin.copy_, run_underlying hu, Builtin.lenOf, Builtin.firstCells, sizeOf, typeInfo, hq, hi, hl, hst]
/-- The cells of m zero values. -/
def zerosK (z : Array Value) (m : Nat) : List Value := (Builtin.zeroCells z m).toList
theorem zerosK_len (z : Array Value) (m : Nat) : (zerosK z m).length = m * z.size := by simp [zerosK, Builtin.zeroCells]
theorem zerosK_one {z : Array Value} (h : ∀ u ∈ z.toList, u.oneCell' = true) (m : Nat) : ∀ u ∈ zerosK z m, u.oneCell' = true := by
  intro u hu
  simp only [zerosK, Builtin.zeroCells, Array.toList_map, List.mem_map] at hu
  obtain ⟨i, hi, rfl⟩ := hu
  have hi' : i < m * z.size := by simpa using hi
  have hz : 0 < z.size := by
    rcases Nat.eq_zero_or_pos z.size with h0 | h0
    · rw [h0] at hi'; simp at hi'
    · exact h0
  have hm : i % z.size < z.size := Nat.mod_lt _ hz
  rw [getElem!_pos z _ hm]
  exact h _ (Array.getElem_mem_toList _)
/-- clear of whole elements of k cells each. -/
theorem run_clear_K (w : World) (t e ty : TypeId) (z : Value) (ht : P.underlying t = some (.slice e)) (hv : ∀ w, (zeroValue e).run P w = .ok z w) (h1 : ∀ u ∈ z.cells.toList, u.oneCell' = true) (b o n c : Nat)
    (hc : ∀ j, j < n * z.cells.size → (w.cell? ⟨b, o + j, none⟩).isSome = true) (hf : ∀ j, j < n * z.cells.size → w.frozen? ⟨b, o + j, none⟩ = false) :
    (Builtin.clear_ #[t] ty #[.slice (some ⟨b, o, none⟩) n c]).run P w = .ok (.tuple #[]) (w.setCells b o (zerosK z.cells n)) := by
  have hzl := zerosK_len z.cells n
  have hst := run_storeCells_cells (P := P) b o (zerosK z.cells n) 0 w (by rw [hzl]; simpa using hc) (by rw [hzl]; simpa using hf) (zerosK_one h1 n)
  simp only [Nat.add_zero] at hst
  unfold zerosK at hst ⊢
  rcases Nat.eq_zero_or_pos n with rfl | hn
  · have h0 : (Builtin.zeroCells z.cells 0).toList = [] := by simp [Builtin.zeroCells]
    simp [Builtin.clear_, run_underlying ht, h0, World.setCells]
  · obtain ⟨m, rfl⟩ : ∃ m, n = m + 1 := ⟨n - 1, by omega⟩
    simp [Builtin.clear_, run_underlying ht, hv, hst]
end
section
variable {α : Type} {n : Nat} {E : EncK α n}
/-- What a cell of an owned row is. -/
theorem own_cellE' {e : TypeId} {w : World} {base g m c : Nat} {L : List α} (h : OwnE E e w base (.slice (some ⟨g, 0, none⟩) m c) L) (j : Nat) (hj : j < L.length * n) : w.cell? ⟨g, j, none⟩ = (cellsE E L)[j]? := by
  obtain ⟨cur, hh, _, _, _, _, _, ht⟩ := ownE_raw h
  rw [← ht, List.getElem?_take_of_lt hj, Array.getElem?_toList]
  simp [World.cell?, hh]
/-- Every cell of an owned row's block is there, up to its capacity. -/
theorem own_room {e : TypeId} {w : World} {base g m c : Nat} {L : List α} (h : OwnE E e w base (.slice (some ⟨g, 0, none⟩) m c) L) (j : Nat) (hj : j < c * n) : (w.cell? ⟨g, j, none⟩).isSome = true ∧ w.frozen? ⟨g, j, none⟩ = false := by
  obtain ⟨cur, hh, _, _, _, _, hsz, _⟩ := ownE_raw h
  refine ⟨?_, frozen_of_heap hh j⟩
  rw [cell_of_heap hh, Array.getElem?_eq_getElem (by omega)]
  rfl
theorem cellsE_putAt (x : α) : ∀ (L : List α) (i : Nat), i < L.length → cellsE E (L.set i x) = cellsE E (L.take i) ++ E.enc x ++ cellsE E (L.drop (i + 1))
  | [], _, h => by simp at h
  | y :: L, 0, _ => by rw [List.set_cons_zero, cellsE_cons]; simp [cellsE]
  | y :: L, i + 1, h => by
    rw [List.set_cons_succ, cellsE_cons, cellsE_putAt x L i (by simpa using h), List.take_succ_cons, cellsE_cons, List.drop_succ_cons]
    simp only [List.append_assoc]
/-- A row behind a run of stores: what it then reads as, told cell by cell. -/
theorem own_setCells {e : TypeId} {w : World} {base g cap : Nat} {L M : List α} (h : OwnE E e w base (.slice (some ⟨g, 0, none⟩) L.length cap) L) (o : Nat) (vs : List Value) (hM : M.length ≤ cap) (hroom : o + vs.length ≤ cap * n)
    (hc : ∀ j u, (cellsE E M)[j]? = some u → (if o ≤ j ∧ j < o + vs.length then vs[j - o]? else w.cell? ⟨g, j, none⟩) = some u) :
    OwnE E e (w.setCells g o vs) base (.slice (some ⟨g, 0, none⟩) M.length cap) M ∧ w.grownBy (w.setCells g o vs) (some g) := by
  obtain ⟨cur, hh, hb, _, _, hm, hsz, _⟩ := ownE_raw h
  obtain ⟨c1, h1, s1⟩ := heap_setCells_row g e vs o _ _ hh
  refine ⟨ownE_of h1 hb hM hm (by rw [s1, hsz]) fun j u hu => ?_, grownBy_setCells g _ _ _ _ ⟨rfl, rfl, rfl, Nat.le_refl _, fun _ _ _ => rfl⟩⟩
  have := hc j u hu
  by_cases hin : o ≤ j ∧ j < o + vs.length
  · rw [if_pos hin] at this
    have k := World.cell?_setCells_in g vs o w (fun t ht => (own_room h (o + t) (by omega)).1) (j - o) (by omega)
    rw [show o + (j - o) = j by omega] at k
    rw [k, ← this, List.getElem?_eq_getElem (by omega)]
  · rw [if_neg hin] at this
    rw [World.cell?_setCells_out g vs o w ⟨g, j, none⟩ (fun _ _ => by show j < o ∨ o + vs.length ≤ j; omega)]
    exact this
/-- Behind a store of a whole element. -/
theorem own_putAt {e : TypeId} {w : World} {base g cap : Nat} {L : List α} (h : OwnE E e w base (.slice (some ⟨g, 0, none⟩) L.length cap) L) {i : Nat} (hi : i < L.length) (x : α) :
    OwnE E e (w.setCells g (i * n) (E.enc x)) base (.slice (some ⟨g, 0, none⟩) (L.set i x).length cap) (L.set i x) ∧ w.grownBy (w.setCells g (i * n) (E.enc x)) (some g) := by
  obtain ⟨cur, hh, _, _, hc, _, _, _⟩ := ownE_raw h
  have hin : i * n + n ≤ L.length * n := by have := Nat.mul_le_mul_right n (show i + 1 ≤ L.length from hi); rwa [Nat.add_mul, Nat.one_mul] at this
  have hcn : L.length * n ≤ cap * n := Nat.mul_le_mul_right n hc
  refine own_setCells h (i * n) (E.enc x) (by rw [List.length_set]; exact hc) (by rw [E.len]; omega) fun j u hu => ?_
  have hj : j < L.length * n := by
    have := (List.getElem?_eq_some_iff.1 hu).1
    rwa [cellsE_len, List.length_set] at this
  rw [cellsE_putAt x L i hi] at hu
  have l1 : (cellsE E (L.take i)).length = i * n := by rw [cellsE_len, List.length_take, Nat.min_eq_left (by omega)]
  rw [E.len]
  by_cases h1 : j < i * n
  · rw [if_neg (by omega), own_cellE' h j hj]
    rw [List.getElem?_append_left (by rw [List.length_append, l1]; omega), List.getElem?_append_left (by rw [l1]; exact h1), ← cellsE_take, List.getElem?_take_of_lt h1] at hu
    exact hu
  · by_cases h2 : j < i * n + n
    · rw [if_pos ⟨by omega, h2⟩]
      rw [List.getElem?_append_left (by rw [List.length_append, l1, E.len]; exact h2), List.getElem?_append_right (by rw [l1]; omega), l1] at hu
      exact hu
    · rw [if_neg (by omega), own_cellE' h j hj]
      rw [List.getElem?_append_right (by rw [List.length_append, l1, E.len]; omega), List.length_append, l1, E.len, ← cellsE_drop, List.getElem?_drop] at hu
      rw [show (i + 1) * n + (j - (i * n + n)) = j by rw [Nat.add_mul, Nat.one_mul]; omega] at hu
      exact hu
/-- The head of an owned row. -/
theorem own_take {e : TypeId} {w : World} {base g m cap : Nat} {L : List α} (h : OwnE E e w base (.slice (some ⟨g, 0, none⟩) m cap) L) (i : Nat) (hi : i ≤ L.length) :
    OwnE E e w base (.slice (some ⟨g, 0, none⟩) i cap) (L.take i) := by
  obtain ⟨cur, hh, hb, _, hc, hm, hsz, _⟩ := ownE_raw h
  have hl : (L.take i).length = i := by rw [List.length_take]; omega
  have := ownE_of (E := E) (M := L.take i) (base := base) (cap := cap) hh hb (by omega) hm hsz fun j u hu => ?_
  · rwa [hl] at this
  · rw [← cellsE_take] at hu
    have hj : j < i * n := by have := (List.getElem?_eq_some_iff.1 hu).1; rw [List.length_take] at this; omega
    rw [List.getElem?_take_of_lt hj] at hu
    have := Nat.mul_le_mul_right n hi
    rw [own_cellE' h j (by omega)]
    exact hu
/-- An element's cells, as a load asks them. -/
theorem own_load {e : TypeId} {w : World} {base g m cap : Nat} {L : List α} (h : OwnE E e w base (.slice (some ⟨g, 0, none⟩) m cap) L) {i : Nat} {x : α} (hi : L[i]? = some x) (P : Program) :
    Sem.run P (loadCellsFrom ⟨g, i * n, none⟩ 0 n #[]) w = .ok (E.enc x).toArray w :=
  run_loadCellsFrom_list P _ _ _ n (E.len x) fun j v hj => by
    rw [Addr.add_lit]
    have hjn : j < n := by have := (List.getElem?_eq_some_iff.1 hj).1; rwa [E.len] at this
    have hil := (List.getElem?_eq_some_iff.1 hi).1
    have := Nat.mul_le_mul_right n (show i + 1 ≤ L.length from hil)
    rw [Nat.add_mul, Nat.one_mul] at this
    rw [own_cellE' h _ (by omega), cellsE_get E L i j hi hjn]
    exact hj
/-- A store of a whole element, as the walk asks it. -/
theorem own_store {e : TypeId} {w : World} {base g m cap : Nat} {L : List α} (h : OwnE E e w base (.slice (some ⟨g, 0, none⟩) m cap) L) {i : Nat} (hi : i < cap) (x : α) (P : Program) :
    Sem.run P (storeCells ⟨g, i * n, none⟩ (E.enc x) 0) w = .ok () (w.setCells g (i * n) (E.enc x)) := by
  have hin := Nat.mul_le_mul_right n (show i + 1 ≤ cap from hi)
  rw [Nat.add_mul, Nat.one_mul] at hin
  have := run_storeCells_cells (P := P) g (i * n) (E.enc x) 0 w (fun j hj => by rw [E.len] at hj; exact (own_room h _ (by omega)).1) (fun j hj => by rw [E.len] at hj; exact (own_room h _ (by omega)).2) (E.one x)
  simpa using this
/-- What DeleteFunc has done behind j elements: i of them are kept. -/
structure DelI (p : α → Bool) (L : List α) (i j : Nat) (M : List α) : Prop where
  len : M.length = L.length
  lt : i < j
  head : M.take i = (L.take j).filter fun x => !p x
  rest : M.drop j = L.drop j
theorem filter_keep {p : α → Bool} {L : List α} (h : ∀ x ∈ L, p x = false) : (L.filter fun x => !p x) = L := List.filter_eq_self.2 fun x hx => by simp [h x hx]
theorem DelI.start {p : α → Bool} {L : List α} {k : Nat} {x : α} (hk : L[k]? = some x) (hx : p x = true) (h : ∀ y ∈ L.take k, p y = false) : DelI p L k (k + 1) L :=
  ⟨rfl, Nat.lt_succ_self _, by rw [List.take_add_one, hk, Option.toList_some, List.filter_append, filter_keep h]; simp [hx], rfl⟩
theorem DelI.at {p : α → Bool} {L M : List α} {i j : Nat} (h : DelI p L i j M) {x : α} (hx : L[j]? = some x) : M[j]? = some x := by
  have := congrArg (fun X => X[0]?) h.rest
  simpa [hx] using this
theorem DelI.keep {p : α → Bool} {L M : List α} {i j : Nat} (h : DelI p L i j M) {x : α} (hx : L[j]? = some x) (hp : p x = false) : DelI p L (i + 1) (j + 1) (M.set i x) := by
  have hj := (List.getElem?_eq_some_iff.1 hx).1
  have hi : i < M.length := by have := h.lt; have := h.len; omega
  refine ⟨by rw [List.length_set]; exact h.len, by have := h.lt; omega, ?_, ?_⟩
  · rw [List.take_add_one, List.getElem?_set_self hi, List.take_set_of_le (Nat.le_refl _), h.head, List.take_add_one, hx, List.filter_append]
    simp [hp]
  · rw [List.drop_set_of_lt (by have := h.lt; omega), ← List.drop_drop, h.rest, List.drop_drop]
theorem DelI.skip {p : α → Bool} {L M : List α} {i j : Nat} (h : DelI p L i j M) {x : α} (hx : L[j]? = some x) (hp : p x = true) : DelI p L i (j + 1) M := by
  refine ⟨h.len, by have := h.lt; omega, ?_, by rw [← List.drop_drop, h.rest, List.drop_drop]⟩
  rw [h.head, List.take_add_one, hx, List.filter_append]
  simp [hp]
theorem DelI.done {p : α → Bool} {L M : List α} {i : Nat} (h : DelI p L i L.length M) : M.take i = L.filter fun x => !p x := by rw [h.head, List.take_length]
/-- What IndexFunc answers. -/
theorem idx_cases [Inhabited α] (p : α → Bool) (L : List α) : (Lib.idxBy (fun (_ : α) y => p y) (L.take L.length) default = -1 ∧ ∀ x ∈ L, p x = false) ∨
    ∃ k x, k < L.length ∧ Lib.idxBy (fun (_ : α) y => p y) (L.take L.length) default = (k : Int) ∧ L[k]? = some x ∧ p x = true ∧ ∀ y ∈ L.take k, p y = false := by
  rcases Nat.lt_or_ge (L.findIdx p) L.length with hk | hk
  · right
    have hp : p L[L.findIdx p] = true := List.findIdx_getElem (w := hk)
    refine ⟨L.findIdx p, L[L.findIdx p], hk, ?_, List.getElem?_eq_getElem hk, hp, ?_⟩
    · refine Lib.idxBy_hit _ L L.length _ default hk (Nat.le_refl _) (by rw [getElem!_pos L _ hk]; exact hp) fun j hj => ?_
      rw [getElem!_pos L j (by omega)]
      have := List.not_of_lt_findIdx (p := p) (xs := L) (i := j) hj
      simpa using this
    · intro y hy
      obtain ⟨j, hj, rfl⟩ := List.mem_take_iff_getElem.1 hy
      have := List.not_of_lt_findIdx (p := p) (xs := L) (i := j) (by omega)
      simpa using this
  · left
    have hall : ∀ x ∈ L, p x = false := fun x hx => by
      have := List.findIdx_eq_length.1 (Nat.le_antisymm List.findIdx_le_length hk) x hx
      simpa using this
    refine ⟨Lib.idxBy_miss _ L L.length default fun j hj => ?_, hall⟩
    rw [getElem!_pos L j hj]
    exact hall _ (List.getElem_mem hj)
theorem grown_of_below {w w' : World} {row : Option Nat} (h : Below w.heap.size w w') : w.grownBy w' row := ⟨h.os, h.tape, h.output, h.size, fun k hk _ => h.block k hk⟩
theorem grown_then {w a b : World} {row : Option Nat} (h : w.grownBy a row) (k : a.grownBy b row) : w.grownBy b row := ⟨k.os.trans h.os, k.tape.trans h.tape, k.output.trans h.output, Nat.le_trans h.size k.size, fun j hj hne => (k.block j (Nat.lt_of_lt_of_le hj h.size) hne).trans (h.block j hj hne)⟩
theorem grown_drew {w a : World} {row : Option Nat} (h : w.grownBy a row) : w.grownBy a.drew row := ⟨h.os, h.tape, h.output, h.size, h.block⟩
end
end Go.Proofs.YtbfbhlpibclccaaDoor

/- Rows of anything: a literal's row; the parts of a type's description. No conditions. -/
namespace Go.Proofs.YtbfbhlpibclccaaDoor
open Go Go.RowKit

theorem lies_lit {α : Type} {n : Nat} (E : EncK α n) {w : World} {g : Nat} {t : TypeId} (L : List α) (h : w.heap[g]? = some (.cells (cellsE E L).toArray t (0, 0))) : LiesE E w (.slice (some ⟨g, 0, none⟩) L.length L.length) L :=
  .inr ⟨_, _, rfl, Nat.le_refl _, fun j u hu => by rw [Addr.add_lit, Nat.zero_add, cell_of_heap h, List.getElem?_toArray]; exact hu⟩
theorem own_lit {α : Type} {n : Nat} (E : EncK α n) {w : World} {g : Nat} {t : TypeId} (L : List α) (h : w.heap[g]? = some (.cells (cellsE E L).toArray t (0, 0))) (hl : L.length ≤ maxLen) : OwnE E t w g (.slice (some ⟨g, 0, none⟩) L.length L.length) L :=
  ownE_of h (Nat.le_refl _) (Nat.le_refl _) hl (by simp [cellsE_len]) fun j u hu => by rw [cell_of_heap h, List.getElem?_toArray]; exact hu
/-- Two rows that the calls have made of different element types lie apart. -/
theorem rows_apart {α β : Type} {n m : Nat} {E : EncK α n} {F : EncK β m} {e f : TypeId} {w : World} {b c : Nat} {u v : Value} {L : List α} {M : List β} (h : OwnE E e w b u L) (k : OwnE F f w c v M) (hne : e ≠ f) : ∀ i, u.ownBlock = some i → v.ownBlock ≠ some i := by
  intro i hi hj
  rcases h.2 with ⟨rfl, _⟩ | ⟨g, cap, cur, rfl, _, hh, _⟩
  · simp [Value.ownBlock] at hi
  · rcases k.2 with ⟨rfl, _⟩ | ⟨g', cap', cur', rfl, _, hh', _⟩
    · simp [Value.ownBlock] at hj
    · simp [Value.ownBlock] at hi hj
      subst hi; subst hj
      rw [hh] at hh'
      simp at hh'
      exact hne hh'.2
end Go.Proofs.YtbfbhlpibclccaaDoor
