/- Where the first that is so stands in a row. No conditions. -/
import Derived.Test.YtbdnfppbiplpmaaDoorAlM
import Derived.Test.YtbdnfppbiplpmaaDoorRwL
import Derived.Test.YtbdnfppbiplpmaaDoorMaB
import Derived.Test.YtbdnfppbiplpmaaDoorChP
import Derived.Test.YtbdnfppbiplpmaaDoorTkE
import Derived.Test.YtbdnfppbiplpmaaDoorVec
import Derived.Lib.Hide
import Derived.Deep.QuietTactic
import Derived.Test.YtbdnfppbiplpmaaDoorRgo
import Derived.IntWalk
import Derived.Deep.RegionHeld3
import Derived.Test.YtbdnfppbiplpmaaDoorRwS
namespace Go.Proofs.YtbdnfppbiplpmaaDoor
open Go

/-- The place of the first that is so; -1: there is none. -/
def posF {α : Type} (p : α → Bool) (L : List α) : Int := match L.findIdx? p with
  | some i => (i : Int)
  | none => -1
theorem find_is {α : Type} {p : α → Bool} : ∀ {L : List α} {i : Nat} {x : α}, L[i]? = some x → p x = true → (∀ k y, k < i → L[k]? = some y → p y = false) → L.findIdx? p = some i
  | [], _, _, h, _, _ => by cases h
  | y :: L, 0, x, h, hp, _ => by
    simp only [List.getElem?_cons_zero, Option.some.injEq] at h
    subst h
    rw [List.findIdx?_cons, hp]; rfl
  | y :: L, i + 1, x, h, hp, hno => by
    rw [List.findIdx?_cons, hno 0 y (Nat.succ_pos i) rfl, find_is (L := L) (i := i) h hp fun k z hk hz => hno (k + 1) z (Nat.succ_lt_succ hk) hz]
    rfl
theorem posF_is {α : Type} {p : α → Bool} {L : List α} {i : Nat} {x : α} (h : L[i]? = some x) (hp : p x = true) (hno : ∀ (k : Nat) (y : α), k < i → L[k]? = some y → p y = false) : posF p L = (i : Int) := by
  unfold posF; rw [find_is h hp hno]
theorem posF_none {α : Type} {p : α → Bool} {L : List α} (hno : ∀ (k : Nat) (y : α), L[k]? = some y → p y = false) : posF p L = -1 := by
  unfold posF
  rw [List.findIdx?_eq_none_iff.2 fun x hx => by obtain ⟨i, hi⟩ := List.mem_iff_getElem?.1 hx; exact hno i x hi]
theorem posF_cases {α : Type} (p : α → Bool) (L : List α) : (posF p L = -1 ∧ ∀ x ∈ L, p x = false) ∨ ∃ (i : Nat) (x : α), posF p L = (i : Int) ∧ i < L.length ∧ L[i]? = some x ∧ p x = true := by
  unfold posF
  cases h : L.findIdx? p with
  | none => exact .inl ⟨rfl, fun x hx => List.findIdx?_eq_none_iff.1 h x hx⟩
  | some i =>
    obtain ⟨hi, hp, _⟩ := List.findIdx?_eq_some_iff_getElem.1 h
    exact .inr ⟨i, L[i], rfl, hi, List.getElem?_eq_getElem hi, hp⟩
def posS (G : AG) (id : Int) : Int := posF (fun s : SetA => decide (s.id = id)) G.sets
def posT (G : AG) (t : Tk) : Int := posF (fun x : InA => decide (x.tk = t)) G.tasks
theorem posS_cases {G : AG} (h : GA G) (id : Int) : (posS G id = -1 ∧ setA G id = none) ∨ ∃ (i : Nat) (s : SetA), posS G id = (i : Int) ∧ i < G.sets.length ∧ G.sets[i]? = some s ∧ setA G id = some s := by
  rcases posF_cases (fun s : SetA => decide (s.id = id)) G.sets with ⟨h1, h2⟩ | ⟨i, s, h1, h2, h3, h4⟩
  · exact .inl ⟨h1, set_none.2 fun x hx => by simpa using h2 x hx⟩
  · exact .inr ⟨i, s, h1, h2, h3, (set_iff h).2 ⟨List.mem_of_getElem? h3, by simpa using h4⟩⟩
theorem posT_cases {G : AG} (h : GA G) (t : Tk) : (posT G t = -1 ∧ tkA G t = none) ∨ ∃ (i : Nat) (x : InA), posT G t = (i : Int) ∧ i < G.tasks.length ∧ G.tasks[i]? = some x ∧ tkA G t = some x := by
  rcases posF_cases (fun x : InA => decide (x.tk = t)) G.tasks with ⟨h1, h2⟩ | ⟨i, s, h1, h2, h3, h4⟩
  · exact .inl ⟨h1, tk_none.2 fun x hx => by simpa using h2 x hx⟩
  · exact .inr ⟨i, s, h1, h2, h3, (tk_iff h).2 ⟨List.mem_of_getElem? h3, by simpa using h4⟩⟩
end Go.Proofs.YtbdnfppbiplpmaaDoor

/- The reference's book of envelopes in memory: two rows; where a set, where a task stands in them. Condition: the book lies in memory as its rows have it. -/
namespace Go.Proofs.YtbdnfppbiplpmaaDoor
open Go Go.RowKit

def encSet : EncK SetA 14 where
  enc s := [.int .i64 s.id, .int .i64 (s.n : Int), .int .i64 s.has.a, .int .i64 s.has.b, .int .i64 s.has.c, .int .i64 s.has.d, .bool (s.up 0), .bool (s.up 1), .bool (s.up 2), .bool (s.up 3), .bool (s.up 4), .bool (s.up 5), .bool (s.up 6), .bool (s.up 7)]
  len _ := rfl
  one x u hu := by simp at hu; rcases hu with rfl | rfl | rfl | rfl | rfl | rfl | rfl | rfl | rfl | rfl | rfl | rfl | rfl | rfl <;> rfl
def encIn : EncK InA 8 where
  enc x := [.int .i64 x.tk.job, .int .i64 x.tk.ix, .int .i64 x.set, .int .i64 x.pos, .int .i64 x.need.a, .int .i64 x.need.b, .int .i64 x.need.c, .int .i64 x.need.d]
  len _ := rfl
  one x u hu := by simp at hu; rcases hu with rfl | rfl | rfl | rfl | rfl | rfl | rfl | rfl <;> rfl
/-- The reference's blocks. -/
def RfQ (u : Nat) (v1 v2 : Value) (k : Nat) : Prop := k = u ∨ v1.ownBlock = some k ∨ v2.ownBlock = some k
structure RfA (w : World) (u : Nat) (v1 v2 : Value) (G : AG) : Prop where
  box : w.heap[u]? = some (.cells #[v1, v2] 30 (0, 0))
  s : OwnE encSet 63 w (u + 1) v1 G.sets
  t : OwnE encIn 58 w (u + 1) v2 G.tasks
  ne : ∀ k, v1.ownBlock = some k → v2.ownBlock ≠ some k
  good : GA G
section
variable {w w' : World} {u : Nat} {v1 v2 : Value} {G : AG}
theorem RfA.old (h : RfA w u v1 v2 G) : ∀ k, RfQ u v1 v2 k → k < w.heap.size := fun k hk => by
  rcases hk with rfl | hk | hk
  · exact lt_of_row h.box
  · exact (h.s.lt k hk).2
  · exact (h.t.lt k hk).2
theorem RfA.same (h : RfA w u v1 v2 G) (hb : ∀ k, RfQ u v1 v2 k → w'.heap[k]? = w.heap[k]?) : RfA w' u v1 v2 G :=
  ⟨(hb u (.inl rfl)).trans h.box, h.s.same fun k hk => hb k (.inr (.inl hk)), h.t.same fun k hk => hb k (.inr (.inr hk)), h.ne, h.good⟩
theorem RfA.on (h : RfA w u v1 v2 G) (hb : Below w.heap.size w w') : RfA w' u v1 v2 G := h.same fun k hk => hb.block k (h.old k hk)
theorem RfA.drew (h : RfA w u v1 v2 G) : RfA w.drew u v1 v2 G := h.on (Below.refl _ _).drew
theorem RfA.setAt (h : RfA w u v1 v2 G) : ∃ A c, v1 = .slice A G.sets.length c ∧ w.cell? ⟨u, 0, none⟩ = some (.slice A G.sets.length c) ∧ ∀ (i : Nat) (s : SetA), G.sets[i]? = some s → ∃ ad g, A = some ad ∧ ad.add (i * 14) = ⟨g, i * 14, none⟩ ∧ (∀ j, w.frozen? ⟨g, j, none⟩ = false) ∧ ∀ r x, (encSet.enc s)[r]? = some x → w.cell? ⟨g, i * 14 + r, none⟩ = some x := by
  obtain ⟨A, c, hv⟩ := h.s.form
  refine ⟨A, c, hv, by rw [← hv]; exact cell_of_heap h.box 0, fun i s hi => ?_⟩
  have hs := h.s
  rw [hv] at hs
  obtain ⟨ad, g, hA, hg, _, _, hf, hc⟩ := hs.at hi
  exact ⟨ad, g, hA, hg, hf, hc⟩
theorem RfA.tkAt (h : RfA w u v1 v2 G) : ∃ A c, v2 = .slice A G.tasks.length c ∧ w.cell? ⟨u, 1, none⟩ = some (.slice A G.tasks.length c) ∧ ∀ (i : Nat) (s : InA), G.tasks[i]? = some s → ∃ ad g, A = some ad ∧ ad.add (i * 8) = ⟨g, i * 8, none⟩ ∧ (∀ j, w.frozen? ⟨g, j, none⟩ = false) ∧ ∀ r x, (encIn.enc s)[r]? = some x → w.cell? ⟨g, i * 8 + r, none⟩ = some x := by
  obtain ⟨A, c, hv⟩ := h.t.form
  refine ⟨A, c, hv, by rw [← hv]; exact cell_of_heap h.box 1, fun i s hi => ?_⟩
  have hs := h.t
  rw [hv] at hs
  obtain ⟨ad, g, hA, hg, _, _, hf, hc⟩ := hs.at hi
  exact ⟨ad, g, hA, hg, hf, hc⟩
theorem RfA.sCell {ad : Addr} {m c i g : Nat} {s : SetA} (h : RfA w u (.slice (some ad) m c) v2 G) (hi : G.sets[i]? = some s) (ea : ad.add (i * 14) = ⟨g, i * 14, none⟩) :
    w.cell? ⟨u, 0, none⟩ = some (.slice (some ad) m c) ∧ (∀ j, w.frozen? ⟨g, j, none⟩ = false) ∧ ∀ r x, (encSet.enc s)[r]? = some x → w.cell? ⟨g, i * 14 + r, none⟩ = some x := by
  obtain ⟨ad', g', hA, hg, _, _, hf, hc⟩ := h.s.at hi
  obtain rfl := Option.some.inj hA
  rw [ea] at hg
  simp only [Addr.mk.injEq, and_true] at hg
  subst hg
  exact ⟨cell_of_heap h.box 0, hf, hc⟩
theorem RfA.tCell {ad : Addr} {m c i g : Nat} {s : InA} (h : RfA w u v1 (.slice (some ad) m c) G) (hi : G.tasks[i]? = some s) (ea : ad.add (i * 8) = ⟨g, i * 8, none⟩) :
    w.cell? ⟨u, 1, none⟩ = some (.slice (some ad) m c) ∧ (∀ j, w.frozen? ⟨g, j, none⟩ = false) ∧ ∀ r x, (encIn.enc s)[r]? = some x → w.cell? ⟨g, i * 8 + r, none⟩ = some x := by
  obtain ⟨ad', g', hA, hg, _, _, hf, hc⟩ := h.t.at hi
  obtain rfl := Option.some.inj hA
  rw [ea] at hg
  simp only [Addr.mk.injEq, and_true] at hg
  subst hg
  exact ⟨cell_of_heap h.box 1, hf, hc⟩
end
set_option maxRecDepth 100000 in
set_option maxHeartbeats 1600000 in
/-- Where a set stands. -/
theorem rxfind_c {w : World} {u : Nat} {v1 v2 : Value} {G : AG} (h : RfA w u v1 v2 G) (id : Int) :
    Calls Tryd.prog 25 #[.pointer (some ⟨u, 0, none⟩), .int .i64 id] w fun e w' => e = .returned (.int .i64 (posS G id)) ∧ w = w' := by
  obtain ⟨A, c, -, hc0, hcx⟩ := h.setAt
  obtain ⟨N, hN⟩ : ∃ N, G.sets.length = N := ⟨_, rfl⟩
  have hn8 : N ≤ 8 := by rw [← hN]; exact h.good.few
  have HC := Lib.hid hcx
  have HNN := Lib.hid hN
  rw [hN] at hc0
  clear hcx hN
  go_enter Tryd.func25, Tryd.ntmps25
  go_wp2_with fail
  go_loopw [5] (fun I wr => ∃ j : Nat, j ≤ N ∧ I = .int .i64 (j : Int) ∧ (∀ k y, k < j → G.sets[k]? = some y → decide (y.id = id) = false) ∧ w = wr) (fun I _ => N - natOf I)
  case atStart => exact ⟨0, Nat.zero_le _, rfl, fun k y hk => by omega, rfl⟩
  case round =>
    obtain ⟨j, hj, rfl, hno, rfl⟩ := hrel
    have HN := Lib.hid hno
    clear hno
    by_cases hlt : j < N
    · obtain ⟨x, hx⟩ : ∃ x, G.sets[j]? = some x := ⟨_, List.getElem?_eq_getElem (by have := HNN.out; omega)⟩
      have HX := Lib.hid hx
      obtain ⟨ad, g, rfl, ea, -, hcc⟩ := HC.out j x hx
      have x0 : w.cell? ⟨g, j * 14, none⟩ = some (.int .i64 x.id) := hcc 0 _ rfl
      clear hx hcc
      have hi0 : (0 : Int) ≤ (j : Int) := by omega
      have hi1 : (j : Int) < (N : Int) := by omega
      have hw1 : wrap64 ((j : Int) + 1) = ((j + 1 : Nat) : Int) := by unfold wrap64; omega
      by_cases he : x.id = id
      · have he' : (x.id == id) = true := by simpa using he
        have HE := Lib.hid (decide_eq_true he)
        clear he
        go_wp2_with fail
        go_ret
        exact ⟨by unfold posS; rw [posF_is HX.out HE.out HN.out]; rfl, rfl⟩
      · have he' : (x.id == id) = false := by simpa using he
        have HE := Lib.hid (decide_eq_false he)
        clear he
        go_wp2_with fail
        go_roundw
        case rel =>
          refine ⟨j + 1, by omega, by rw [← hw1]; first | rfl | (congr 1; omega), fun k y hk hy => ?_, by first | rfl | trivial⟩
          rcases Nat.lt_succ_iff_lt_or_eq.1 hk with hk | rfl
          · exact HN.out k y hk hy
          · rw [HX.out] at hy; obtain rfl := Option.some.inj hy; exact HE.out
        case measure => simp [natOf]; omega
    · obtain rfl : j = N := by omega
      go_wp2_with fail
      go_ret
      exact ⟨by unfold posS; rw [posF_none fun k y hy => HN.out k y (by have := (List.getElem?_eq_some_iff.1 hy).1; have := HNN.out; omega) hy]; rfl, rfl⟩
set_option maxRecDepth 100000 in
set_option maxHeartbeats 3200000 in
/-- Where a task stands. -/
theorem rxwhere_c {w : World} {u : Nat} {v1 v2 : Value} {G : AG} (h : RfA w u v1 v2 G) (t : Tk) (hn : G.tasks.length ≤ 100000) :
    Calls Tryd.prog 23 #[.pointer (some ⟨u, 0, none⟩), .agg #[.int .i64 t.job, .int .i64 t.ix]] w fun e w' => e = .returned (.int .i64 (posT G t)) ∧ Below w.heap.size w w' := by
  obtain ⟨X, hX⟩ : ∃ X, w.heap.size = X := ⟨_, rfl⟩
  obtain ⟨W1, hW1⟩ : ∃ W1, w.alloc (.cells #[.int .i64 t.job, .int .i64 t.ix] 32) = W1 := ⟨_, rfl⟩
  have hb1 : Below w.heap.size w W1 := by rw [← hW1]; exact (Below.refl _ _).alloc (Nat.le_refl _) _
  have hx1 : W1.heap[X]? = some (.cells #[.int .i64 t.job, .int .i64 t.ix] 32 (0, 0)) := by rw [← hW1, ← hX]; exact heap_alloc_new _ _
  obtain ⟨N, hN⟩ : ∃ N, G.tasks.length = N := ⟨_, rfl⟩
  have HNN := Lib.hid hN
  have HB1 := Lib.hid hb1
  have HC : Hid (∀ W, Below W1.heap.size W1 W → RfA W u v1 v2 G ∧ W.cell? ⟨X, 0, none⟩ = some (.int .i64 t.job) ∧ W.cell? ⟨X, 1, none⟩ = some (.int .i64 t.ix)) := Lib.hid fun W hb => by
    have hx2 := (hb.block X (lt_of_row hx1)).trans hx1
    exact ⟨(h.on hb1).on hb, cell_of_heap hx2 0, cell_of_heap hx2 1⟩
  have HW1 := Lib.hid hW1
  have HXX := Lib.hid hX
  rw [hN] at hn
  clear h hN hb1 hx1 hW1 hX
  go_enter Tryd.func23, Tryd.ntmps23
  go_upto_region 1 with fail
  rw [HW1.out, HXX.out]
  go_wp2_with fail
  go_loopw [5] (fun I wr => ∃ j : Nat, j ≤ N ∧ I = .int .i64 (j : Int) ∧ (∀ k y, k < j → G.tasks[k]? = some y → decide (y.tk = t) = false) ∧ Below W1.heap.size W1 wr) (fun I _ => N - natOf I)
  case atStart => exact ⟨0, Nat.zero_le _, rfl, fun k y hk => by omega, Below.refl _ _⟩
  case round =>
    obtain ⟨j, hj, rfl, hno, hb⟩ := hrel
    have HN := Lib.hid hno
    have HB := Lib.hid hb
    obtain ⟨hr, t0, t1⟩ := HC.out wr hb
    obtain ⟨A, c, -, hc0, hcx⟩ := hr.tkAt
    rw [HNN.out] at hc0
    clear hno hb hr
    by_cases hlt : j < N
    · obtain ⟨x, hx⟩ : ∃ x, G.tasks[j]? = some x := ⟨_, List.getElem?_eq_getElem (by have := HNN.out; omega)⟩
      have HX := Lib.hid hx
      obtain ⟨ad, g, rfl, ea, -, hcc⟩ := hcx j x hx
      have x0 : wr.cell? ⟨g, j * 8, none⟩ = some (.int .i64 x.tk.job) := hcc 0 _ rfl
      have x1 : wr.cell? ⟨g, j * 8 + 1, none⟩ = some (.int .i64 x.tk.ix) := hcc 1 _ rfl
      clear hx hcc hcx
      have hi0 : (0 : Int) ≤ (j : Int) := by omega
      have hi1 : (j : Int) < (N : Int) := by omega
      have hw1 : wrap64 ((j : Int) + 1) = ((j + 1 : Nat) : Int) := by unfold wrap64; omega
      have HET := eqTk x.tk t
      have HJ : Hid (j < N) := Lib.hid hlt
      cases hd : decide (x.tk = t) with
      | true =>
        rw [hd] at HET
        have HE := Lib.hid hd
        clear hd
        go_wp2_with fail
        go_quiet (fail)
        clear HET x0 x1 t0 t1 hc0
        go_wp2_with fail
        go_ret
        exact ⟨by unfold posT; rw [posF_is HX.out HE.out HN.out]; rfl, HB1.out.trans ((HB.out.trans (below_drewN (Below.refl _ _) nq)).mono HB1.out.size)⟩
      | false =>
        rw [hd] at HET
        have HE := Lib.hid hd
        clear hd
        go_wp2_with fail
        go_quiet (fail)
        clear HET x0 x1 t0 t1 hc0
        go_wp2_with fail
        go_roundw
        case rel =>
          refine ⟨j + 1, HJ.out, by rw [← hw1]; first | rfl | (congr 1; omega), fun k y hk hy => ?_, HB.out.trans (below_drewN (Below.refl _ _) nq)⟩
          rcases Nat.lt_succ_iff_lt_or_eq.1 hk with hk | rfl
          · exact HN.out k y hk hy
          · rw [HX.out] at hy; obtain rfl := Option.some.inj hy; exact HE.out
        case measure => simp [natOf]; omega
    · obtain rfl : j = N := by omega
      clear hcx
      go_wp2_with fail
      go_ret
      exact ⟨by unfold posT; rw [posF_none fun k y hy => HN.out k y (by have := (List.getElem?_eq_some_iff.1 hy).1; have := HNN.out; omega) hy]; rfl, HB1.out.trans (HB.out.mono HB1.out.size)⟩
end Go.Proofs.YtbdnfppbiplpmaaDoor

/- The reference's book of envelopes: a set that isn't opened. Condition: the book lies in memory as its rows have it. -/
namespace Go.Proofs.YtbdnfppbiplpmaaDoor
open Go Go.RowKit

set_option maxRecDepth 100000 in
set_option maxHeartbeats 3200000 in
/-- Open: it doesn't. -/
theorem rxopen_no {w : World} {u : Nat} {v1 v2 : Value} {G : AG} (h : RfA w u v1 v2 G) (id n : Int) (v : V4) (hc : (openA G id n v).2 ≠ 0) :
    Calls Tryd.prog 10 #[.pointer (some ⟨u, 0, none⟩), .int .i64 id, .int .i64 n, .agg #[.int .i64 v.a, .int .i64 v.b, .int .i64 v.c, .int .i64 v.d]] w fun e w' => e = .returned (.int .i64 ((openA G id n v).2 : Nat)) ∧ Below w.heap.size w w' := by
  have hb1 : Below w.heap.size w (w.alloc (.cells #[.int .i64 v.a, .int .i64 v.b, .int .i64 v.c, .int .i64 v.d] 34)) := (Below.refl _ _).alloc (Nat.le_refl _) _
  have HB1 := Lib.hid hb1
  have H1 := Lib.hid (h.on hb1)
  have HG := Lib.hid (fun W => rgood_x v W)
  by_cases hbad : id < 1 ∨ 999 < id ∨ n < 1 ∨ 8 < n ∨ goodV v = false
  · have hcl : (openA G id n v).2 = 1 := by unfold openA; rw [if_pos hbad]
    rw [hcl]
    have hcs : decide (id < 1) = true ∨ (decide (id < 1) = false ∧ decide (999 < id) = true) ∨ (decide (id < 1) = false ∧ decide (999 < id) = false ∧ decide (n < 1) = true) ∨ (decide (id < 1) = false ∧ decide (999 < id) = false ∧ decide (n < 1) = false ∧ decide (8 < n) = true) ∨
        (decide (id < 1) = false ∧ decide (999 < id) = false ∧ decide (n < 1) = false ∧ decide (8 < n) = false ∧ goodV v = false) := by
      by_cases k1 : id < 1
      · exact .inl (decide_eq_true k1)
      · by_cases k2 : 999 < id
        · exact .inr (.inl ⟨decide_eq_false k1, decide_eq_true k2⟩)
        · by_cases k3 : n < 1
          · exact .inr (.inr (.inl ⟨decide_eq_false k1, decide_eq_false k2, decide_eq_true k3⟩))
          · by_cases k4 : 8 < n
            · exact .inr (.inr (.inr (.inl ⟨decide_eq_false k1, decide_eq_false k2, decide_eq_false k3, decide_eq_true k4⟩)))
            · refine .inr (.inr (.inr (.inr ⟨decide_eq_false k1, decide_eq_false k2, decide_eq_false k3, decide_eq_false k4, ?_⟩)))
              rcases hbad with h | h | h | h | h
              · exact absurd h k1
              · exact absurd h k2
              · exact absurd h k3
              · exact absurd h k4
              · exact h
    clear h hbad hcl hc hb1 H1
    rcases hcs with d1 | ⟨d1, d2⟩ | ⟨d1, d2, d3⟩ | ⟨d1, d2, d3, d4⟩ | ⟨d1, d2, d3, d4, d5⟩
    · go_enter Tryd.func10, Tryd.ntmps10
      go_wp2_with fail
      go_ret
      exact ⟨rfl, HB1.out⟩
    · go_enter Tryd.func10, Tryd.ntmps10
      go_wp2_with fail
      go_ret
      exact ⟨rfl, HB1.out⟩
    · go_enter Tryd.func10, Tryd.ntmps10
      go_wp2_with fail
      go_ret
      exact ⟨rfl, HB1.out⟩
    · go_enter Tryd.func10, Tryd.ntmps10
      go_wp2_with fail
      go_ret
      exact ⟨rfl, HB1.out⟩
    · rw [d5] at HG
      go_enter Tryd.func10, Tryd.ntmps10
      go_wp2_with fail
      refine (HG.out _).mono ?_
      rintro e w2 ⟨rfl, rfl⟩
      go_wp2_with fail
      go_ret
      exact ⟨rfl, HB1.out.alloc HB1.out.size _⟩
  · have k1 : decide (id < 1) = false := decide_eq_false fun h => hbad (.inl h)
    have k2 : decide (999 < id) = false := decide_eq_false fun h => hbad (.inr (.inl h))
    have k3 : decide (n < 1) = false := decide_eq_false fun h => hbad (.inr (.inr (.inl h)))
    have k4 : decide (8 < n) = false := decide_eq_false fun h => hbad (.inr (.inr (.inr (.inl h))))
    have k5 : goodV v = true := by cases hg : goodV v; exact absurd (.inr (.inr (.inr (.inr hg)))) hbad; rfl
    have HB2 : Hid (Below w.heap.size w ((w.alloc (.cells #[.int .i64 v.a, .int .i64 v.b, .int .i64 v.c, .int .i64 v.d] 34)).alloc (.cells #[.int .i64 v.a, .int .i64 v.b, .int .i64 v.c, .int .i64 v.d] 34))) := Lib.hid (hb1.alloc hb1.size _)
    have hr2 := h.on HB2.out
    have HF := Lib.hid (rxfind_c hr2 id)
    have c0 := cell_of_heap hr2.box 0
    rw [k5] at HG
    rcases posS_cases h.good id with ⟨hp, e⟩ | ⟨i, x, hp, hi, his, e⟩
    · have h8 : 8 ≤ G.sets.length := by
        by_cases h8 : 8 ≤ G.sets.length
        · exact h8
        · exfalso; apply hc
          unfold openA
          rw [if_neg hbad, if_neg (by rw [e]; simp), if_neg h8]
      have hcl : (openA G id n v).2 = 7 := by
        unfold openA
        rw [if_neg hbad, if_neg (by rw [e]; simp), if_pos h8]
      obtain ⟨A, c, hv⟩ := hr2.s.form
      obtain ⟨N, hN⟩ : ∃ N, G.sets.length = N := ⟨_, rfl⟩
      rw [hcl]
      rw [hp] at HF
      rw [hN] at hv h8
      subst hv
      have c0' : ((w.alloc (.cells #[.int .i64 v.a, .int .i64 v.b, .int .i64 v.c, .int .i64 v.d] 34)).alloc (.cells #[.int .i64 v.a, .int .i64 v.b, .int .i64 v.c, .int .i64 v.d] 34)).cell? ⟨u, 0, none⟩ = some (.slice A N c) := c0
      have k8 : decide ((8 : Int) ≤ (N : Int)) = true := decide_eq_true (by omega)
      obtain ⟨W2, hW2⟩ : ∃ W2, (w.alloc (.cells #[.int .i64 v.a, .int .i64 v.b, .int .i64 v.c, .int .i64 v.d] 34)).alloc (.cells #[.int .i64 v.a, .int .i64 v.b, .int .i64 v.c, .int .i64 v.d] 34) = W2 := ⟨_, rfl⟩
      have HW2 := Lib.hid hW2
      rw [hW2] at c0' HF HB2
      clear h hbad hcl hc hb1 H1 hr2 hp e c0 hW2 hN
      go_enter Tryd.func10, Tryd.ntmps10
      go_wp2_with fail
      refine (HG.out _).mono ?_
      rintro e w2 ⟨rfl, rfl⟩
      rw [HW2.out]
      go_wp2_with fail
      refine HF.out.mono ?_
      rintro e w3 ⟨rfl, rfl⟩
      go_wp2_with fail
      go_ret
      exact ⟨rfl, HB2.out⟩
    · have hcl : (openA G id n v).2 = 6 := by
        unfold openA
        rw [if_neg hbad, if_pos (by rw [e]; rfl)]
      rw [hcl]
      rw [hp] at HF
      have i0 : (0 : Int) ≤ (i : Int) := by omega
      obtain ⟨W2, hW2⟩ : ∃ W2, (w.alloc (.cells #[.int .i64 v.a, .int .i64 v.b, .int .i64 v.c, .int .i64 v.d] 34)).alloc (.cells #[.int .i64 v.a, .int .i64 v.b, .int .i64 v.c, .int .i64 v.d] 34) = W2 := ⟨_, rfl⟩
      have HW2 := Lib.hid hW2
      rw [hW2] at HF HB2
      clear h hbad hcl hc hb1 H1 hr2 hp e c0 hi his hW2
      go_enter Tryd.func10, Tryd.ntmps10
      go_wp2_with fail
      refine (HG.out _).mono ?_
      rintro e w2 ⟨rfl, rfl⟩
      rw [HW2.out]
      go_wp2_with fail
      refine HF.out.mono ?_
      rintro e w3 ⟨rfl, rfl⟩
      go_wp2_with fail
      go_ret
      exact ⟨rfl, HB2.out⟩
end Go.Proofs.YtbdnfppbiplpmaaDoor

/- The reference's book of envelopes: what is left of one. Condition: the book lies in memory as its rows have it. -/
namespace Go.Proofs.YtbdnfppbiplpmaaDoor
open Go Go.RowKit

/-- What is left behind the first tasks. -/
def leftUp (G : AG) (s : SetA) (at_ : Int) (j : Nat) : V4 := mv s.has (needV ((G.tasks.take j).filter (inE s.id at_)))
theorem leftUp_zero (G : AG) (s : SetA) (p : Int) : leftUp G s p 0 = s.has := by
  apply comp_ext; intro r
  unfold leftUp
  rw [comp_mv, comp_needV, List.take_zero, List.filter_nil, needN_nil]; omega
theorem leftUp_all {G : AG} (s : SetA) (p : Int) {j : Nat} (hj : G.tasks.length ≤ j) : leftUp G s p j = leftA G s p := by
  unfold leftUp leftA; rw [List.take_of_length_le hj]
theorem leftUp_succ {G : AG} (s : SetA) (p : Int) {j : Nat} {x : InA} (hx : G.tasks[j]? = some x) : leftUp G s p (j + 1) = if inE s.id p x = true then mv (leftUp G s p j) x.need else leftUp G s p j := by
  obtain ⟨hj, e⟩ := List.getElem?_eq_some_iff.1 hx
  apply comp_ext; intro r
  have ht : G.tasks.take (j + 1) = G.tasks.take j ++ [x] := by rw [List.take_add_one, hx]; rfl
  unfold leftUp
  rw [ht, List.filter_append, comp_mv, comp_needV, needN_app]
  by_cases h : inE s.id p x = true
  · rw [if_pos h, comp_mv, comp_mv, comp_needV, List.filter_cons, if_pos h, List.filter_nil, needN_cons, needN_nil]; omega
  · rw [if_neg h, comp_mv, comp_needV, List.filter_cons, if_neg h, List.filter_nil, needN_nil]; omega
theorem leftUp_good {G : AG} (h : GA G) {s : SetA} (hs : s ∈ G.sets) (p : Int) (j : Nat) : goodV (leftUp G s p j) = true := by
  refine good_comp.2 fun r => ?_
  have h1 := good_comp.1 (h.left s hs p) r
  have h2 := good_comp.1 (h.set s hs).2.2.2.2 r
  rw [comp_left] at h1
  unfold leftUp
  rw [comp_mv, comp_needV]
  have hg : ∀ x ∈ G.tasks.filter (inE s.id p), goodV x.need = true := fun x hx => h.need x (List.mem_filter.1 hx).1
  have hg2 : ∀ x ∈ (G.tasks.take j).filter (inE s.id p), goodV x.need = true := fun x hx => h.need x (List.mem_of_mem_take (List.mem_filter.1 hx).1)
  have k0 := needN_pos r hg2
  have k1 : needN r ((G.tasks.take j).filter (inE s.id p)) ≤ needN r (G.tasks.filter (inE s.id p)) := by
    have e := congrArg (fun L => needN r (L.filter (inE s.id p))) (List.take_append_drop j G.tasks)
    simp only [List.filter_append, needN_app] at e
    have hg3 : ∀ x ∈ (G.tasks.drop j).filter (inE s.id p), goodV x.need = true := fun x hx => h.need x (List.mem_of_mem_drop (List.mem_filter.1 hx).1)
    have := needN_pos r hg3
    omega
  omega
/-- The first k components taken off. -/
def mixV (v x : V4) (k : Nat) : V4 := ⟨if 0 < k then v.a - x.a else v.a, if 1 < k then v.b - x.b else v.b, if 2 < k then v.c - x.c else v.c, if 3 < k then v.d - x.d else v.d⟩
theorem mixV_zero (v x : V4) : mixV v x 0 = v := by simp [mixV]
theorem mixV_four (v x : V4) : mixV v x 4 = mv v x := by simp [mixV, mv]
/-- A block that is one vector. -/
def Vx (W : World) (g : Nat) (v : V4) : Prop := W.heap[g]? = some (.cells #[.int .i64 v.a, .int .i64 v.b, .int .i64 v.c, .int .i64 v.d] 34 (0, 0))
theorem Vx.at {W : World} {g k : Nat} {v : V4} (h : Vx W g v) (hk : k < 4) : W.cell? ⟨g, k, none⟩ = some (.int .i64 (comp k v)) := by
  rcases k with _ | _ | _ | _ | k
  · exact cell_of_heap h 0
  · exact cell_of_heap h 1
  · exact cell_of_heap h 2
  · exact cell_of_heap h 3
  · omega
theorem Vx.mix {W : World} {g k : Nat} {v x : V4} (h : Vx W g (mixV v x k)) (hk : k < 4) : comp k (mixV v x k) = comp k v ∧ Vx (W.setCell ⟨g, k, none⟩ (.int .i64 (comp k v - comp k x))) g (mixV v x (k + 1)) := by
  unfold Vx at h ⊢
  rcases k with _ | _ | _ | _ | k
  · exact ⟨rfl, by simp [World.setCell, Array.getElem?_modify, h, mixV, comp]⟩
  · exact ⟨rfl, by simp [World.setCell, Array.getElem?_modify, h, mixV, comp]⟩
  · exact ⟨rfl, by simp [World.setCell, Array.getElem?_modify, h, mixV, comp]⟩
  · exact ⟨rfl, by simp [World.setCell, Array.getElem?_modify, h, mixV, comp]⟩
  · omega
theorem Vx.set4 {w : World} {g : Nat} {y : V4} (h : Vx w g y) (x : V4) : Vx ((((w.setCell ⟨g, 0, none⟩ (.int .i64 x.a)).setCell ⟨g, 1, none⟩ (.int .i64 x.b)).setCell ⟨g, 2, none⟩ (.int .i64 x.c)).setCell ⟨g, 3, none⟩ (.int .i64 x.d)) g x := by
  unfold Vx at h ⊢; simp [World.setCell, Array.getElem?_modify, h]
set_option maxRecDepth 100000 in
set_option maxHeartbeats 3200000 in
/-- What is left of an envelope. -/
theorem rxleft_c {w : World} {u : Nat} {v1 v2 : Value} {G : AG} (h : RfA w u v1 v2 G) {id : Int} {s : SetA} (hs : setA G id = some s) (p : Int) (hn : G.tasks.length ≤ 100000) :
    Calls Tryd.prog 27 #[.pointer (some ⟨u, 0, none⟩), .int .i64 id, .int .i64 p] w fun e w' => e = .returned (.agg #[.int .i64 (leftA G s p).a, .int .i64 (leftA G s p).b, .int .i64 (leftA G s p).c, .int .i64 (leftA G s p).d]) ∧ Below w.heap.size w w' := by
  rcases posS_cases h.good id with ⟨_, e⟩ | ⟨i, s', hpi, hi, his, e⟩
  · rw [hs] at e; cases e
  obtain rfl := Option.some.inj (hs.symm.trans e)
  have hid := set_id h.good hs
  have hsm := set_mem h.good hs
  obtain ⟨N, hN⟩ : ∃ N, G.tasks.length = N := ⟨_, rfl⟩
  obtain ⟨M, hM⟩ : ∃ M, G.sets.length = M := ⟨_, rfl⟩
  rw [hN] at hn
  rw [hM] at hi
  have HNN := Lib.hid hN
  have HUP := Lib.hid (fun j => leftUp_good h.good hsm p j)
  have HND := Lib.hid h.good.need
  have HH := Lib.hid h
  have HP := Lib.hid hpi
  obtain ⟨X, hX⟩ : ∃ X, w.heap.size = X := ⟨_, rfl⟩
  obtain ⟨A, c, hv⟩ := h.s.form
  rw [hM] at hv
  subst hv
  obtain ⟨ad, gs, hA, ea, -, -, -, -⟩ := h.s.at his
  subst hA
  obtain ⟨A2, c2, hv2⟩ := h.t.form
  rw [hN] at hv2
  subst hv2
  have HSC : Hid (∀ W, Below w.heap.size w W → W.cell? ⟨u, 0, none⟩ = some (.slice (some ad) M c) ∧ W.cell? ⟨gs, i * 14 + 2, none⟩ = some (.int .i64 s.has.a) ∧ W.cell? ⟨gs, i * 14 + 3, none⟩ = some (.int .i64 s.has.b) ∧ W.cell? ⟨gs, i * 14 + 4, none⟩ = some (.int .i64 s.has.c) ∧ W.cell? ⟨gs, i * 14 + 5, none⟩ = some (.int .i64 s.has.d)) := Lib.hid fun W hb => by
    obtain ⟨k0, _, k1⟩ := (h.on hb).sCell his ea
    exact ⟨k0, k1 2 _ rfl, k1 3 _ rfl, k1 4 _ rfl, k1 5 _ rfl⟩
  have HFI : Hid (∀ W, Below w.heap.size w W → Calls Tryd.prog 25 #[.pointer (some ⟨u, 0, none⟩), .int .i64 id] W fun e w' => e = .returned (.int .i64 (i : Int)) ∧ W = w') := Lib.hid fun W hb => by
    have := rxfind_c (h.on hb) id
    rw [hpi] at this
    exact this
  have i0 : (0 : Int) ≤ (i : Int) := by omega
  have i1 : (i : Int) < (M : Int) := by omega
  have HID := Lib.hid hid
  clear hpi his hM hi hs hsm h hN e hid
  go_enter Tryd.func27, Tryd.ntmps27
  go_upto_region 1 with fail
  obtain ⟨W1, hW1⟩ : ∃ W1, w.alloc (.cells #[.int .i64 0, .int .i64 0, .int .i64 0, .int .i64 0] 34) = W1 := ⟨_, rfl⟩
  have HB1 : Hid (Below w.heap.size w W1) := Lib.hid (by rw [← hW1]; exact (Below.refl _ _).alloc (Nat.le_refl _) _)
  have HZ1 : Hid (Vx W1 X ⟨0, 0, 0, 0⟩) := Lib.hid (by rw [← hW1, ← hX]; exact heap_alloc_new _ _)
  obtain ⟨Y, hY⟩ : ∃ Y, W1.heap.size = Y := ⟨_, rfl⟩
  have HXY : Hid (w.heap.size = X ∧ W1.heap.size = Y) := Lib.hid ⟨hX, hY⟩
  rw [hW1]
  clear hW1 hX hY
  have S0 := Lib.hid (HSC.out W1 HB1.out)
  have hb1 := HB1.out
  go_region_held3 (fun W => W.cell? ⟨u, 0, none⟩ = some (.slice (some ad) M c) ∧ W.cell? ⟨gs, i * 14 + 2, none⟩ = some (.int .i64 s.has.a) ∧ W.cell? ⟨gs, i * 14 + 3, none⟩ = some (.int .i64 s.has.b) ∧ W.cell? ⟨gs, i * 14 + 4, none⟩ = some (.int .i64 s.has.c) ∧ W.cell? ⟨gs, i * 14 + 5, none⟩ = some (.int .i64 s.has.d))
    (first | exact S0.out | exact HSC.out _ (by (repeat' (first | (with_reducible exact Below.refl _ _) | (with_reducible refine below_drewN ?_ _) | (with_reducible refine Below.drew ?_) | (with_reducible refine Below.alloc ?_ ?_ _) | (with_reducible refine Below.setCell ?_ ?_ _) | (with_reducible refine Below.trans ?_ (Below.mono (by with_reducible assumption) ?_)) | omega | (simp only [World.size_alloc, World.size_setCell, World.size_drew, Go.Proofs.YtbdnfppbiplpmaaDoor.World.size_drewN] at *; omega) | (with_reducible refine Below.size (B := 0) ?_)))))
    (first
      | (go_at_call 25; refine (HFI.out _ (by (repeat' (first | (with_reducible exact Below.refl _ _) | (with_reducible refine below_drewN ?_ _) | (with_reducible refine Below.drew ?_) | (with_reducible refine Below.alloc ?_ ?_ _) | (with_reducible refine Below.setCell ?_ ?_ _) | (with_reducible refine Below.trans ?_ (Below.mono (by with_reducible assumption) ?_)) | omega | (simp only [World.size_alloc, World.size_setCell, World.size_drew, Go.Proofs.YtbdnfppbiplpmaaDoor.World.size_drewN] at *; omega) | (with_reducible refine Below.size (B := 0) ?_))))).mono ?_; rintro e w2 ⟨rfl, rfl⟩))
  all_goals (
    obtain ⟨W2, hW2⟩ : ∃ W2, (W1.alloc (.cells #[.int .i64 s.has.a, .int .i64 s.has.b, .int .i64 s.has.c, .int .i64 s.has.d] 34)).drew = W2 := ⟨_, rfl⟩
    have HB2 : Hid (Below w.heap.size w W2) := Lib.hid (by rw [← hW2]; exact (HB1.out.alloc HB1.out.size _).drew)
    have HV2 : Hid (Vx W2 Y (leftUp G s p 0)) := Lib.hid (by rw [leftUp_zero, ← hW2, ← HXY.out.2]; exact heap_alloc_new W1 _)
    have HX2 : Hid (Vx W2 X ⟨0, 0, 0, 0⟩) := Lib.hid (by rw [← hW2]; exact (Below.heap_alloc W1 _ X (lt_of_row HZ1.out)).trans HZ1.out)
    have HNE : Hid (X ≠ Y) := Lib.hid (by have := lt_of_row HZ1.out; have := HXY.out.2; omega)
    have HYB : Hid (w.heap.size ≤ Y) := Lib.hid (by have := HB1.out.size; have := HXY.out.2; omega)
    rw [hW2, HXY.out.2]
    clear hW2 hb1 S0 HB1 HZ1 HFI HSC ea i0 i1
    go_wp2_with fail
    go_loopw [8] (fun J wr => ∃ j : Nat, j ≤ N ∧ J = .int .i64 (j : Int) ∧ Below w.heap.size w wr ∧ Vx wr Y (leftUp G s p j) ∧ Vx wr X ⟨0, 0, 0, 0⟩) (fun J _ => N - natOf J)
    case atStart => exact ⟨0, Nat.zero_le _, rfl, HB2.out, HV2.out, HX2.out⟩
    case round =>
      obtain ⟨j, hj, rfl, hb, hvy, hvx⟩ := hrel
      clear HB2 HV2 HX2
      have HB := Lib.hid hb
      have HVY := Lib.hid hvy
      have HVX := Lib.hid hvx
      have c10 : wr.cell? ⟨u, 1, none⟩ = some (.slice A2 N c2) := cell_of_heap (HH.out.on hb).box 1
      clear hb hvy hvx
      have j0 : (0 : Int) ≤ (j : Int) := by omega
      by_cases hlt : j < N
      · obtain ⟨x, hx⟩ : ∃ x, G.tasks[j]? = some x := ⟨_, List.getElem?_eq_getElem (by have := HNN.out; omega)⟩
        have j1 : (j : Int) < (N : Int) := by omega
        have hw1 : wrap64 ((j : Int) + 1) = ((j + 1 : Nat) : Int) := by unfold wrap64; omega
        obtain ⟨ad2, g2, hA, ea2, -, -, -, -⟩ := (HH.out.on HB.out).t.at hx
        subst hA
        have HTC : Hid (∀ W, Below w.heap.size w W → W.cell? ⟨u, 1, none⟩ = some (.slice (some ad2) N c2) ∧ ∀ r y, (encIn.enc x)[r]? = some y → W.cell? ⟨g2, j * 8 + r, none⟩ = some y) := Lib.hid fun W hb => by
          obtain ⟨k0, _, k1⟩ := (HH.out.on hb).tCell hx ea2
          exact ⟨k0, k1⟩
        have x2 : wr.cell? ⟨g2, j * 8 + 2, none⟩ = some (.int .i64 x.set) := (HTC.out wr HB.out).2 2 _ rfl
        have x3 : wr.cell? ⟨g2, j * 8 + 3, none⟩ = some (.int .i64 x.pos) := (HTC.out wr HB.out).2 3 _ rfl
        have HX := Lib.hid hx
        have HJ := Lib.hid hlt
        have hxg := HND.out x (List.mem_of_getElem? hx)
        have hst := leftUp_succ s p hx
        have hu0 := HUP.out j
        have hu1 := HUP.out (j + 1)
        rw [hst] at hu1
        clear hx hlt
        by_cases e1 : x.set = id
        · have f1 : (x.set == id) = true := by simpa using e1
          by_cases e2 : x.pos = p
          · have f2 : (x.pos == p) = true := by simpa using e2
            have hin : inE s.id p x = true := by unfold inE; rw [HID.out, e1, e2]; simp
            rw [if_pos hin] at hst hu1
            obtain ⟨v, hv⟩ : ∃ v, leftUp G s p j = v := ⟨_, rfl⟩
            rw [hv] at hst hu0 hu1
            have HSTP := Lib.hid hst
            have HVV := Lib.hid hv
            have HG0 := Lib.hid (good_comp.1 hu0)
            have HG1 := Lib.hid (good_comp.1 hu1)
            have HGX := Lib.hid (good_comp.1 hxg)
            clear hst hv hu0 hu1 hxg hin e1 e2
            go_upto_block 2 with fail
            clear x2 x3 f1 f2 c10
            go_wp2_with fail
            go_loopw [9] (fun K wr => ∃ k : Nat, k ≤ 4 ∧ K = .int .i64 (k : Int) ∧ Below w.heap.size w wr ∧ Vx wr Y (mixV v x.need k) ∧ Vx wr X ⟨0, 0, 0, 0⟩) (fun K _ => 4 - natOf K)
            case atStart => exact ⟨0, by omega, rfl, HB.out, by rw [mixV_zero, ← HVV.out]; exact HVY.out, HVX.out⟩
            case round =>
              obtain ⟨k, hk, rfl, hb, hvy, hvx⟩ := hrel
              clear HB HVY HVX
              have HB := Lib.hid hb
              have HVY := Lib.hid hvy
              have HVX := Lib.hid hvx
              clear hb hvy hvx
              by_cases hk4 : k < 4
              · have k0 : (0 : Int) ≤ (k : Int) := by omega
                have k4 : (k : Int) < 4 := by omega
                have hwk : wrap64 ((k : Int) + 1) = ((k + 1 : Nat) : Int) := by unfold wrap64; omega
                obtain ⟨hmx, hmy⟩ := HVY.out.mix hk4
                have hg0 := HG0.out k
                have hg2 := HGX.out k
                obtain ⟨a, ha⟩ : ∃ a, comp k v = a := ⟨_, rfl⟩
                obtain ⟨n, hn'⟩ : ∃ n, comp k x.need = n := ⟨_, rfl⟩
                rw [ha] at hg0
                rw [hn'] at hg2
                have e1 : IntKind.i64.wrap (a - n) = a - n := IntWalk.i64_in _ (by omega)
                have hadY : (⟨Y, 0, none⟩ : Addr).add k = ⟨Y, k, none⟩ := by rw [Addr.add_lit, Nat.zero_add]
                have hadN : (⟨g2, j * 8 + 4, none⟩ : Addr).add k = ⟨g2, j * 8 + 4 + k, none⟩ := Addr.add_lit ..
                have hS0 : Below w.heap.size w wr.drew ∧ wr.drew.cell? ⟨u, 1, none⟩ = some (.slice (some ad2) N c2) ∧ wr.drew.cell? ⟨g2, j * 8 + 4 + k, none⟩ = some (.int .i64 n) ∧ wr.drew.cell? ⟨Y, k, none⟩ = some (.int .i64 a) ∧ wr.drew.frozen? ⟨Y, k, none⟩ = false := by
                  obtain ⟨q0, q1⟩ := HTC.out wr.drew HB.out.drew
                  refine ⟨HB.out.drew, q0, ?_, ?_, frozen_of_heap HVY.out k⟩
                  · rw [← hn']
                    rcases k with _ | _ | _ | _ | k
                    · exact q1 4 _ rfl
                    · exact q1 5 _ rfl
                    · exact q1 6 _ rfl
                    · exact q1 7 _ rfl
                    · omega
                  · have := HVY.out.at hk4
                    rw [hmx, ha] at this
                    exact this
                have HS0 := Lib.hid hS0
                rw [ha, hn'] at hmy
                have HMY := Lib.hid hmy
                have HK4 := Lib.hid hk4
                clear hS0 hmx hmy hg0 hg2 ha hn' hk4
                go_upto_region 9 with fail
                refine wp_region_last (z := 16) (S := fun W => Below w.heap.size w W ∧ W.cell? ⟨u, 1, none⟩ = some (.slice (some ad2) N c2) ∧ W.cell? ⟨g2, j * 8 + 4 + k, none⟩ = some (.int .i64 n) ∧ W.cell? ⟨Y, k, none⟩ = some (.int .i64 a) ∧ W.frozen? ⟨Y, k, none⟩ = false) (by kernel_rfl) ?_ (fun hHeld => ?_)
                · exact HS0.out
                refine rgl_take 0 (some 55) _ (by kernel_rfl) (by kernel_rfl) (by kernel_rfl) (by kernel_rfl) (fun _ _ _ h => h) (by kernel_rfl) (by kernel_rfl) (by intro w' hSw op_ ho; obtain ⟨sb, s0, s1, s2, s3⟩ := hSw; simp only [List.getElem?_toArray, List.getElem?_cons_zero, Option.some.injEq] at ho; subst ho; go_simp; with_reducible rfl) (by assumption) ?_
                try simp only [Act.put, List.setIfInBounds_toArray, List.set_cons_zero, List.set_cons_succ]
                refine rgl_take 1 (some 56) _ (by kernel_rfl) (by kernel_rfl) (by kernel_rfl) (by kernel_rfl) (fun _ _ _ h => h) (by kernel_rfl) (by kernel_rfl) (by intro w' hSw op_ ho; obtain ⟨sb, s0, s1, s2, s3⟩ := hSw; simp only [List.getElem?_toArray, List.getElem?_cons_succ, List.getElem?_cons_zero, Option.some.injEq] at ho; subst ho; go_simp; with_reducible rfl) (by assumption) ?_
                try simp only [Act.put, List.setIfInBounds_toArray, List.set_cons_zero, List.set_cons_succ]
                refine rgl_take 2 (some 57) _ (by kernel_rfl) (by kernel_rfl) (by kernel_rfl) (by kernel_rfl) (fun _ _ _ h => h) (by kernel_rfl) (by kernel_rfl) (by intro w' hSw op_ ho; obtain ⟨sb, s0, s1, s2, s3⟩ := hSw; simp only [List.getElem?_toArray, List.getElem?_cons_succ, List.getElem?_cons_zero, Option.some.injEq] at ho; subst ho; go_simp; with_reducible rfl) (by assumption) ?_
                try simp only [Act.put, List.setIfInBounds_toArray, List.set_cons_zero, List.set_cons_succ]
                refine rgl_take 3 (some 58) _ (by kernel_rfl) (by kernel_rfl) (by kernel_rfl) (by kernel_rfl) (fun _ _ _ h => h) (by kernel_rfl) (by kernel_rfl) (by intro w' hSw op_ ho; obtain ⟨sb, s0, s1, s2, s3⟩ := hSw; simp only [List.getElem?_toArray, List.getElem?_cons_succ, List.getElem?_cons_zero, Option.some.injEq] at ho; subst ho; go_simp; with_reducible rfl) (by assumption) ?_
                try simp only [Act.put, List.setIfInBounds_toArray, List.set_cons_zero, List.set_cons_succ]
                refine rgl_take 4 (some 59) _ (by kernel_rfl) (by kernel_rfl) (by kernel_rfl) (by kernel_rfl) (fun _ _ _ h => h) (by kernel_rfl) (by kernel_rfl) (by intro w' hSw op_ ho; obtain ⟨sb, s0, s1, s2, s3⟩ := hSw; simp only [List.getElem?_toArray, List.getElem?_cons_succ, List.getElem?_cons_zero, Option.some.injEq] at ho; subst ho; go_simp; with_reducible rfl) (by assumption) ?_
                try simp only [Act.put, List.setIfInBounds_toArray, List.set_cons_zero, List.set_cons_succ]
                refine rgl_take 5 (some 60) _ (by kernel_rfl) (by kernel_rfl) (by kernel_rfl) (by kernel_rfl) (fun _ _ _ h => h) (by kernel_rfl) (by kernel_rfl) (by intro w' hSw op_ ho; obtain ⟨sb, s0, s1, s2, s3⟩ := hSw; simp only [List.getElem?_toArray, List.getElem?_cons_succ, List.getElem?_cons_zero, Option.some.injEq] at ho; subst ho; go_simp; with_reducible rfl) (by assumption) ?_
                try simp only [Act.put, List.setIfInBounds_toArray, List.set_cons_zero, List.set_cons_succ]
                refine rgl_take 6 (some 61) _ (by kernel_rfl) (by kernel_rfl) (by kernel_rfl) (by kernel_rfl) (fun _ _ _ h => h) (by kernel_rfl) (by kernel_rfl) (by intro w' hSw op_ ho; obtain ⟨sb, s0, s1, s2, s3⟩ := hSw; simp only [List.getElem?_toArray, List.getElem?_cons_succ, List.getElem?_cons_zero, Option.some.injEq] at ho; subst ho; go_simp; with_reducible rfl) (by assumption) ?_
                try simp only [Act.put, List.setIfInBounds_toArray, List.set_cons_zero, List.set_cons_succ]
                refine rgl_take 7 (some 62) _ (by kernel_rfl) (by kernel_rfl) (by kernel_rfl) (by kernel_rfl) (fun _ _ _ h => h) (by kernel_rfl) (by kernel_rfl) (by intro w' hSw op_ ho; obtain ⟨sb, s0, s1, s2, s3⟩ := hSw; simp only [List.getElem?_toArray, List.getElem?_cons_succ, List.getElem?_cons_zero, Option.some.injEq] at ho; subst ho; go_simp; with_reducible rfl) (by assumption) ?_
                try simp only [Act.put, List.setIfInBounds_toArray, List.set_cons_zero, List.set_cons_succ]
                refine rgl_take 8 (some 63) _ (by kernel_rfl) (by kernel_rfl) (by kernel_rfl) (by kernel_rfl) (fun _ _ _ h => h) (by kernel_rfl) (by kernel_rfl) (by intro w' hSw op_ ho; obtain ⟨sb, s0, s1, s2, s3⟩ := hSw; simp only [List.getElem?_toArray, List.getElem?_cons_succ, List.getElem?_cons_zero, Option.some.injEq] at ho; subst ho; go_simp; with_reducible rfl) (by assumption) ?_
                try simp only [Act.put, List.setIfInBounds_toArray, List.set_cons_zero, List.set_cons_succ]
                refine rgl_take 9 (some 64) _ (by kernel_rfl) (by kernel_rfl) (by kernel_rfl) (by kernel_rfl) (fun _ _ _ h => h) (by kernel_rfl) (by kernel_rfl) (by intro w' hSw op_ ho; obtain ⟨sb, s0, s1, s2, s3⟩ := hSw; simp only [List.getElem?_toArray, List.getElem?_cons_succ, List.getElem?_cons_zero, Option.some.injEq] at ho; subst ho; go_simp; with_reducible rfl) (by assumption) ?_
                try simp only [Act.put, List.setIfInBounds_toArray, List.set_cons_zero, List.set_cons_succ]
                refine rgl_take 10 (some 65) _ (by kernel_rfl) (by kernel_rfl) (by kernel_rfl) (by kernel_rfl) (fun _ _ _ h => h) (by kernel_rfl) (by kernel_rfl) (by intro w' hSw op_ ho; obtain ⟨sb, s0, s1, s2, s3⟩ := hSw; simp only [List.getElem?_toArray, List.getElem?_cons_succ, List.getElem?_cons_zero, Option.some.injEq] at ho; subst ho; go_simp; with_reducible rfl) (by assumption) ?_
                try simp only [Act.put, List.setIfInBounds_toArray, List.set_cons_zero, List.set_cons_succ]
                refine rgl_take 11 (some 66) _ (by kernel_rfl) (by kernel_rfl) (by kernel_rfl) (by kernel_rfl) (fun _ _ _ h => h) (by kernel_rfl) (by kernel_rfl) (by intro w' hSw op_ ho; obtain ⟨sb, s0, s1, s2, s3⟩ := hSw; simp only [List.getElem?_toArray, List.getElem?_cons_succ, List.getElem?_cons_zero, Option.some.injEq] at ho; subst ho; go_simp; with_reducible rfl) (by assumption) ?_
                try simp only [Act.put, List.setIfInBounds_toArray, List.set_cons_zero, List.set_cons_succ]
                refine rgl_take 12 (some 67) _ (by kernel_rfl) (by kernel_rfl) (by kernel_rfl) (by kernel_rfl) (fun _ _ _ h => h) (by kernel_rfl) (by kernel_rfl) (by intro w' hSw op_ ho; obtain ⟨sb, s0, s1, s2, s3⟩ := hSw; simp only [List.getElem?_toArray, List.getElem?_cons_succ, List.getElem?_cons_zero, Option.some.injEq] at ho; subst ho; go_simp; with_reducible rfl) (by assumption) ?_
                try simp only [Act.put, List.setIfInBounds_toArray, List.set_cons_zero, List.set_cons_succ]
                refine rgl_take 13 (some 68) _ (by kernel_rfl) (by kernel_rfl) (by kernel_rfl) (by kernel_rfl) (fun _ _ _ h => h) (by kernel_rfl) (by kernel_rfl) (by intro w' hSw op_ ho; obtain ⟨sb, s0, s1, s2, s3⟩ := hSw; simp only [List.getElem?_toArray, List.getElem?_cons_succ, List.getElem?_cons_zero, Option.some.injEq] at ho; subst ho; go_simp; with_reducible rfl) (by assumption) ?_
                try simp only [Act.put, List.setIfInBounds_toArray, List.set_cons_zero, List.set_cons_succ]
                refine rgl_take 14 (some 69) _ (by kernel_rfl) (by kernel_rfl) (by kernel_rfl) (by kernel_rfl) (fun _ _ _ h => h) (by kernel_rfl) (by kernel_rfl) (by intro w' hSw op_ ho; obtain ⟨sb, s0, s1, s2, s3⟩ := hSw; simp only [List.getElem?_toArray, List.getElem?_cons_succ, List.getElem?_cons_zero, Option.some.injEq] at ho; subst ho; go_simp; with_reducible rfl) (by assumption) ?_
                try simp only [Act.put, List.setIfInBounds_toArray, List.set_cons_zero, List.set_cons_succ]
                refine rgl_take 15 (some 70) _ (by kernel_rfl) (by kernel_rfl) (by kernel_rfl) (by kernel_rfl) (fun _ _ _ h => h) (by kernel_rfl) (by kernel_rfl) (by intro w' hSw op_ ho; obtain ⟨sb, s0, s1, s2, s3⟩ := hSw; simp only [List.getElem?_toArray, List.getElem?_cons_succ, List.getElem?_cons_zero, Option.some.injEq] at ho; subst ho; go_simp; with_reducible rfl) (by assumption) ?_
                try simp only [Act.put, List.setIfInBounds_toArray, List.set_cons_zero, List.set_cons_succ]
                refine rgl_last (by kernel_rfl) (by kernel_rfl) (by kernel_rfl) (fun op_ ho K hK => ?_)
                simp only [List.getElem?_toArray, List.getElem?_cons_succ, List.getElem?_cons_zero, Option.some.injEq] at ho
                subst ho
                obtain ⟨sb, s0, s1, s2, s3⟩ := hHeld
                go_simp
                clear sb s0 s1 s2 s3
                refine hK.out _ _ ?_
                clear hK
                try simp only [Act.put, List.setIfInBounds_toArray, List.set_cons_zero, List.set_cons_succ]
                have HBD : Hid (Below w.heap.size w (wr.setCell ⟨Y, k, none⟩ (.int .i64 (a - n))).drew) := Lib.hid (HB.out.setCell HYB.out _).drew
                have HVD : Hid (Vx (wr.setCell ⟨Y, k, none⟩ (.int .i64 (a - n))).drew Y (mixV v x.need (k + 1))) := Lib.hid HMY.out
                have HXD : Hid (Vx (wr.setCell ⟨Y, k, none⟩ (.int .i64 (a - n))).drew X ⟨0, 0, 0, 0⟩) := Lib.hid ((heap_setCell_other wr ⟨Y, k, none⟩ X _ HNE.out).trans HVX.out)
                obtain ⟨W5, hW5⟩ : ∃ W5, (wr.setCell ⟨Y, k, none⟩ (.int .i64 (a - n))).drew = W5 := ⟨_, rfl⟩
                rw [hW5] at HBD HVD HXD ⊢
                clear hW5 HMY HS0 e1 hadY hadN
                go_wp2_with fail
                go_roundw
                case rel => exact ⟨k + 1, HK4.out, by rw [← hwk]; first | rfl | (congr 1; omega), HBD.out, HVD.out, HXD.out⟩
                case measure => simp [natOf]; omega
              · obtain rfl : k = 4 := by omega
                have HVY2 : Hid (Vx wr Y (leftUp G s p (j + 1))) := Lib.hid (by rw [HSTP.out, ← mixV_four]; exact HVY.out)
                go_wp2_with fail
                go_roundw
                case rel => exact ⟨j + 1, HJ.out, by rw [← hw1]; first | rfl | (congr 1; omega), HB.out, HVY2.out, HVX.out⟩
                case measure => simp [natOf]; omega
          · have f2 : (x.pos == p) = false := by simpa using e2
            have hin : ¬ inE s.id p x = true := by unfold inE; simp [e2]
            rw [if_neg hin] at hst
            have HSTP := Lib.hid hst
            clear hst hu0 hu1 hxg hin e1 e2
            go_wp2_with fail
            go_roundw
            case rel => exact ⟨j + 1, HJ.out, by rw [← hw1]; first | rfl | (congr 1; omega), HB.out, by rw [HSTP.out]; exact HVY.out, HVX.out⟩
            case measure => simp [natOf]; omega
        · have f1 : (x.set == id) = false := by simpa using e1
          have hin : ¬ inE s.id p x = true := by unfold inE; rw [HID.out]; simp [e1]
          rw [if_neg hin] at hst
          have HSTP := Lib.hid hst
          clear hst hu0 hu1 hxg hin e1
          go_wp2_with fail
          go_roundw
          case rel => exact ⟨j + 1, HJ.out, by rw [← hw1]; first | rfl | (congr 1; omega), HB.out, by rw [HSTP.out]; exact HVY.out, HVX.out⟩
          case measure => simp [natOf]; omega
      · obtain rfl : j = N := by omega
        have hv : leftUp G s p j = leftA G s p := leftUp_all s p (Nat.le_of_eq HNN.out)
        have hvy := HVY.out
        rw [hv] at hvy
        obtain ⟨l, hl⟩ : ∃ l, leftA G s p = l := ⟨_, rfl⟩
        rw [hl] at hvy
        have HL := Lib.hid hl
        have y0 : wr.cell? ⟨Y, 0, none⟩ = some (.int .i64 l.a) := cell_of_heap hvy 0
        have y1 : wr.cell? ⟨Y, 1, none⟩ = some (.int .i64 l.b) := cell_of_heap hvy 1
        have y2 : wr.cell? ⟨Y, 2, none⟩ = some (.int .i64 l.c) := cell_of_heap hvy 2
        have y3 : wr.cell? ⟨Y, 3, none⟩ = some (.int .i64 l.d) := cell_of_heap hvy 3
        have z0 := cell_of_heap HVX.out 0
        have z1 := cell_of_heap HVX.out 1
        have z2 := cell_of_heap HVX.out 2
        have z3 := cell_of_heap HVX.out 3
        have zf := frozen_of_heap HVX.out
        clear hv hl hvy
        go_wp2_with fail
        obtain ⟨W9, hW9⟩ : ∃ W9, ((((wr.setCell ⟨X, 0, none⟩ (.int .i64 l.a)).setCell ⟨X, 1, none⟩ (.int .i64 l.b)).setCell ⟨X, 2, none⟩ (.int .i64 l.c)).setCell ⟨X, 3, none⟩ (.int .i64 l.d)) = W9 := ⟨_, rfl⟩
        have hx9 : Vx W9 X l := by rw [← hW9]; exact HVX.out.set4 l
        have hb9 : Below w.heap.size w W9 := by
          have hXb : w.heap.size ≤ X := Nat.le_of_eq HXY.out.1
          rw [← hW9]; exact (((HB.out.setCell hXb _).setCell hXb _).setCell hXb _).setCell hXb _
        have r0 : W9.cell? ⟨X, 0, none⟩ = some (.int .i64 l.a) := cell_of_heap hx9 0
        have r1 : W9.cell? ⟨X, 1, none⟩ = some (.int .i64 l.b) := cell_of_heap hx9 1
        have r2 : W9.cell? ⟨X, 2, none⟩ = some (.int .i64 l.c) := cell_of_heap hx9 2
        have r3 : W9.cell? ⟨X, 3, none⟩ = some (.int .i64 l.d) := cell_of_heap hx9 3
        rw [hW9]
        have HB9 := Lib.hid hb9
        clear hW9 hx9 hb9 y0 y1 y2 y3 z0 z1 z2 z3 zf
        refine bodyPost_ret (v := .agg #[.int .i64 l.a, .int .i64 l.b, .int .i64 l.c, .int .i64 l.d]) (by simp [results, Tryd.results27, go_sem, r0, r1, r2, r3]) rfl ?_
        exact ⟨by rw [HL.out], HB9.out⟩)
end Go.Proofs.YtbdnfppbiplpmaaDoor

/- The reference's book of envelopes: a task goes. Condition: the book lies in memory as its rows have it. -/
namespace Go.Proofs.YtbdnfppbiplpmaaDoor
open Go Go.RowKit

theorem Tryd.infoIn17 : (Tryd.prog.info? 58).map (fun i => (i.zero, i.size, i.bytes)) = some (some (.agg #[.int .i64 0, .int .i64 0, .int .i64 0, .int .i64 0, .int .i64 0, .int .i64 0, .int .i64 0, .int .i64 0]), 8, 64) := by kernel_rfl
theorem Tryd.sizeIn17 (W : World) : (sizeOf 58).run Tryd.prog W = .ok 8 W := by kernel_rfl
set_option maxRecDepth 100000 in
set_option maxHeartbeats 1600000 in
/-- Take: the task is in none. -/
theorem rxtake_no {w : World} {u : Nat} {v1 v2 : Value} {G : AG} (h : RfA w u v1 v2 G) {t : Tk} (ht : tkA G t = none) (hn : G.tasks.length ≤ 100000) :
    Calls Tryd.prog 19 #[.pointer (some ⟨u, 0, none⟩), .agg #[.int .i64 t.job, .int .i64 t.ix]] w fun e w' => e = .returned (.int .i64 5) ∧ Below w.heap.size w w' := by
  have hp : posT G t = -1 := by
    rcases posT_cases h.good t with ⟨hp, _⟩ | ⟨i, y, _, _, _, e⟩
    · exact hp
    · rw [ht] at e; cases e
  have hb1 : Below w.heap.size w (w.alloc (.cells #[.int .i64 t.job, .int .i64 t.ix] 32)) := (Below.refl _ _).alloc (Nat.le_refl _) _
  have hw := rxwhere_c (h.on hb1) t hn
  rw [hp] at hw
  have HW := Lib.hid hw
  have HB1 := Lib.hid hb1
  have x0 := cell_of_heap (heap_alloc_new w (.cells #[.int .i64 t.job, .int .i64 t.ix] 32 (0, 0))) 0
  have x1 := cell_of_heap (heap_alloc_new w (.cells #[.int .i64 t.job, .int .i64 t.ix] 32 (0, 0))) 1
  clear h hp hw hb1
  go_enter Tryd.func19, Tryd.ntmps19
  go_wp2_with fail
  refine HW.out.mono ?_
  rintro e w2 ⟨rfl, b2⟩
  have HB2 := Lib.hid (HB1.out.trans (b2.mono HB1.out.size))
  clear b2 x0 x1 HW HB1
  go_wp2_with fail
  go_ret
  exact ⟨rfl, HB2.out⟩
set_option maxRecDepth 100000 in
set_option maxHeartbeats 3200000 in
/-- Take: the task is inside one. -/
theorem rxtake_ok {w : World} {u : Nat} {v1 v2 : Value} {G : AG} (h : RfA w u v1 v2 G) {t : Tk} {x : InA} (hx : tkA G t = some x) (hn : G.tasks.length ≤ 100000) :
    Calls Tryd.prog 19 #[.pointer (some ⟨u, 0, none⟩), .agg #[.int .i64 t.job, .int .i64 t.ix]] w fun e w' => e = .returned (.int .i64 0) ∧ ∃ v2', RfA w' u v1 v2' (takeG G t) ∧ (∀ k, v2'.ownBlock = some k → w.heap.size ≤ k) ∧ ChP (fun k => k = u) w w' := by
  rcases posT_cases h.good t with ⟨_, e⟩ | ⟨i, y, hpi, hi, his, e⟩
  · rw [hx] at e; cases e
  obtain rfl : x = y := by rw [hx] at e; exact Option.some.inj e
  have hcut : G.tasks.take i ++ G.tasks.drop (i + 1) = (takeG G t).tasks := by
    rw [cut_filter InA.tk h.good.tks his, ((tk_iff h.good).1 hx).2]; rfl
  have hgood : GA (takeG G t) := h.good.less _
  have hb1 : Below w.heap.size w (w.alloc (.cells #[.int .i64 t.job, .int .i64 t.ix] 32)) := (Below.refl _ _).alloc (Nat.le_refl _) _
  have h1 := h.on hb1
  have hw := rxwhere_c h1 t hn
  rw [hpi] at hw
  have HW := Lib.hid hw
  have x0 := cell_of_heap (heap_alloc_new w (.cells #[.int .i64 t.job, .int .i64 t.ix] 32 (0, 0))) 0
  have x1 := cell_of_heap (heap_alloc_new w (.cells #[.int .i64 t.job, .int .i64 t.ix] 32 (0, 0))) 1
  have hu := lt_of_row h.box
  have HOLD := Lib.hid h.old
  have HH1 := Lib.hid h1
  have HB1 := Lib.hid hb1
  obtain ⟨N, hN⟩ : ∃ N, G.tasks.length = N := ⟨_, rfl⟩
  rw [hN] at hn hi
  have HNN := Lib.hid hN
  have HCUT := Lib.hid hcut
  have HGD := Lib.hid hgood
  clear h h1 hw hb1 hpi his e hN hcut hgood hx
  go_enter Tryd.func19, Tryd.ntmps19
  go_wp2_with fail
  refine HW.out.mono ?_
  rintro e w2 ⟨rfl, b2⟩
  have H2 := Lib.hid (HH1.out.on b2)
  have hB2 : Below w.heap.size w w2 := HB1.out.trans (b2.mono HB1.out.size)
  clear b2 x0 x1 HW HH1 HB1
  obtain ⟨A, c, hv⟩ := H2.out.t.form
  rw [HNN.out] at hv
  subst hv
  have c1 : w2.cell? ⟨u, 1, none⟩ = some (.slice A N c) := cell_of_heap H2.out.box 1
  obtain ⟨X1, hX1, lX1⟩ := H2.out.t.lies.upto Tryd.underlying28 Tryd.sizeIn17 .i64 (i : Int) i rfl (by have := HNN.out; omega)
  obtain ⟨X2, hX2, lX2⟩ := H2.out.t.lies.from Tryd.underlying28 Tryd.sizeIn17 .i64 ((i : Int) + 1) (i + 1) (by omega) (by have := HNN.out; omega)
  have hi0 : (0 : Int) ≤ (i : Int) := by omega
  have hi1 : (i : Int) < (N : Int) := by omega
  have hwr : IntKind.i64.wrap ((i : Int) + 1) = (i : Int) + 1 := IntWalk.i64_in _ (by omega)
  have hu2 : u < w2.heap.size := Nat.lt_of_lt_of_le hu hB2.size
  have hlt : (G.tasks.take i).length = i := by rw [List.length_take]; have := HNN.out; omega
  have hld : (G.tasks.drop (i + 1)).length ≤ N := by rw [List.length_drop]; have := HNN.out; omega
  obtain ⟨i0, hi', hz0, hz1, hz2⟩ := info_parts Tryd.infoIn17
  have hb3 : Below w2.heap.size w2 (w2.alloc (.cells #[] 58)) := (Below.refl _ _).alloc (Nat.le_refl _) _
  have A1 : Hid (OwnE encIn 58 (w2.alloc (.cells #[] 58)) w.heap.size (.slice (some ⟨w2.heap.size, 0, none⟩) 0 0) []) := Lib.hid (OwnE.none w2 hB2.size)
  have A2 : Hid (LiesE encIn (w2.alloc (.cells #[] 58)) X1 (G.tasks.take i)) := Lib.hid (lX1.onB hb3)
  have A3 : Hid (([] : List InA).length + (G.tasks.take i).length ≤ maxLen) := Lib.hid (by rw [hlt]; simp only [List.length_nil, maxLen]; omega)
  have A4 : Hid ((([] : List InA).length + (G.tasks.take i).length) * 64 ≤ 140737488355328) := Lib.hid (by rw [hlt]; simp only [List.length_nil]; omega)
  have A5 : Hid (w.heap.size ≤ (w2.alloc (.cells #[] 58)).heap.size) := Lib.hid (Nat.le_trans hB2.size hb3.size)
  have HL2 := Lib.hid lX2
  have HB2 := Lib.hid hB2
  have HB3 := Lib.hid hb3
  have HLT := Lib.hid hlt
  have HLD := Lib.hid hld
  have HO2 := Lib.hid H2.out.old
  clear lX1 lX2 hB2 hb3 hlt hld hu
  go_wp2_with (first
    | (at_builtin
       refine wpList_append_E (E := encIn) rfl _ _ 28 rfl i0 _ 64 Tryd.underlying28 hi' hz0 hz1 hz2 rfl (by decide) rfl A1.out rfl A2.out A3.out A4.out A5.out ?_
       intro v4 w4 own4 gr4 lo4
       clear hX1 A1 A2 A3 A4 A5 c1
       have hB4 : Below w2.heap.size w2 w4 := HB3.out.grown gr4 (by have := HB3.out.size; omega) (fun k hk => by have e : some w2.heap.size = some k := hk; cases e; exact Nat.le_refl _)
       have hO4 : ∀ k, v4.ownBlock = some k → w2.heap.size ≤ k := fun k hk => by
         rcases lo4 with h | h
         · have e : some w2.heap.size = some k := h.symm.trans hk; cases e; exact Nat.le_refl _
         · rw [h] at hk; simp only [World.size_alloc, Option.some.injEq] at hk; omega
       have H4 := Lib.hid (H2.out.on hB4)
       have c1 : w4.cell? ⟨u, 1, none⟩ = some (.slice A N c) := cell_of_heap H4.out.box 1
       have A1 := Lib.hid own4
       have A2 : Hid (LiesE encIn w4 X2 (G.tasks.drop (i + 1))) := Lib.hid (HL2.out.onB hB4)
       have A3 : Hid (([] ++ G.tasks.take i).length + (G.tasks.drop (i + 1)).length ≤ maxLen) := Lib.hid (by rw [List.nil_append, HLT.out]; have := HLD.out; simp only [maxLen]; omega)
       have A4 : Hid ((([] ++ G.tasks.take i).length + (G.tasks.drop (i + 1)).length) * 64 ≤ 140737488355328) := Lib.hid (by rw [List.nil_append, HLT.out]; have := HLD.out; omega)
       have A5 : Hid (w.heap.size ≤ w4.heap.size) := Lib.hid (Nat.le_trans HB2.out.size hB4.size)
       have HB4 := Lib.hid hB4
       have HO4 := Lib.hid hO4
       clear own4 gr4 lo4 hB4 hO4 HL2 H2)
    | (at_builtin
       refine wpList_append_E (E := encIn) rfl _ _ 28 rfl i0 _ 64 Tryd.underlying28 hi' hz0 hz1 hz2 rfl (by decide) rfl A1.out rfl A2.out A3.out A4.out A5.out ?_
       intro v5 w5 own5 gr5 lo5
       clear hX2 A1 A2 A3 A4 A5 c1
       have hB5 : Below w2.heap.size w4 w5 := (Below.refl _ _).grown gr5 HB4.out.size (fun k hk => HO4.out k hk)
       have hO5 : ∀ k, v5.ownBlock = some k → w2.heap.size ≤ k := fun k hk => by
         rcases lo5 with h | h
         · rw [h] at hk; exact HO4.out k hk
         · rw [h] at hk; simp only [Option.some.injEq] at hk; have := HB4.out.size; omega
       have H5 := Lib.hid (H4.out.same fun k hk => hB5.block k (HO2.out k hk))
       have cf := frozen_of_heap H5.out.box 1
       have c1 : w5.cell? ⟨u, 1, none⟩ = some (.slice A N c) := cell_of_heap H5.out.box 1
       obtain ⟨A5, c5, rfl⟩ := own5.form
       have O5 := Lib.hid own5
       have HB5 := Lib.hid (HB4.out.trans hB5)
       have HO5 := Lib.hid hO5
       clear own5 gr5 lo5 hB5 hO5 H4 HB4 HO4))
  go_ret
  have hu : u < w2.heap.size := HO2.out u (.inl rfl)
  have huw : u < w.heap.size := HOLD.out u (.inl rfl)
  have hlen : min i G.tasks.length + (G.tasks.length - (i + 1)) = (takeG G t).tasks.length := by rw [← HCUT.out]; simp
  have hl : ([] ++ G.tasks.take i ++ G.tasks.drop (i + 1)).length = (takeG G t).tasks.length := by rw [List.nil_append, HCUT.out]
  have HO := HO5.out
  have h5 := O5.out.base (base' := u + 1) (by omega)
  rw [hl] at HO h5
  rw [List.nil_append, HCUT.out] at h5
  rw [hlen]
  refine ⟨rfl, _, ⟨(heap_setCell_same _ _ _ _ _ _ H5.out.box).trans rfl, H5.out.s.same fun k hk => ?_, ?_, fun k hk e => ?_, HGD.out⟩, fun k hk => Nat.le_trans HB2.out.size (HO k hk), ?_⟩
  · have := (H5.out.s.lt k hk).1
    exact heap_setCell_other _ _ _ _ (by show k ≠ u; omega)
  · refine OwnE.same h5 fun k hk => heap_setCell_other _ _ _ _ ?_
    have := HO k hk
    show k ≠ u
    omega
  · have k1 := HO k e
    have k2 := HO2.out k (.inr (.inl hk))
    omega
  · exact ChP.setCell (P := fun k => k = u) (ad := ⟨u, 1, none⟩) (ChP.of_below (HB2.out.trans (HB5.out.mono HB2.out.size))) (.inl rfl) _
end Go.Proofs.YtbdnfppbiplpmaaDoor

/- The reference's book of envelopes: an envelope turns. Condition: the book lies in memory as its rows have it. -/
namespace Go.Proofs.YtbdnfppbiplpmaaDoor
open Go Go.RowKit

theorem map_set {L : List SetA} (h : L.Pairwise fun a b => a.id ≠ b.id) {i : Nat} {x : SetA} (hi : L[i]? = some x) (f : SetA → SetA) : (L.map fun s => if s.id = x.id then f s else s) = L.set i (f x) := by
  induction L generalizing i with
  | nil => cases hi
  | cons y L ih =>
    rw [List.pairwise_cons] at h
    cases i with
    | zero =>
      simp only [List.getElem?_cons_zero, Option.some.injEq] at hi
      subst hi
      rw [List.map_cons, if_pos rfl, List.set_cons_zero]
      congr 1
      conv => rhs; rw [← List.map_id' L]
      refine List.map_congr_left fun z hz => ?_
      rw [if_neg (fun e => h.1 z hz e.symm)]
    | succ i =>
      simp only [List.getElem?_cons_succ] at hi
      rw [List.map_cons, if_neg (h.1 x (List.mem_of_getElem? hi)), List.set_cons_succ, ih h.2 hi]
theorem enc_turn (x : SetA) {p : Nat} (hp : p < 8) (b : Bool) : encSet.enc (x.turn (p : Int) b) = (encSet.enc x).set (6 + p) (.bool b) := by
  rcases p with _ | _ | _ | _ | _ | _ | _ | _ | p
  · rfl
  · rfl
  · rfl
  · rfl
  · rfl
  · rfl
  · rfl
  · rfl
  · omega
theorem enc_up (x : SetA) {p : Nat} (hp : p < 8) : (encSet.enc x)[6 + p]? = some (.bool (x.up (p : Int))) := by
  rcases p with _ | _ | _ | _ | _ | _ | _ | _ | p
  · rfl
  · rfl
  · rfl
  · rfl
  · rfl
  · rfl
  · rfl
  · rfl
  · omega
set_option maxRecDepth 100000 in
set_option maxHeartbeats 1600000 in
/-- Turn: it doesn't. -/
theorem rxturn_no {w : World} {u : Nat} {v1 v2 : Value} {G : AG} (h : RfA w u v1 v2 G) (id pos : Int) (b : Bool) (hc : (turnA G id pos b).2 ≠ 0) :
    Calls Tryd.prog 14 #[.pointer (some ⟨u, 0, none⟩), .int .i64 id, .int .i64 pos, .bool b] w fun e w' => e = .returned (.int .i64 ((turnA G id pos b).2 : Nat)) ∧ Below w.heap.size w w' := by
  have HF := Lib.hid (rxfind_c h id)
  obtain ⟨M, hM⟩ : ∃ M, G.sets.length = M := ⟨_, rfl⟩
  rcases posS_cases h.good id with ⟨hp, e⟩ | ⟨i, x, hp, hi, his, e⟩
  · have hcl : (turnA G id pos b).2 = 5 := by unfold turnA; rw [e]
    rw [hcl]
    rw [hp] at HF
    clear h hp e hcl hc
    go_enter Tryd.func14, Tryd.ntmps14
    go_wp2_with fail
    refine HF.out.mono ?_
    rintro e wf ⟨rfl, rfl⟩
    go_wp2_with fail
    go_ret
    exact ⟨rfl, Below.refl _ _⟩
  · obtain ⟨A, c, hv⟩ := h.s.form
    subst hv
    obtain ⟨ad, gs, hA, ea, -, -, -, hcc⟩ := h.s.at his
    subst hA
    have c0 : w.cell? ⟨u, 0, none⟩ = some (.slice (some ad) G.sets.length c) := cell_of_heap h.box 0
    have x1 : w.cell? ⟨gs, i * 14 + 1, none⟩ = some (.int .i64 (x.n : Int)) := hcc 1 _ rfl
    have hi0 : (0 : Int) ≤ (i : Int) := by omega
    have hi1 : (i : Int) < (M : Int) := by omega
    have hn8 := (h.good.set x (set_mem h.good e)).2.2.2.1
    rw [hM] at c0
    rw [hp] at HF
    by_cases h1 : pos < 0 ∨ (x.n : Int) ≤ pos
    · have hcl : (turnA G id pos b).2 = 1 := by unfold turnA; rw [e]; simp only; rw [if_pos h1]
      rw [hcl]
      have hcs : decide (pos < 0) = true ∨ decide (pos < 0) = false ∧ decide ((x.n : Int) ≤ pos) = true := by
        by_cases h2 : pos < 0
        · exact .inl (decide_eq_true h2)
        · exact .inr ⟨decide_eq_false h2, decide_eq_true (by omega)⟩
      clear h hp e hcl hc his hcc h1 hi hM
      rcases hcs with d1 | ⟨d1, d2⟩
      all_goals (
        go_enter Tryd.func14, Tryd.ntmps14
        go_wp2_with fail
        refine HF.out.mono ?_
        rintro e wf ⟨rfl, rfl⟩
        go_wp2_with fail
        go_ret
        exact ⟨rfl, Below.refl _ _⟩)
    · obtain ⟨p, rfl⟩ : ∃ p : Nat, pos = (p : Int) := ⟨pos.toNat, by omega⟩
      have hp8 : p < 8 := by omega
      have hb : x.up (p : Int) = b := by
        by_cases hb : x.up (p : Int) = b
        · exact hb
        · exfalso; apply hc; unfold turnA; rw [e]; simp only; rw [if_neg h1, if_neg hb]
      have hcl : (turnA G id (p : Int) b).2 = 13 := by unfold turnA; rw [e]; simp only; rw [if_neg h1, if_pos hb]
      rw [hcl]
      have xu : w.cell? ⟨gs, i * 14 + 6 + p, none⟩ = some (.bool b) := by rw [← hb, Nat.add_assoc]; exact hcc (6 + p) _ (enc_up x hp8)
      have hau : (⟨gs, i * 14 + 6, none⟩ : Addr).add p = ⟨gs, i * 14 + 6 + p, none⟩ := Addr.add_lit ..
      have d1 : decide ((p : Int) < 0) = false := decide_eq_false (by omega)
      have d2 : decide ((x.n : Int) ≤ (p : Int)) = false := decide_eq_false (by omega)
      have p0 : (0 : Int) ≤ (p : Int) := by omega
      have p8 : (p : Int) < 8 := by omega
      have hpn : p < x.n := by omega
      clear h hp e hcl hc his hcc h1 hi hM hb
      cases b
      all_goals (
        go_enter Tryd.func14, Tryd.ntmps14
        go_wp2_with fail
        refine HF.out.mono ?_
        rintro e wf ⟨rfl, rfl⟩
        go_wp2_with fail
        go_ret
        exact ⟨rfl, Below.refl _ _⟩)
/-- The tasks that stay. -/
def stay (id pos : Int) (x : InA) : Bool := !inE id pos x
set_option maxRecDepth 100000 in
set_option maxHeartbeats 6400000 in
/-- Turn: it does. -/
theorem rxturn_ok {w : World} {u : Nat} {v1 v2 : Value} {G : AG} (h : RfA w u v1 v2 G) {id pos : Int} {b : Bool} (hc : (turnA G id pos b).2 = 0) (hn : G.tasks.length ≤ 100000) :
    Calls Tryd.prog 14 #[.pointer (some ⟨u, 0, none⟩), .int .i64 id, .int .i64 pos, .bool b] w fun e w' => e = .returned (.int .i64 0) ∧ ∃ v2', RfA w' u v1 v2' (turnG G id pos b) ∧ (∀ k, v2'.ownBlock = some k → w.heap.size ≤ k) ∧ ChP (fun k => k = u ∨ v1.ownBlock = some k) w w' := by
  have hgood : GA (turnG G id pos b) := by
    have := h.good.turn id pos b
    unfold turnA at this hc
    cases e : setA G id with
    | none => rw [e] at hc; simp at hc
    | some x =>
      rw [e] at this hc
      simp only at this hc
      split at hc
      · simp at hc
      · rename_i h1
        split at hc
        · simp at hc
        · rename_i h2
          rw [if_neg h1, if_neg h2] at this; exact this
  obtain ⟨x, e, h1, h2⟩ : ∃ x, setA G id = some x ∧ ¬ (pos < 0 ∨ (x.n : Int) ≤ pos) ∧ x.up pos = !b := by
    unfold turnA at hc
    cases e : setA G id with
    | none => rw [e] at hc; simp at hc
    | some x =>
      rw [e] at hc
      simp only at hc
      split at hc
      · simp at hc
      · rename_i h1
        split at hc
        · simp at hc
        · rename_i h2
          refine ⟨x, rfl, h1, ?_⟩
          cases b <;> cases hb : x.up pos <;> simp_all
  rcases posS_cases h.good id with ⟨_, e'⟩ | ⟨i, x', hp, hi, his, e'⟩
  · rw [e] at e'; cases e'
  obtain rfl := Option.some.inj (e.symm.trans e')
  obtain ⟨p, rfl⟩ : ∃ p : Nat, pos = (p : Int) := ⟨pos.toNat, by omega⟩
  have hid := set_id h.good e
  have hn8 := (h.good.set x (set_mem h.good e)).2.2.2.1
  have hp8 : p < 8 := by omega
  have HF := Lib.hid (rxfind_c h id)
  rw [hp] at HF
  obtain ⟨M, hM⟩ : ∃ M, G.sets.length = M := ⟨_, rfl⟩
  obtain ⟨A, c, hv⟩ := h.s.form
  subst hv
  obtain ⟨g, c', hvv, -, hgu, hgl, hfz, -⟩ := h.s.some (by omega)
  simp only [Value.slice.injEq] at hvv
  obtain ⟨rfl, -, rfl⟩ := hvv
  obtain ⟨A2, c2, hv2⟩ := h.t.form
  obtain ⟨N, hN⟩ : ∃ N, G.tasks.length = N := ⟨_, rfl⟩
  subst hv2
  obtain ⟨ad, gs, hA, ea, -, -, -, hcc⟩ := h.s.at his
  obtain rfl := Option.some.inj hA
  obtain rfl : g = gs := by
    have k := ea; unfold Addr.add at k; split at k <;> simp_all
  have c0 : w.cell? ⟨u, 0, none⟩ = some (.slice (some ⟨g, 0, none⟩) G.sets.length c) := cell_of_heap h.box 0
  have x1 : w.cell? ⟨g, i * 14 + 1, none⟩ = some (.int .i64 (x.n : Int)) := hcc 1 _ rfl
  have xu : w.cell? ⟨g, i * 14 + 6 + p, none⟩ = some (.bool (!b)) := by rw [← h2, Nat.add_assoc]; exact hcc (6 + p) _ (enc_up x hp8)
  have hfg : w.frozen? ⟨g, i * 14 + 6 + p, none⟩ = false := hfz _
  have hrow := h.s.stored (r := 6 + p) (x' := x.turn (p : Int) b) (u := .bool b) his (by omega) (enc_turn x hp8 b)
  have hms : (G.sets.map fun s => if s.id = x.id then s.turn (p : Int) b else s) = G.sets.set i (x.turn (p : Int) b) := map_set h.good.ids his (fun s => s.turn (p : Int) b)
  rw [← Nat.add_assoc, ← hms, hid] at hrow
  have hug : u ≠ g := by omega
  have hgt : ∀ k, (Value.slice A2 G.tasks.length c2).ownBlock = some k → k ≠ g := fun k hk e => h.ne g rfl (e ▸ hk)
  obtain ⟨W5, hW5⟩ : ∃ W5, w.setCell ⟨g, i * 14 + 6 + p, none⟩ (.bool b) = W5 := ⟨_, rfl⟩
  have hbox5 : W5.heap[u]? = some (.cells #[.slice (some ⟨g, 0, none⟩) G.sets.length c, .slice A2 G.tasks.length c2] 30 (0, 0)) := by rw [← hW5]; exact (heap_setCell_other w _ u _ hug).trans h.box
  have ht5 : OwnE encIn 58 W5 (u + 1) (.slice A2 G.tasks.length c2) G.tasks := by rw [← hW5]; exact h.t.same fun k hk => heap_setCell_other w _ k _ (hgt k hk)
  have hch5 : ChP (fun k => k = g) w W5 := by rw [← hW5]; exact ChP.setCell (P := fun k => k = g) (ad := ⟨g, i * 14 + 6 + p, none⟩) (ChP.refl _ _) (.inl rfl) _
  have hi0 : (0 : Int) ≤ (i : Int) := by omega
  have hi1 : (i : Int) < (M : Int) := by omega
  have hau : (⟨g, i * 14 + 6, none⟩ : Addr).add p = ⟨g, i * 14 + 6 + p, none⟩ := Addr.add_lit ..
  have d1 : decide ((p : Int) < 0) = false := decide_eq_false (by omega)
  have d2 : decide ((x.n : Int) ≤ (p : Int)) = false := decide_eq_false (by omega)
  have p0 : (0 : Int) ≤ (p : Int) := by omega
  have p8 : (p : Int) < 8 := by omega
  have hpn : decide (x.n ≤ p) = false := decide_eq_false (by omega)
  have hbb : ((!b) == b) = false := by cases b <;> rfl
  rw [List.length_map, hM] at hrow
  rw [hM] at c0 hbox5 ⊢
  rw [hN] at ht5 hgt hbox5 hn
  have HTG := Lib.hid hgood
  have HROW := Lib.hid (by rw [hW5] at hrow; exact hrow)
  have HBOX := Lib.hid hbox5
  have HT5 := Lib.hid ht5
  have HCH := Lib.hid hch5
  have HNN := Lib.hid hN
  have HUG := Lib.hid (show u ≠ g ∧ u + 1 ≤ g ∧ g < w.heap.size ∧ u < w.heap.size from ⟨hug, hgu, hgl, lt_of_row h.box⟩)
  have HSZ : Hid (W5.heap.size = w.heap.size) := Lib.hid (by rw [← hW5]; simp [World.setCell])
  have HW5 := Lib.hid hW5
  clear h hgood h1 h2 e e' hp hi his hid hn8 hp8 hM hN hA ea hcc hrow hug hgu hgl hfz hgt hbox5 ht5 hch5 hms hW5 hc
  go_enter Tryd.func14, Tryd.ntmps14
  go_wp2_with fail
  refine HF.out.mono ?_
  rintro e wf ⟨rfl, rfl⟩
  go_upto_region 9 with fail
  rw [HW5.out]
  clear c0 x1 xu hfg hau d1 d2 hpn hbb hi0 hi1 p0 p8 HF HW5
  have hb6 : Below W5.heap.size W5 (W5.alloc (.cells #[] 58)) := (Below.refl _ _).alloc (Nat.le_refl _) _
  have HB6 := Lib.hid hb6
  have HO6 : Hid (OwnE encIn 58 (W5.alloc (.cells #[] 58)) W5.heap.size (.slice (some ⟨W5.heap.size, 0, none⟩) 0 0) ((G.tasks.take 0).filter (stay id (p : Int)))) := Lib.hid (OwnE.none W5 (Nat.le_refl _))
  clear hb6
  go_wp2_with fail
  go_loopw [10, 11] (fun V J wr => ∃ j : Nat, j ≤ N ∧ J = .int .i64 (j : Int) ∧ OwnE encIn 58 wr W5.heap.size V ((G.tasks.take j).filter (stay id (p : Int))) ∧ Below W5.heap.size W5 wr) (fun _ J _ => N - natOf J)
  case atStart => exact ⟨0, Nat.zero_le _, rfl, HO6.out, HB6.out⟩
  case round =>
    obtain ⟨j, hj, rfl, ho, hb⟩ := hrel
    clear HO6 HB6
    have HB := Lib.hid hb
    have c10 : wr.cell? ⟨u, 1, none⟩ = some (.slice A2 N c2) := cell_of_heap ((hb.block u (lt_of_row HBOX.out)).trans HBOX.out) 1
    obtain ⟨S, hS⟩ : ∃ S, (G.tasks.take j).filter (stay id (p : Int)) = S := ⟨_, rfl⟩
    have hsl : S.length ≤ N := by
      rw [← hS]
      have k1 := List.length_filter_le (stay id (p : Int)) (G.tasks.take j)
      have k2 : (G.tasks.take j).length ≤ G.tasks.length := by rw [List.length_take]; omega
      have := HNN.out
      omega
    rw [hS] at ho
    obtain ⟨A6, c6, hv6⟩ := ho.form
    subst hv6
    have HO := Lib.hid ho
    have HS := Lib.hid hS
    clear hb ho hS
    by_cases hlt : j < N
    · obtain ⟨y, hy⟩ : ∃ y, G.tasks[j]? = some y := ⟨_, List.getElem?_eq_getElem (by have := HNN.out; omega)⟩
      have j0 : (0 : Int) ≤ (j : Int) := by omega
      have j1 : (j : Int) < (N : Int) := by omega
      have HW1 : Hid (wrap64 ((j : Int) + 1) = ((j + 1 : Nat) : Int)) := Lib.hid (by unfold wrap64; omega)
      obtain ⟨ad2, g2, hA, ea2, -, -, -, hcc⟩ := (HT5.out.on HB.out).at hy
      subst hA
      have x0 : wr.cell? ⟨g2, j * 8, none⟩ = some (.int .i64 y.tk.job) := hcc 0 _ rfl
      have x1 : wr.cell? ⟨g2, j * 8 + 1, none⟩ = some (.int .i64 y.tk.ix) := hcc 1 _ rfl
      have x2 : wr.cell? ⟨g2, j * 8 + 2, none⟩ = some (.int .i64 y.set) := hcc 2 _ rfl
      have x3 : wr.cell? ⟨g2, j * 8 + 3, none⟩ = some (.int .i64 y.pos) := hcc 3 _ rfl
      have x4 : wr.cell? ⟨g2, j * 8 + 4, none⟩ = some (.int .i64 y.need.a) := hcc 4 _ rfl
      have x5 : wr.cell? ⟨g2, j * 8 + 5, none⟩ = some (.int .i64 y.need.b) := hcc 5 _ rfl
      have x6 : wr.cell? ⟨g2, j * 8 + 6, none⟩ = some (.int .i64 y.need.c) := hcc 6 _ rfl
      have x7 : wr.cell? ⟨g2, j * 8 + 7, none⟩ = some (.int .i64 y.need.d) := hcc 7 _ rfl
      have hst : (G.tasks.take (j + 1)).filter (stay id (p : Int)) = if stay id (p : Int) y = true then S ++ [y] else S := by
        have ht : G.tasks.take (j + 1) = G.tasks.take j ++ [y] := by rw [List.take_add_one, hy]; rfl
        rw [ht, List.filter_append, HS.out, List.filter_cons]
        split
        · rfl
        · rw [List.filter_nil, List.append_nil]
      have HJ := Lib.hid hlt
      by_cases hin : stay id (p : Int) y = true
      · rw [if_pos hin] at hst
        have HST := Lib.hid hst
        have hcs : (y.set != id) = true ∨ (y.set != id) = false ∧ (y.pos != (p : Int)) = true := by
          unfold stay inE at hin
          by_cases e1 : y.set = id
          · exact .inr ⟨by simp [e1], by simpa [e1] using hin⟩
          · exact .inl (by simpa using e1)
        obtain ⟨ii, h0, q0, q1, q2⟩ := info_parts Tryd.infoIn17
        have hbl : Below wr.heap.size wr (wr.alloc (.cells #[.int .i64 y.tk.job, .int .i64 y.tk.ix, .int .i64 y.set, .int .i64 y.pos, .int .i64 y.need.a, .int .i64 y.need.b, .int .i64 y.need.c, .int .i64 y.need.d] 58)) := (Below.refl _ _).alloc (Nat.le_refl _) _
        have A1 := Lib.hid (HO.out.on hbl)
        have A2 : Hid (LiesE encIn (wr.alloc (.cells #[.int .i64 y.tk.job, .int .i64 y.tk.ix, .int .i64 y.set, .int .i64 y.pos, .int .i64 y.need.a, .int .i64 y.need.b, .int .i64 y.need.c, .int .i64 y.need.d] 58)) (.slice (some ⟨wr.heap.size, 0, none⟩) 1 1) [y]) := Lib.hid (lies_lit encIn [y] (heap_alloc_new wr _))
        have A3 : Hid (S.length + [y].length ≤ maxLen) := Lib.hid (by simp only [List.length_singleton, maxLen]; omega)
        have A4 : Hid ((S.length + [y].length) * 64 ≤ 140737488355328) := Lib.hid (by simp only [List.length_singleton]; omega)
        have A5 : Hid (W5.heap.size ≤ (wr.alloc (.cells #[.int .i64 y.tk.job, .int .i64 y.tk.ix, .int .i64 y.set, .int .i64 y.pos, .int .i64 y.need.a, .int .i64 y.need.b, .int .i64 y.need.c, .int .i64 y.need.d] 58)).heap.size) := Lib.hid (Nat.le_trans HB.out.size hbl.size)
        have HBL := Lib.hid hbl
        clear hst hin hcc hy hlt hbl hsl
        have hj' : j + 1 ≤ N := HJ.out
        rcases hcs with f1 | ⟨f1, f2⟩
        all_goals (
          go_wp2_with (at_builtin; refine wpList_append_E (E := encIn) rfl _ _ 28 rfl ii _ 64 Tryd.underlying28 h0 q0 q1 q2 rfl (by decide) rfl A1.out rfl A2.out A3.out A4.out A5.out ?_; intro v6 w6 own6 gr6 lo6; have HB7 : Hid (Below W5.heap.size W5 w6) := Lib.hid ((HB.out.trans (HBL.out.mono HB.out.size)).grown gr6 (Nat.le_trans HB.out.size HBL.out.size) (fun k hk => (HO.out.lt k hk).1)); have HO7 := Lib.hid own6; clear own6 gr6 lo6 A1 A2 A3 A4 A5 x0 x1 x2 x3 x4 x5 x6 x7 c10; have hw1 := HW1.out)
          go_roundw
          case rel => exact ⟨j + 1, HJ.out, by rw [← HW1.out]; first | rfl | (congr 1; omega), by rw [HST.out]; exact HO7.out, HB7.out⟩
          case measure => simp [natOf]; omega)
      · rw [if_neg hin] at hst
        have HST := Lib.hid hst
        have f : y.set = id ∧ y.pos = (p : Int) := by
          unfold stay inE at hin
          simpa using hin
        have f1 : (y.set != id) = false := by simp [f.1]
        have f2 : (y.pos != (p : Int)) = false := by simp [f.2]
        clear hst hin hcc hy hlt hsl f
        have hw1 := HW1.out
        go_wp2_with fail
        go_roundw
        case rel => exact ⟨j + 1, HJ.out, by rw [← HW1.out]; first | rfl | (congr 1; omega), by rw [HST.out]; exact HO.out, HB.out⟩
        case measure => simp [natOf]; omega
    · obtain rfl : j = N := by omega
      have hbx := (HB.out.block u (lt_of_row HBOX.out)).trans HBOX.out
      have cf := frozen_of_heap hbx 1
      have HBX := Lib.hid hbx
      clear hbx
      go_wp2_with fail
      go_ret
      have hfin : S = (turnG G id (p : Int) b).tasks := by
        rw [← HS.out, List.take_of_length_le (Nat.le_of_eq HNN.out)]; rfl
      obtain ⟨n1, n2, n3, n4⟩ := HUG.out
      have hsz := HSZ.out
      have ho := HO.out.base (base' := u + 1) (by omega)
      have hlt := HO.out.lt
      rw [hfin] at ho hlt
      refine ⟨rfl, _, ⟨(heap_setCell_same _ _ _ _ _ _ HBX.out).trans (by rw [hfin]; rfl), ?_, ?_, fun k hk e => ?_, HTG.out⟩, fun k hk => ?_, ?_⟩
      · have hs := (HROW.out.on HB.out).same (w' := wr.setCell ⟨u, 1, none⟩ (.slice A6 S.length c6)) fun k hk => heap_setCell_other _ _ _ _ (by
          have := (HROW.out.lt k hk).1
          show k ≠ u
          omega)
        exact hs
      · exact ho.same fun k hk => heap_setCell_other _ _ _ _ (by have := (hlt k hk).1; show k ≠ u; omega)
      · have k1 := (hlt k e).1
        have k2 : some g = some k := hk
        cases k2
        omega
      · have := (hlt k hk).1; omega
      · exact ChP.setCell (P := fun k => k = u ∨ (Value.slice (some ⟨g, 0, none⟩) M c).ownBlock = some k) (ad := ⟨u, 1, none⟩) (((ChP.refl _ _).trans HCH.out fun k e => .inl (.inr (by rw [e]; rfl))).then HB.out) (.inl (.inl rfl)) _
end Go.Proofs.YtbdnfppbiplpmaaDoor

/- The reference's book of envelopes: a task that doesn't go in. Condition: the book lies in memory as its rows have it. -/
namespace Go.Proofs.YtbdnfppbiplpmaaDoor
open Go Go.RowKit

set_option maxRecDepth 100000 in
set_option maxHeartbeats 6400000 in
/-- Put: it doesn't. -/
theorem rxput_no {w : World} {u : Nat} {v1 v2 : Value} {G : AG} (h : RfA w u v1 v2 G) (t : Tk) (id pos : Int) (v : V4) (hn : G.tasks.length ≤ 100000) (hc : (putA G t id pos v).2 ≠ 0) :
    Calls Tryd.prog 21 #[.pointer (some ⟨u, 0, none⟩), .agg #[.int .i64 t.job, .int .i64 t.ix], .int .i64 id, .int .i64 pos, .agg #[.int .i64 v.a, .int .i64 v.b, .int .i64 v.c, .int .i64 v.d]] w fun e w' => e = .returned (.int .i64 ((putA G t id pos v).2 : Nat)) ∧ Below w.heap.size w w' := by
  obtain ⟨X, hX⟩ : ∃ X, w.heap.size = X := ⟨_, rfl⟩
  obtain ⟨Y, hY⟩ : ∃ Y, X + 1 = Y := ⟨_, rfl⟩
  obtain ⟨W1, hW1⟩ : ∃ W1, (w.alloc (.cells #[.int .i64 t.job, .int .i64 t.ix] 32)).alloc (.cells #[.int .i64 v.a, .int .i64 v.b, .int .i64 v.c, .int .i64 v.d] 34) = W1 := ⟨_, rfl⟩
  have hb1 : Below w.heap.size w W1 := by rw [← hW1]; exact ((Below.refl _ _).alloc (Nat.le_refl _) _).alloc (by simp) _
  have hx1 : W1.heap[X]? = some (.cells #[.int .i64 t.job, .int .i64 t.ix] 32 (0, 0)) := by rw [← hW1, ← hX]; exact (Below.heap_alloc _ _ _ (by simp)).trans (heap_alloc_new w _)
  have hy1 : W1.heap[Y]? = some (.cells #[.int .i64 v.a, .int .i64 v.b, .int .i64 v.c, .int .i64 v.d] 34 (0, 0)) := by
    have := heap_alloc_new (w.alloc (.cells #[.int .i64 t.job, .int .i64 t.ix] 32)) (.cells #[.int .i64 v.a, .int .i64 v.b, .int .i64 v.c, .int .i64 v.d] 34 (0, 0))
    rw [World.size_alloc, hX, hY] at this
    rw [← hW1]; exact this
  have HALL : Hid (∀ W, Below W1.heap.size W1 W → RfA W u v1 v2 G ∧ Below w.heap.size w W ∧ W.heap[X]? = some (.cells #[.int .i64 t.job, .int .i64 t.ix] 32 (0, 0)) ∧ W.heap[Y]? = some (.cells #[.int .i64 v.a, .int .i64 v.b, .int .i64 v.c, .int .i64 v.d] 34 (0, 0))) := Lib.hid fun W hb =>
    ⟨(h.on hb1).on hb, hb1.trans (hb.mono hb1.size), (hb.block X (lt_of_row hx1)).trans hx1, (hb.block Y (lt_of_row hy1)).trans hy1⟩
  have HF : Hid (∀ W, Below W1.heap.size W1 W → Calls Tryd.prog 25 #[.pointer (some ⟨u, 0, none⟩), .int .i64 id] W fun e w' => e = .returned (.int .i64 (posS G id)) ∧ W = w') := Lib.hid fun W hb => rxfind_c (HALL.out W hb).1 id
  have HWH : Hid (∀ W, Below W1.heap.size W1 W → Calls Tryd.prog 23 #[.pointer (some ⟨u, 0, none⟩), .agg #[.int .i64 t.job, .int .i64 t.ix]] W fun e w' => e = .returned (.int .i64 (posT G t)) ∧ Below W1.heap.size W1 w') := Lib.hid fun W hb =>
    (rxwhere_c (HALL.out W hb).1 t hn).mono fun _ _ ⟨k1, k2⟩ => ⟨k1, hb.trans (k2.mono hb.size)⟩
  have HG : Hid (∀ W, Below W1.heap.size W1 W → Calls Tryd.prog 57 #[.agg #[.int .i64 v.a, .int .i64 v.b, .int .i64 v.c, .int .i64 v.d]] W fun e w' => e = .returned (.bool (goodV v)) ∧ Below W1.heap.size W1 w') := Lib.hid fun W hb =>
    (rgood_x v W).mono fun _ _ ⟨k1, k2⟩ => ⟨k1, by rw [k2]; exact hb.alloc hb.size _⟩
  have HX := Lib.hid hX
  have HY := Lib.hid hY
  have HW1 := Lib.hid hW1
  have HBX := Lib.hid (Below.refl W1.heap.size W1)
  rcases posS_cases h.good id with ⟨hp, e⟩ | ⟨i, s, hp, hi, his, e⟩
  · have hcl : (putA G t id pos v).2 = 5 := by unfold putA; rw [e]
    rw [hcl]
    rw [hp] at HF
    clear hX hY hW1 hb1 hx1 hy1 h hp e hcl hc hn HWH HG
    go_enter Tryd.func21, Tryd.ntmps21
    go_upto_region 1 with fail
    rw [HX.out, HY.out, HW1.out]
    go_wp2_with fail
    refine (HF.out _ HBX.out).mono ?_
    rintro e wf ⟨rfl, rfl⟩
    go_wp2_with fail
    go_ret
    exact ⟨rfl, (HALL.out _ HBX.out).2.1⟩
  · have hn8 := (h.good.set s (set_mem h.good e)).2.2.2.1
    obtain ⟨A0, c0', hv0⟩ := h.s.form
    obtain ⟨M, hM⟩ : ∃ M, G.sets.length = M := ⟨_, rfl⟩
    rw [hM] at hv0 hi
    subst hv0
    obtain ⟨ad, gs, hA0, ea, -, -, -, -⟩ := h.s.at his
    subst hA0
    rw [hp] at HF
    have i0 : (0 : Int) ≤ (i : Int) := by omega
    have i1 : (i : Int) < (M : Int) := by omega
    have HNC : Hid (∀ W, Below W1.heap.size W1 W → W.cell? ⟨u, 0, none⟩ = some (.slice (some ad) M c0') ∧ W.cell? ⟨gs, i * 14 + 1, none⟩ = some (.int .i64 (s.n : Int))) := Lib.hid fun W hb => by
      obtain ⟨k0, _, k1⟩ := (HALL.out W hb).1.sCell his ea
      exact ⟨k0, k1 1 _ rfl⟩
    by_cases hrg : pos < 0 ∨ (s.n : Int) ≤ pos
    · have hcl : (putA G t id pos v).2 = 1 := by unfold putA; rw [e]; simp only; rw [if_pos (.inl hrg)]
      rw [hcl]
      have hcs : decide (pos < 0) = true ∨ decide (pos < 0) = false ∧ decide ((s.n : Int) ≤ pos) = true := by
        by_cases h2 : pos < 0
        · exact .inl (decide_eq_true h2)
        · exact .inr ⟨decide_eq_false h2, decide_eq_true (by omega)⟩
      obtain ⟨c0, x1⟩ := HNC.out W1 HBX.out
      clear hX hY hW1 hb1 hx1 hy1 h hp e hcl hc hn HWH HG hrg his hi hM
      rcases hcs with d1 | ⟨d1, d2⟩
      all_goals (
        go_enter Tryd.func21, Tryd.ntmps21
        go_upto_region 1 with fail
        rw [HX.out, HY.out, HW1.out]
        go_wp2_with fail
        refine (HF.out _ HBX.out).mono ?_
        rintro e wf ⟨rfl, rfl⟩
        go_wp2_with fail
        go_ret
        exact ⟨rfl, (HALL.out _ HBX.out).2.1⟩)
    obtain ⟨p, rfl⟩ : ∃ p : Nat, pos = (p : Int) := ⟨pos.toNat, by omega⟩
    have hp8 : p < 8 := by omega
    have HSC : Hid (∀ W, Below W1.heap.size W1 W → W.cell? ⟨u, 0, none⟩ = some (.slice (some ad) M c0') ∧ W.cell? ⟨gs, i * 14 + 1, none⟩ = some (.int .i64 (s.n : Int)) ∧ W.cell? ⟨gs, i * 14 + 6 + p, none⟩ = some (.bool (s.up (p : Int)))) := Lib.hid fun W hb => by
      obtain ⟨k0, _, k1⟩ := (HALL.out W hb).1.sCell his ea
      refine ⟨k0, k1 1 _ rfl, ?_⟩
      rw [Nat.add_assoc]; exact k1 (6 + p) _ (enc_up s hp8)
    have p0 : (0 : Int) ≤ (p : Int) := by omega
    have p8 : (p : Int) < 8 := by omega
    have d1 : decide ((p : Int) < 0) = false := decide_eq_false (by omega)
    have d2 : decide ((s.n : Int) ≤ (p : Int)) = false := decide_eq_false (by omega)
    have d2n : decide (s.n ≤ p) = false := decide_eq_false (by omega)
    have hau : (⟨gs, i * 14 + 6, none⟩ : Addr).add p = ⟨gs, i * 14 + 6 + p, none⟩ := Addr.add_lit ..
    have HRG := Lib.hid hrg
    by_cases hg : goodV v = false
    · have hcl : (putA G t id (p : Int) v).2 = 1 := by unfold putA; rw [e]; simp only; rw [if_pos (.inr hg)]
      rw [hcl]
      rw [hg] at HG
      clear hX hY hW1 hb1 hx1 hy1 h hp e hcl hc hn HWH hrg his hi hM hn8 hp8 hg
      go_enter Tryd.func21, Tryd.ntmps21
      go_upto_region 1 with fail
      rw [HX.out, HY.out, HW1.out]
      obtain ⟨c0, x1, xu⟩ := HSC.out W1 HBX.out
      have y := (HALL.out W1 HBX.out).2.2.2
      have y0 : W1.cell? ⟨Y, 0, none⟩ = some (.int .i64 v.a) := cell_of_heap y 0
      have y1 : W1.cell? ⟨Y, 1, none⟩ = some (.int .i64 v.b) := cell_of_heap y 1
      have y2 : W1.cell? ⟨Y, 2, none⟩ = some (.int .i64 v.c) := cell_of_heap y 2
      have y3 : W1.cell? ⟨Y, 3, none⟩ = some (.int .i64 v.d) := cell_of_heap y 3
      clear y
      go_wp2_with fail
      refine (HF.out _ HBX.out).mono ?_
      rintro e wf ⟨rfl, rfl⟩
      go_wp2_with fail
      refine (HG.out _ HBX.out).mono ?_
      rintro e w2 ⟨rfl, b2⟩
      have HBX := Lib.hid b2
      clear b2 y0 y1 y2 y3 c0 x1 xu
      obtain ⟨c0, x1, xu⟩ := HSC.out w2 HBX.out
      have xx := (HALL.out w2 HBX.out).2.2.1
      have t0 := cell_of_heap xx 0
      have t1 := cell_of_heap xx 1
      clear xx
      go_wp2_with fail
      go_ret
      exact ⟨rfl, (HALL.out _ HBX.out).2.1⟩
    have hg1 : goodV v = true := by simpa using hg
    rw [hg1] at HG
    by_cases hu : s.up (p : Int) = false
    · have hcl : (putA G t id (p : Int) v).2 = 13 := by unfold putA; rw [e]; simp only; rw [if_neg (by rw [hg1]; simpa using hrg), if_pos hu]
      rw [hcl]
      rw [hu] at HSC
      clear hX hY hW1 hb1 hx1 hy1 h hp e hcl hc hn HWH hrg his hi hM hn8 hp8 hg hg1 hu
      go_enter Tryd.func21, Tryd.ntmps21
      go_upto_region 1 with fail
      rw [HX.out, HY.out, HW1.out]
      obtain ⟨c0, x1, xu⟩ := HSC.out W1 HBX.out
      have y := (HALL.out W1 HBX.out).2.2.2
      have y0 : W1.cell? ⟨Y, 0, none⟩ = some (.int .i64 v.a) := cell_of_heap y 0
      have y1 : W1.cell? ⟨Y, 1, none⟩ = some (.int .i64 v.b) := cell_of_heap y 1
      have y2 : W1.cell? ⟨Y, 2, none⟩ = some (.int .i64 v.c) := cell_of_heap y 2
      have y3 : W1.cell? ⟨Y, 3, none⟩ = some (.int .i64 v.d) := cell_of_heap y 3
      clear y
      go_wp2_with fail
      refine (HF.out _ HBX.out).mono ?_
      rintro e wf ⟨rfl, rfl⟩
      go_wp2_with fail
      refine (HG.out _ HBX.out).mono ?_
      rintro e w2 ⟨rfl, b2⟩
      have HBX := Lib.hid b2
      clear b2 y0 y1 y2 y3 c0 x1 xu
      obtain ⟨c0, x1, xu⟩ := HSC.out w2 HBX.out
      have xx := (HALL.out w2 HBX.out).2.2.1
      have t0 := cell_of_heap xx 0
      have t1 := cell_of_heap xx 1
      clear xx
      go_wp2_with fail
      go_ret
      exact ⟨rfl, (HALL.out _ HBX.out).2.1⟩
    have hu1 : s.up (p : Int) = true := by simpa using hu
    rw [hu1] at HSC
    rcases posT_cases h.good t with ⟨hpt, et⟩ | ⟨j, y, hpt, _, _, et⟩
    · have hf : fitsV v (leftA G s (p : Int)) = false := by
        cases hf : fitsV v (leftA G s (p : Int)) with
        | false => rfl
        | true =>
          exfalso; apply hc
          unfold putA; rw [e]; simp only
          rw [if_neg (by rw [hg1]; simpa using hrg), if_neg hu, if_neg (by rw [et]; simp), if_neg (by rw [hf]; simp)]
      have hcl : (putA G t id (p : Int) v).2 = 10 := by
        unfold putA; rw [e]; simp only
        rw [if_neg (by rw [hg1]; simpa using hrg), if_neg hu, if_neg (by rw [et]; simp), if_pos hf]
      have HLF : Hid (∀ W, Below W1.heap.size W1 W → Calls Tryd.prog 27 #[.pointer (some ⟨u, 0, none⟩), .int .i64 id, .int .i64 (p : Int)] W fun e w' => e = .returned (.agg #[.int .i64 (leftA G s (p : Int)).a, .int .i64 (leftA G s (p : Int)).b, .int .i64 (leftA G s (p : Int)).c, .int .i64 (leftA G s (p : Int)).d]) ∧ Below W1.heap.size W1 w') := Lib.hid fun W hb =>
        (rxleft_c (HALL.out W hb).1 e (p : Int) hn).mono fun _ _ ⟨k1, k2⟩ => ⟨k1, hb.trans (k2.mono hb.size)⟩
      have HFT : Hid (∀ W, Below W1.heap.size W1 W → Calls Tryd.prog 61 #[.agg #[.int .i64 v.a, .int .i64 v.b, .int .i64 v.c, .int .i64 v.d], .agg #[.int .i64 (leftA G s (p : Int)).a, .int .i64 (leftA G s (p : Int)).b, .int .i64 (leftA G s (p : Int)).c, .int .i64 (leftA G s (p : Int)).d]] W fun e w' => e = .returned (.bool false) ∧ Below W1.heap.size W1 w') := Lib.hid fun W hb => by
        have := rfits_c v (leftA G s (p : Int)) W
        rw [hf] at this
        exact this.mono fun _ _ ⟨k1, k2⟩ => ⟨k1, hb.trans (k2.mono hb.size)⟩
      have HYC : Hid (∀ W, Below W1.heap.size W1 W → W.cell? ⟨Y, 0, none⟩ = some (.int .i64 v.a) ∧ W.cell? ⟨Y, 1, none⟩ = some (.int .i64 v.b) ∧ W.cell? ⟨Y, 2, none⟩ = some (.int .i64 v.c) ∧ W.cell? ⟨Y, 3, none⟩ = some (.int .i64 v.d)) := Lib.hid fun W hb => by
        have y := (HALL.out W hb).2.2.2
        exact ⟨cell_of_heap y 0, cell_of_heap y 1, cell_of_heap y 2, cell_of_heap y 3⟩
      obtain ⟨l, hl⟩ : ∃ l, leftA G s (p : Int) = l := ⟨_, rfl⟩
      rw [hl] at HLF HFT
      rw [hcl]
      rw [hpt] at HWH
      clear hX hY hW1 hb1 hx1 hy1 h hp e hcl hc hn hrg his hi hM hn8 hp8 hg hg1 hu hu1 hpt et hf hl
      go_enter Tryd.func21, Tryd.ntmps21
      go_upto_region 1 with fail
      rw [HX.out, HY.out, HW1.out]
      obtain ⟨c0, x1, xu⟩ := HSC.out W1 HBX.out
      have y := (HALL.out W1 HBX.out).2.2.2
      have y0 : W1.cell? ⟨Y, 0, none⟩ = some (.int .i64 v.a) := cell_of_heap y 0
      have y1 : W1.cell? ⟨Y, 1, none⟩ = some (.int .i64 v.b) := cell_of_heap y 1
      have y2 : W1.cell? ⟨Y, 2, none⟩ = some (.int .i64 v.c) := cell_of_heap y 2
      have y3 : W1.cell? ⟨Y, 3, none⟩ = some (.int .i64 v.d) := cell_of_heap y 3
      clear y
      go_wp2_with fail
      refine (HF.out _ HBX.out).mono ?_
      rintro e wf ⟨rfl, rfl⟩
      go_wp2_with fail
      refine (HG.out _ HBX.out).mono ?_
      rintro e w2 ⟨rfl, b2⟩
      have HBX := Lib.hid b2
      clear b2 y0 y1 y2 y3 c0 x1 xu
      obtain ⟨c0, x1, xu⟩ := HSC.out w2 HBX.out
      have xx := (HALL.out w2 HBX.out).2.2.1
      have t0 := cell_of_heap xx 0
      have t1 := cell_of_heap xx 1
      clear xx
      go_wp2_with fail
      refine (HWH.out _ HBX.out).mono ?_
      rintro e w3 ⟨rfl, b3⟩
      have HBX := Lib.hid b3
      clear b3 t0 t1 c0 x1 xu
      have S3 := Lib.hid (HYC.out w3 HBX.out)
      go_upto_region 10 with fail
      go_region_held3 (fun W => W.cell? ⟨Y, 0, none⟩ = some (.int .i64 v.a) ∧ W.cell? ⟨Y, 1, none⟩ = some (.int .i64 v.b) ∧ W.cell? ⟨Y, 2, none⟩ = some (.int .i64 v.c) ∧ W.cell? ⟨Y, 3, none⟩ = some (.int .i64 v.d))
        (first | exact S3.out | exact S4.out | exact S5.out)
        (first
          | (go_at_call 27; refine (HLF.out _ (by first | exact HBX.out | exact HBX.out.drew)).mono ?_; rintro e w4 ⟨rfl, b4⟩; have HB4 := Lib.hid b4; have S4 := Lib.hid (HYC.out w4 b4); clear b4)
          | (go_at_call 61; refine (HFT.out _ HB4.out).mono ?_; rintro e w5 ⟨rfl, b5⟩; have HB5 := Lib.hid b5; have S5 := Lib.hid (HYC.out w5 b5); clear b5))
      all_goals (
        go_wp2_with fail
        go_ret
        exact ⟨rfl, (HALL.out _ HB5.out).2.1⟩)
    · have hcl : (putA G t id (p : Int) v).2 = 6 := by
        unfold putA; rw [e]; simp only
        rw [if_neg (by rw [hg1]; simpa using hrg), if_neg hu, if_pos (by rw [et]; rfl)]
      have j0 : (0 : Int) ≤ (j : Int) := by omega
      rw [hcl]
      rw [hpt] at HWH
      clear hX hY hW1 hb1 hx1 hy1 h hp e hcl hc hn hrg his hi hM hn8 hp8 hg hg1 hu hu1 hpt et
      go_enter Tryd.func21, Tryd.ntmps21
      go_upto_region 1 with fail
      rw [HX.out, HY.out, HW1.out]
      obtain ⟨c0, x1, xu⟩ := HSC.out W1 HBX.out
      have y := (HALL.out W1 HBX.out).2.2.2
      have y0 : W1.cell? ⟨Y, 0, none⟩ = some (.int .i64 v.a) := cell_of_heap y 0
      have y1 : W1.cell? ⟨Y, 1, none⟩ = some (.int .i64 v.b) := cell_of_heap y 1
      have y2 : W1.cell? ⟨Y, 2, none⟩ = some (.int .i64 v.c) := cell_of_heap y 2
      have y3 : W1.cell? ⟨Y, 3, none⟩ = some (.int .i64 v.d) := cell_of_heap y 3
      clear y
      go_wp2_with fail
      refine (HF.out _ HBX.out).mono ?_
      rintro e wf ⟨rfl, rfl⟩
      go_wp2_with fail
      refine (HG.out _ HBX.out).mono ?_
      rintro e w2 ⟨rfl, b2⟩
      have HBX := Lib.hid b2
      clear b2 y0 y1 y2 y3 c0 x1 xu
      obtain ⟨c0, x1, xu⟩ := HSC.out w2 HBX.out
      have xx := (HALL.out w2 HBX.out).2.2.1
      have t0 := cell_of_heap xx 0
      have t1 := cell_of_heap xx 1
      clear xx
      go_wp2_with fail
      refine (HWH.out _ HBX.out).mono ?_
      rintro e w3 ⟨rfl, b3⟩
      have HBX := Lib.hid b3
      clear b3 t0 t1 c0 x1 xu
      go_wp2_with fail
      go_ret
      exact ⟨rfl, (HALL.out _ HBX.out).2.1⟩
end Go.Proofs.YtbdnfppbiplpmaaDoor
