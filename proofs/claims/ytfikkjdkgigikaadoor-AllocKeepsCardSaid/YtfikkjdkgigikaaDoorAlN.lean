/- The program's book of envelopes, each method as the laws ask it. Conditions: the book lies in memory as its maps have it; the sentinels lie where the program's text lays them, as long as only the book's own blocks turn. -/
import Derived.Test.YtfikkjdkgigikaaDoorAlG
import Derived.Test.YtfikkjdkgigikaaDoorAlJ
import Derived.Test.YtfikkjdkgigikaaDoorAlK
import Derived.Test.YtfikkjdkgigikaaDoorAlO
import Derived.Test.YtfikkjdkgigikaaDoorAlS
namespace Go.Proofs.YtfikkjdkgigikaaDoor
open Go Go.RowKit Go.Maps Go.Sort

/-- All tasks' numbers are ints. -/
def OkG (G : AG) : Prop := ∀ x ∈ G.tasks, okT x.tk
section
variable {w : World} {P : Nat → Prop} {q : Nat} {G : AG}
theorem AlW.okG (h : AlW w P q G) : OkG G := fun x hx => by
  obtain ⟨b1, b2, T1, T2, bl, h⟩ := h
  have hl : look T2 x.tk = some ⟨x.set, x.pos, x.need⟩ := by rw [h.seats, (tk_iff h.good).2 ⟨hx, rfl⟩]; rfl
  exact h.m2.okKey hl
theorem AlW.open_c (s : Nat → Addr) (h : AlW w P q G) (hs : SentP s P w) (id N : Int) (v : V4) :
    Calls Tryd.prog 9 #[.pointer (some ⟨q, 0, none⟩), .int .i64 id, .int .i64 N, .agg #[.int .i64 v.a, .int .i64 v.b, .int .i64 v.c, .int .i64 v.d]] w fun e w' => e = .returned (errV s (openA G id N v).2) ∧ (∃ P', AlW w' P' q (openA G id N v).1 ∧ ∀ k, P' k → P k ∨ w.heap.size ≤ k) ∧ ChP P w w' := by
  obtain ⟨b1, b2, T1, T2, bl, h⟩ := h
  have no : ∀ {d : Nat}, openA G id N v = (G, d) → (Calls Tryd.prog 9 #[.pointer (some ⟨q, 0, none⟩), .int .i64 id, .int .i64 N, .agg #[.int .i64 v.a, .int .i64 v.b, .int .i64 v.c, .int .i64 v.d]] w fun e w' => e = .returned (errV s d) ∧ Below w.heap.size w w') → (Calls Tryd.prog 9 #[.pointer (some ⟨q, 0, none⟩), .int .i64 id, .int .i64 N, .agg #[.int .i64 v.a, .int .i64 v.b, .int .i64 v.c, .int .i64 v.d]] w fun e w' => e = .returned (errV s (openA G id N v).2) ∧ (∃ P', AlW w' P' q (openA G id N v).1 ∧ ∀ k, P' k → P k ∨ w.heap.size ≤ k) ∧ ChP P w w') := fun he hc => by
    rw [he]
    exact hc.mono fun e w' ⟨k1, k2⟩ => ⟨k1, ⟨P, (h.on k2).any, fun _ h => .inl h⟩, ChP.of_below k2⟩
  by_cases r : id < 1 ∨ 999 < id ∨ N < 1 ∨ 8 < N
  · refine no ?_ (aopen_arg s h hs v r)
    unfold openA
    rw [if_pos (by omega)]
  · have hr : 1 ≤ id ∧ id ≤ 999 ∧ 1 ≤ N ∧ N ≤ 8 := by omega
    cases hg : goodV v with
    | false =>
      refine no ?_ (aopen_bad s h hs v hr hg)
      unfold openA
      rw [if_pos (.inr (.inr (.inr (.inr hg))))]
    | true =>
      have n1 : ¬ (id < 1 ∨ 999 < id ∨ N < 1 ∨ 8 < N ∨ goodV v = false) := by rw [hg]; simp; omega
      cases e : setA G id with
      | some sA =>
        refine no ?_ (aopen_dup s h hs v hr hg e)
        unfold openA
        rw [if_neg n1, if_pos (by rw [e]; rfl)]
      | none =>
        by_cases hf : 8 ≤ G.sets.length
        · refine no ?_ (aopen_full s h hs v hr hg e hf)
          unfold openA
          rw [if_neg n1, if_neg (by rw [e]; simp), if_pos hf]
        · have he : openA G id N v = (openG G id N.toNat v, 0) := by
            unfold openA
            rw [if_neg n1, if_neg (by rw [e]; simp), if_neg hf]
            rfl
          rw [he, errA0]
          have := aopen_ok h v (n := N.toNat) (by omega) hg e (by omega)
          rw [show ((N.toNat : Nat) : Int) = N by omega] at this
          exact this
theorem AlW.close_c (s : Nat → Addr) (h : AlW w P q G) (hs : SentP s P w) {id : Int} (hid : i64 id) :
    Calls Tryd.prog 11 #[.pointer (some ⟨q, 0, none⟩), .int .i64 id] w fun e w' => e = .returned (errV s (closeA G id).2) ∧ AlW w' P q (closeA G id).1 ∧ ChP P w w' := by
  obtain ⟨b1, b2, T1, T2, bl, h⟩ := h
  exact (aclose_c s h hs hid).mono fun e w' ⟨k1, ⟨_, k2⟩, k3⟩ => ⟨k1, k2.any, k3⟩
theorem AlW.raise_c (s : Nat → Addr) (h : AlW w P q G) (hs : SentP s P w) {id : Int} (hid : i64 id) (pos : Int) :
    Calls Tryd.prog 13 #[.pointer (some ⟨q, 0, none⟩), .int .i64 id, .int .i64 pos] w fun e w' => e = .returned (errV s (turnA G id pos true).2) ∧ AlW w' P q (turnA G id pos true).1 ∧ ChP P w w' := by
  obtain ⟨b1, b2, T1, T2, bl, h⟩ := h
  exact (araise_c s h hs hid).mono fun e w' ⟨k1, k2, k3⟩ => ⟨k1, k2.any, k3⟩
theorem turnA_cases {G : AG} (id pos : Int) (b : Bool) : (0 < (turnA G id pos b).2 ∧ (turnA G id pos b).1 = G) ∨ ((turnA G id pos b).2 = 0 ∧ (turnA G id pos b).1 = turnG G id pos b ∧ ∃ (s : SetA) (k : Nat), setA G id = some s ∧ pos = (k : Int) ∧ k < s.n ∧ s.up pos = !b) := by
  unfold turnA
  cases e : setA G id with
  | none => exact .inl ⟨by simp, rfl⟩
  | some s =>
    simp only
    split
    · exact .inl ⟨by simp, rfl⟩
    · split
      · exact .inl ⟨by simp, rfl⟩
      · rename_i h1 h2
        exact .inr ⟨rfl, rfl, s, pos.toNat, rfl, by omega, by omega, by cases b <;> simpa using h2⟩
/-- Book.Fall: what is told, and the tasks that were inside. -/
theorem AlW.fall_c (s : Nat → Addr) (h : AlW w P q G) (hs : SentP s P w) {id : Int} (hid : i64 id) (pos : Int) (hlen : G.tasks.length ≤ 100000) :
    Calls Tryd.prog 16 #[.pointer (some ⟨q, 0, none⟩), .int .i64 id, .int .i64 pos] w fun e w' => ∃ v, e = .returned (.tuple #[v, errV s (turnA G id pos false).2]) ∧ AlW w' P q (turnA G id pos false).1 ∧ ChP P w w' ∧ OwnE encTk 32 w' w.heap.size v (if (turnA G id pos false).2 = 0 then insideA G id pos else []) := by
  have hok := h.okG
  obtain ⟨b1, b2, T1, T2, bl, h⟩ := h
  rcases turnA_cases (G := G) id pos false with ⟨h1, h2⟩ | ⟨h1, h2, sA, k, h3, rfl, h4, h5⟩
  · refine (afall_no s h hs hid h1).mono fun e w' ⟨k1, k2⟩ => ⟨_, k1, ?_, ChP.of_below k2, ?_⟩
    · rw [h2]; exact (h.on k2).any
    · rw [if_neg (by omega)]; exact OwnE.nil _ _ _
  · refine (afall_ok s h hs hid h3 h4 h5 hlen hok).mono fun e w' ⟨v, k1, k2, k3, k4⟩ => ⟨v, ?_, ?_, k3, ?_⟩
    · rw [h1, errA0]; exact k1
    · rw [h2]; exact k2
    · rw [if_pos h1]; exact k4
theorem AlW.put_c (s : Nat → Addr) (h : AlW w P q G) (hs : SentP s P w) {t : Tk} (ht : okT t) {id : Int} (hid : i64 id) (pos : Int) (v : V4) (hlen : G.tasks.length ≤ 100000) :
    Calls Tryd.prog 20 #[.pointer (some ⟨q, 0, none⟩), .agg #[.int .i64 t.job, .int .i64 t.ix], .int .i64 id, .int .i64 pos, .agg #[.int .i64 v.a, .int .i64 v.b, .int .i64 v.c, .int .i64 v.d]] w fun e w' => e = .returned (errV s (putA G t id pos v).2) ∧ AlW w' P q (putA G t id pos v).1 ∧ ChP P w w' := by
  obtain ⟨b1, b2, T1, T2, bl, h⟩ := h
  have no : ∀ {d : Nat}, putA G t id pos v = (G, d) → (Calls Tryd.prog 20 #[.pointer (some ⟨q, 0, none⟩), .agg #[.int .i64 t.job, .int .i64 t.ix], .int .i64 id, .int .i64 pos, .agg #[.int .i64 v.a, .int .i64 v.b, .int .i64 v.c, .int .i64 v.d]] w fun e w' => e = .returned (errV s d) ∧ Below w.heap.size w w') →
      (Calls Tryd.prog 20 #[.pointer (some ⟨q, 0, none⟩), .agg #[.int .i64 t.job, .int .i64 t.ix], .int .i64 id, .int .i64 pos, .agg #[.int .i64 v.a, .int .i64 v.b, .int .i64 v.c, .int .i64 v.d]] w fun e w' => e = .returned (errV s (putA G t id pos v).2) ∧ AlW w' P q (putA G t id pos v).1 ∧ ChP P w w') := fun he hc => by
    rw [he]
    exact hc.mono fun e w' ⟨k1, k2⟩ => ⟨k1, (h.on k2).any, ChP.of_below k2⟩
  rcases Nat.eq_zero_or_pos (findE G id pos) with h0 | h0
  · obtain ⟨sA, k, e, rfl, hk⟩ := findE_some h0
    have n1 : ¬ ((k : Int) < 0 ∨ (sA.n : Int) ≤ (k : Int)) := by omega
    cases hg : goodV v with
    | false =>
      refine no ?_ (aput_arg s h hs ht v hid e hk hg)
      unfold putA; rw [e]; simp only
      rw [if_pos (.inr hg)]
    | true =>
      have n2 : ¬ (((k : Int) < 0 ∨ (sA.n : Int) ≤ (k : Int)) ∨ goodV v = false) := by rw [hg]; simp; omega
      cases hu : sA.up (k : Int) with
      | false =>
        refine no ?_ (aput_down s h hs ht v hid e hk hg hu)
        unfold putA; rw [e]; simp only
        rw [if_neg n2, if_pos hu]
      | true =>
        cases hb : (tkA G t).isSome with
        | true =>
          refine no ?_ (aput_dup s h hs ht v hid e hk hg hu hb)
          unfold putA; rw [e]; simp only
          rw [if_neg n2, if_neg (by rw [hu]; simp), if_pos hb]
        | false =>
          cases hf : fitsV v (leftA G sA (k : Int)) with
          | false =>
            refine no ?_ (aput_room s h hs ht v hid e hk hg hu hb hf)
            unfold putA; rw [e]; simp only
            rw [if_neg n2, if_neg (by rw [hu]; simp), if_neg (by rw [hb]; simp), if_pos hf]
          | true =>
            have he : putA G t id (k : Int) v = (putG G t id k v, 0) := by
              unfold putA; rw [e]; simp only
              rw [if_neg n2, if_neg (by rw [hu]; simp), if_neg (by rw [hb]; simp), if_neg (by rw [hf]; simp)]
              rfl
            rw [he]
            exact (aput_ok s h hs ht v hid e hk hg hu hb hf hlen).mono fun e w' ⟨k1, k2, k3⟩ => ⟨k1, k2.any, k3⟩
  · refine no ?_ (aput_find s h hs t v hid h0)
    unfold putA; unfold findE at h0 ⊢
    cases e : setA G id with
    | none => rfl
    | some s' =>
      rw [e] at h0
      simp only at h0 ⊢
      split at h0
      · rename_i k; rw [if_pos (.inl k), if_pos k]
      · omega
theorem AlW.take_c (s : Nat → Addr) (h : AlW w P q G) (hs : SentP s P w) {t : Tk} (ht : okT t) :
    Calls Tryd.prog 18 #[.pointer (some ⟨q, 0, none⟩), .agg #[.int .i64 t.job, .int .i64 t.ix]] w fun e w' => e = .returned (errV s (takeA G t).2) ∧ AlW w' P q (takeA G t).1 ∧ ChP P w w' := by
  obtain ⟨b1, b2, T1, T2, bl, h⟩ := h
  unfold takeA
  cases e : tkA G t with
  | none => exact (atake_no s h hs ht e).mono fun e w' ⟨k1, k2⟩ => ⟨k1, (h.on k2).any, ChP.of_below k2⟩
  | some x => exact (atake_ok s h hs ht e).mono fun e w' ⟨k1, k2, k3⟩ => ⟨k1, k2.any, k3⟩
theorem AlW.where_c (h : AlW w P q G) {t : Tk} (ht : okT t) :
    Calls Tryd.prog 22 #[.pointer (some ⟨q, 0, none⟩), .agg #[.int .i64 t.job, .int .i64 t.ix]] w fun e w' => e = .returned (.tuple #[.int .i64 (seatA G t).set, .int .i64 (seatA G t).pos, .bool (tkA G t).isSome]) ∧ Below w.heap.size w w' := by
  obtain ⟨b1, b2, T1, T2, bl, h⟩ := h
  exact awhere_c h ht
theorem AlW.spots_c (h : AlW w P q G) {id : Int} (hid : i64 id) :
    Calls Tryd.prog 24 #[.pointer (some ⟨q, 0, none⟩), .int .i64 id] w fun e w' => ∃ v, e = .returned v ∧ OwnE encSpt 65 w' w.heap.size v (spotsOf G id) ∧ Below w.heap.size w w' := by
  obtain ⟨b1, b2, T1, T2, bl, h⟩ := h
  exact aspots_c h hid
theorem AlW.inside_c (h : AlW w P q G) (id pos : Int) (hlen : G.tasks.length ≤ 100000) :
    Calls Tryd.prog 26 #[.pointer (some ⟨q, 0, none⟩), .int .i64 id, .int .i64 pos] w fun e w' => ∃ v, e = .returned v ∧ OwnE encTk 32 w' w.heap.size v (insideA G id pos) ∧ Below w.heap.size w w' := by
  obtain ⟨b1, b2, T1, T2, bl, h⟩ := h
  exact ainside_c h id pos hlen
end
/-- The law's own book: its blocks are younger than the law. -/
structure AlL (w0 w : World) (P : Nat → Prop) (q : Nat) (G : AG) : Prop where
  book : AlW w P q G
  below : Below w0.heap.size w0 w
  low : ∀ k, P k → w0.heap.size ≤ k
section
variable {w0 w w' : World} {P : Nat → Prop} {q : Nat} {G : AG}
theorem AlL.sent {s : Nat → Addr} (h : AlL w0 w P q G) (hs : Sent s w0) : SentP s P w := SentP.of hs h.below h.low
theorem AlL.on (h : AlL w0 w P q G) (hb : Below w.heap.size w w') : AlL w0 w' P q G := ⟨h.book.on hb, h.below.trans (hb.mono h.below.size), h.low⟩
theorem AlL.step {G' : AG} (h : AlL w0 w P q G) (k : AlW w' P q G') (hc : ChP P w w') : AlL w0 w' P q G' := ⟨k, h.below.trans (hc.below h.low h.below.size), h.low⟩
theorem AlL.step' {G' : AG} {P' : Nat → Prop} (h : AlL w0 w P q G) (k : AlW w' P' q G') (hP : ∀ k, P' k → P k ∨ w.heap.size ≤ k) (hc : ChP P w w') : AlL w0 w' P' q G' :=
  ⟨k, h.below.trans (hc.below h.low h.below.size), fun i hi => by rcases hP i hi with h1 | h1; exact h.low i h1; exact Nat.le_trans h.below.size h1⟩
end
end Go.Proofs.YtfikkjdkgigikaaDoor
