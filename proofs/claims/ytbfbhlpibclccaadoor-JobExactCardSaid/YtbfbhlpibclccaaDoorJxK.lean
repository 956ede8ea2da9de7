/- Both tables of the law, the program's and the reference's, beside what the law keeps: what each call answers and makes of them. Condition: the sentinels lie as the program's text lays them. -/
import Derived.Test.YtbfbhlpibclccaaDoorJxH
import Derived.Test.YtbfbhlpibclccaaDoorJxB
namespace Go.Proofs.YtbfbhlpibclccaaDoor
open Go Go.RowKit Go.Maps Go.Sort

theorem ChP.wider {P Q : Nat → Prop} {a b : World} (h : ChP P a b) (hq : ∀ k, P k → Q k) : ChP Q a b := ⟨h.os, h.tape, h.output, h.size, fun k hk hn => h.block k hk fun hp => hn (hq k hp)⟩
/-- The reference's table, its blocks by a predicate. -/
def RjW (w : World) (Q : Nat → Prop) (u : Nat) (M : List JE) : Prop := ∃ v, RjA w u v M ∧ (∀ k, RjQ u v k → Q k) ∧ ∀ k, Q k → k < w.heap.size
/-- What a method makes of it. -/
def RjTh (w w' : World) (Q : Nat → Prop) (u : Nat) (M' : List JE) : Prop := ∃ Q', RjW w' Q' u M' ∧ (∀ k, Q' k → Q k ∨ w.heap.size ≤ k) ∧ ChP Q w w'
section
variable {s : Nat → Addr} {w0 w w' : World} {P Q P' : Nat → Prop} {q u : Nat} {L M L' M' : List JE} {K : World → Prop}
theorem RjW.good (h : RjW w Q u M) : GJ M := by obtain ⟨_, k, _⟩ := h; exact k.good
theorem RjW.old (h : RjW w Q u M) : ∀ k, Q k → k < w.heap.size := by obtain ⟨_, _, _, k⟩ := h; exact k
theorem RjW.far {R : Nat → Prop} (h : RjW w Q u M) (hc : ChP R w w') (hR : ∀ k, Q k → ¬ R k) : RjW w' Q u M := by
  obtain ⟨v, h, hQ, hO⟩ := h
  exact ⟨v, h.same fun k hk => hc.block k (h.old k hk) (hR k (hQ k hk)), hQ, fun k hk => Nat.lt_of_lt_of_le (hO k hk) hc.size⟩
theorem RjW.on (h : RjW w Q u M) (hb : Below w.heap.size w w') : RjW w' Q u M := h.far (ChP.of_below (P := fun _ => False) hb) fun _ _ h => h
theorem RjTh.turn {v : Value} (_h : RjA w u v M) (hQ : ∀ k, RjQ u v k → Q k) (hO : ∀ k, Q k → k < w.heap.size) (k : RjThen w w' u v M') : RjTh w w' Q u M' := by
  obtain ⟨v', k', n1, hc⟩ := k
  refine ⟨fun k => Q k ∨ (w.heap.size ≤ k ∧ k < w'.heap.size), ⟨v', k', fun k hk => ?_, fun k hk => ?_⟩, fun k hk => ?_, hc.wider hQ⟩
  · have hlt := k'.old k hk
    rcases hk with hk | hk
    · exact .inl (hQ k (.inl hk))
    · rcases n1 k hk with h1 | h1
      · exact .inl (hQ k (.inr h1))
      · exact .inr ⟨h1, hlt⟩
  · rcases hk with hk | hk
    · exact Nat.lt_of_lt_of_le (hO k hk) hc.size
    · exact hk.2
  · rcases hk with hk | hk
    · exact .inl hk
    · exact .inr hk.1
structure JbB (w0 w : World) (P Q : Nat → Prop) (q u : Nat) (L M : List JE) (K : World → Prop) : Prop where
  l : JbW w P q L
  below : Below w0.heap.size w0 w
  lowP : ∀ k, P k → w0.heap.size ≤ k
  r : RjW w Q u M
  far : ∀ k, P k → ¬ Q k
  low : ∀ k, Q k → w0.heap.size ≤ k
  k : Keeps (fun k => P k ∨ Q k) K w
/-- The program's table q has L, the reference's u has M, and K is kept. -/
def JY (w0 w : World) (q u : Nat) (L M : List JE) (K : World → Prop) : Prop := ∃ P Q, JbB w0 w P Q q u L M K
theorem JbB.sent (h : JbB w0 w P Q q u L M K) (hs : Sent s w0) : SentP s P w := SentP.of hs h.below h.lowP
theorem JbB.stepP (h : JbB w0 w P Q q u L M K) (k : JbW w' P' q L') (hP : ∀ k, P' k → P k ∨ w.heap.size ≤ k) (hc : ChP P w w') : JbB w0 w' P' Q q u L' M K := by
  refine ⟨k, h.below.trans (hc.below h.lowP h.below.size), fun i hi => ?_, h.r.far hc fun k hq hp => h.far k hp hq, fun k hk hq => ?_, h.low, h.k.chp (hc.wider fun _ h => .inl h) fun i hi => ?_⟩
  · rcases hP i hi with h1 | h1
    · exact h.lowP i h1
    · exact Nat.le_trans h.below.size h1
  · rcases hP k hk with h1 | h1
    · exact h.far k h1 hq
    · have := h.r.old k hq; omega
  · rcases hi with hi | hi
    · rcases hP i hi with h1 | h1
      · exact .inl (.inl h1)
      · exact .inr h1
    · exact .inl (.inr hi)
theorem JbB.stepR (h : JbB w0 w P Q q u L M K) (k : RjTh w w' Q u M') : ∃ Q', JbB w0 w' P Q' q u L M' K := by
  obtain ⟨Q', kr, kq, hc⟩ := k
  refine ⟨Q', h.l.far hc h.far, h.below.trans (hc.below h.low h.below.size), h.lowP, kr, fun k hp hq => ?_, fun k hk => ?_, h.k.chp (hc.wider fun _ h => .inr h) fun i hi => ?_⟩
  · rcases kq k hq with h1 | h1
    · exact h.far k hp h1
    · have := h.l.old k hp; omega
  · rcases kq k hk with h1 | h1
    · exact h.low k h1
    · exact Nat.le_trans h.below.size h1
  · rcases hi with hi | hi
    · exact .inl (.inl hi)
    · rcases kq i hi with h1 | h1
      · exact .inl (.inr h1)
      · exact .inr h1
theorem JY.on (h : JY w0 w q u L M K) (hb : Below w.heap.size w w') : JY w0 w' q u L M K := by
  obtain ⟨P, Q, h⟩ := h
  exact ⟨P, Q, h.l.on hb, h.below.trans (hb.mono h.below.size), h.lowP, h.r.on hb, h.far, h.low, h.k.chp (ChP.of_below hb) fun _ h => .inl h⟩
theorem JY.drew (h : JY w0 w q u L M K) : JY w0 w.drew q u L M K := h.on (Below.refl _ _).drew
theorem JY.drewN (h : JY w0 w q u L M K) (n : Nat) : JY w0 (w.drewN n) q u L M K := h.on (below_drewN (Below.refl _ _) n)
theorem JY.drop {K' : World → Prop} (h : JY w0 w q u L M K) (hk : ∀ W, K W → K' W) : JY w0 w q u L M K' := by
  obtain ⟨P, Q, h⟩ := h
  exact ⟨P, Q, h.l, h.below, h.lowP, h.r, h.far, h.low, fun W hW => hk W (h.k W hW)⟩
theorem JY.has (h : JY w0 w q u L M K) : K w := by obtain ⟨P, Q, h⟩ := h; exact h.k.here
theorem JY.below (h : JY w0 w q u L M K) : Below w0.heap.size w0 w := by obtain ⟨P, Q, h⟩ := h; exact h.below
theorem JY.sentw (h : JY w0 w q u L M K) (hs : Sent s w0) : Sent s w := hs.below h.below (Nat.le_refl _)
theorem JY.goodL (h : JY w0 w q u L M K) : GJ L := by obtain ⟨P, Q, h⟩ := h; exact h.l.good
theorem JY.goodM (h : JY w0 w q u L M K) : GJ M := by obtain ⟨P, Q, h⟩ := h; exact h.r.good
theorem JY.ref (h : JY w0 w q u L M K) : ∃ v, RjA w u v M := by obtain ⟨P, Q, h⟩ := h; obtain ⟨v, k, _⟩ := h.r; exact ⟨v, k⟩
theorem JbB.fresh (h : JbB w0 w P Q q u L M K) {g : Nat} (hg : w.heap.size ≤ g) : ¬ (P g ∨ Q g) := fun hp => by
  rcases hp with hp | hp
  · have := h.l.old g hp; omega
  · have := h.r.old g hp; omega
theorem JY.new (h : JY w0 w q u L M K) (o : Obj) : JY w0 (w.alloc o) q u L M (fun W => K W ∧ W.heap[w.heap.size]? = some o) := by
  obtain ⟨P, Q, h⟩ := h
  have hb : Below w.heap.size w (w.alloc o) := (Below.refl _ _).alloc (Nat.le_refl _) o
  exact ⟨P, Q, h.l.on hb, h.below.trans (hb.mono h.below.size), h.lowP, h.r.on hb, h.far, h.low, fun W hW =>
    ⟨h.k.chp (ChP.of_below hb) (fun _ h => .inl h) W hW, keep_block (heap_alloc_new w o) (h.fresh (Nat.le_refl _)) W hW⟩⟩
theorem JY.row {α : Type} {n : Nat} {E : EncK α n} {e : TypeId} {v : Value} {X : List α} (h : JY w0 w q u L M K) (hb : Below w.heap.size w w') (ho : OwnE E e w' w.heap.size v X) : JY w0 w' q u L M (fun W => K W ∧ OwnE E e W w.heap.size v X) := by
  obtain ⟨P, Q, h⟩ := h
  exact ⟨P, Q, h.l.on hb, h.below.trans (hb.mono h.below.size), h.lowP, h.r.on hb, h.far, h.low, fun W hW => ⟨h.k.chp (ChP.of_below hb) (fun _ h => .inl h) W hW, keep_row ho (fun i hi => h.fresh (ho.lt i hi).1) W hW⟩⟩
/-- The law's table, and the reference's beside it. -/
theorem JX.with (h : JX w0 w q L K) {v : Value} (hr : RjA w u v M) (hf : ∀ k, RjQ u v k → w0.heap.size ≤ k) (hd : ∀ P, JbK w0 w P q L K → ∀ k, P k → ¬ RjQ u v k) (hk : ∀ P, JbK w0 w P q L K → Keeps (fun k => P k ∨ RjQ u v k) K w) : JY w0 w q u L M K := by
  obtain ⟨P, h⟩ := h
  exact ⟨P, RjQ u v, h.book, h.below, h.low, ⟨v, hr, fun _ h => h, hr.old⟩, hd P h, hf, hk P h⟩
/-! ### the program's calls -/
theorem JY.add_c (h : JY w0 w q u L M K) (hs : Sent s w0) (j : JR) :
    Calls Tryd.prog 14 #[.pointer (some ⟨q, 0, none⟩), .agg #[.int .i64 j.id, .int .i64 j.tenant, .int .i64 j.cell, .int .i64 j.band, .int .i64 j.tasks, .int .i64 j.need.a, .int .i64 j.need.b, .int .i64 j.need.c, .int .i64 j.need.d, .int .i64 j.first, .int .i64 j.windows, .int .i64 j.budget, .bool j.env, .int .i64 j.set]] w fun r w' => r = .returned (errV s (addJ L j).2) ∧ JY w0 w' q u (addJ L j).1 M K := by
  obtain ⟨P, Q, h⟩ := h
  exact (h.l.add_c s (h.sent hs) j).mono fun _ _ ⟨k1, ⟨P', k2, k4⟩, k3⟩ => ⟨k1, P', Q, h.stepP k2 k4 k3⟩
theorem JY.drop_c (h : JY w0 w q u L M K) (hs : Sent s w0) {id : Int} (hid : i64 id) :
    Calls Tryd.prog 9 #[.pointer (some ⟨q, 0, none⟩), .int .i64 id] w fun r w' => r = .returned (errV s (dropJ L id).2) ∧ JY w0 w' q u (dropJ L id).1 M K := by
  obtain ⟨P, Q, h⟩ := h
  exact (h.l.drop_c s (h.sent hs) hid).mono fun _ _ ⟨k1, k2, k3⟩ => ⟨k1, P, Q, h.stepP k2 (fun _ h => .inl h) k3⟩
theorem JY.put_c (h : JY w0 w q u L M K) (hs : Sent s w0) {t : Tk} (ht : i64 t.job) (p : Int) :
    Calls Tryd.prog 11 #[.pointer (some ⟨q, 0, none⟩), .agg #[.int .i64 t.job, .int .i64 t.ix], .int .i64 p] w fun r w' => r = .returned (errV s (putJ L t p).2) ∧ JY w0 w' q u (putJ L t p).1 M K := by
  obtain ⟨P, Q, h⟩ := h
  exact (h.l.put_c s (h.sent hs) ht p).mono fun _ _ ⟨k1, k2, k3⟩ => ⟨k1, P, Q, h.stepP k2 (fun _ h => .inl h) k3⟩
theorem JY.wait_c (h : JY w0 w q u L M K) (hs : Sent s w0) {t : Tk} (ht : i64 t.job) :
    Calls Tryd.prog 13 #[.pointer (some ⟨q, 0, none⟩), .agg #[.int .i64 t.job, .int .i64 t.ix]] w fun r w' => r = .returned (errV s (waitJ L t).2) ∧ JY w0 w' q u (waitJ L t).1 M K := by
  obtain ⟨P, Q, h⟩ := h
  exact (h.l.wait_c s (h.sent hs) ht).mono fun _ _ ⟨k1, k2, k3⟩ => ⟨k1, P, Q, h.stepP k2 (fun _ h => .inl h) k3⟩
theorem JY.where_c (h : JY w0 w q u L M K) (hs : Sent s w0) {t : Tk} (ht : i64 t.job) :
    Calls Tryd.prog 24 #[.pointer (some ⟨q, 0, none⟩), .agg #[.int .i64 t.job, .int .i64 t.ix]] w fun r w' => r = .returned (.int .i64 (whereJ L t)) ∧ JY w0 w' q u L M K := by
  have h0 := h
  obtain ⟨P, Q, h⟩ := h
  exact (h.l.where_c s (h.sent hs) ht).mono fun _ _ ⟨k1, k2⟩ => ⟨k1, h0.on k2⟩
theorem JY.of_c (h : JY w0 w q u L M K) {id : Int} (hid : i64 id) :
    Calls Tryd.prog 19 #[.pointer (some ⟨q, 0, none⟩), .int .i64 id] w fun r w' => r = .returned (.tuple #[.agg #[.int .i64 ((ofJ L id)).id, .int .i64 ((ofJ L id)).tenant, .int .i64 ((ofJ L id)).cell, .int .i64 ((ofJ L id)).band, .int .i64 ((ofJ L id)).tasks, .int .i64 ((ofJ L id)).need.a, .int .i64 ((ofJ L id)).need.b, .int .i64 ((ofJ L id)).need.c, .int .i64 ((ofJ L id)).need.d, .int .i64 ((ofJ L id)).first, .int .i64 ((ofJ L id)).windows, .int .i64 ((ofJ L id)).budget, .bool ((ofJ L id)).env, .int .i64 ((ofJ L id)).set], .bool (findJ L id).isSome]) ∧ JY w0 w' q u L M K := by
  have h0 := h
  obtain ⟨P, Q, h⟩ := h
  exact (h.l.of_c hid).mono fun _ _ ⟨k1, k2⟩ => ⟨k1, h0.on k2⟩
theorem JY.waiting_c (h : JY w0 w q u L M K)  :
    Calls Tryd.prog 27 #[.pointer (some ⟨q, 0, none⟩)] w fun r w' => ∃ A c, r = .returned (.slice A (tasksJ selW L).length c) ∧ JY w0 w' q u L M (fun W => K W ∧ OwnE encTk 35 W w.heap.size (.slice A (tasksJ selW L).length c) (tasksJ selW L)) := by
  have h0 := h
  obtain ⟨P, Q, h⟩ := h
  refine (h.l.waiting_c).mono fun _ _ ⟨v, k1, k2, k3⟩ => ?_
  obtain ⟨A, c, rfl⟩ := k2.form
  exact ⟨A, c, k1, h0.row k3 k2⟩
theorem JY.at_c (h : JY w0 w q u L M K) {p : Int} (hp : 0 ≤ p) :
    Calls Tryd.prog 29 #[.pointer (some ⟨q, 0, none⟩), .int .i64 p] w fun r w' => ∃ A c, r = .returned (.slice A (tasksJ (selA p) L).length c) ∧ JY w0 w' q u L M (fun W => K W ∧ OwnE encTk 35 W w.heap.size (.slice A (tasksJ (selA p) L).length c) (tasksJ (selA p) L)) := by
  have h0 := h
  obtain ⟨P, Q, h⟩ := h
  refine (h.l.at_c hp).mono fun _ _ ⟨v, k1, k2, k3⟩ => ?_
  obtain ⟨A, c, rfl⟩ := k2.form
  exact ⟨A, c, k1, h0.row k3 k2⟩
theorem JY.jobs_c (h : JY w0 w q u L M K)  :
    Calls Tryd.prog 30 #[.pointer (some ⟨q, 0, none⟩)] w fun r w' => ∃ A c, r = .returned (.slice A L.length c) ∧ JY w0 w' q u L M (fun W => K W ∧ OwnE encJR 33 W w.heap.size (.slice A L.length c) (L.map (·.job))) := by
  have h0 := h
  obtain ⟨P, Q, h⟩ := h
  refine h.l.jobs_c.mono fun _ _ ⟨v, k1, k2, k3⟩ => ?_
  obtain ⟨A, c, rfl⟩ := k2.form
  rw [List.length_map] at k1 k2
  exact ⟨A, c, k1, h0.row k3 k2⟩
theorem JY.kind_c (h : JY w0 w q u L M K) (hs : Sent s w0) {d : Nat} (hd : d ≤ 14) :
    Calls Tryd.prog 8 #[errV s d] w fun r w' => r = .returned (.int .i64 (d : Nat)) ∧ JY w0 w' q u L M K :=
  (kind_errV s d w (h.sentw hs) hd).mono fun _ _ ⟨k1, k2⟩ => ⟨k1, h.on k2⟩
theorem JY.jgood_c (h : JY w0 w q u L M K) (hs : Sent s w0) (j : JR) :
    Calls Tryd.prog 21 #[.agg #[.int .i64 j.id, .int .i64 j.tenant, .int .i64 j.cell, .int .i64 j.band, .int .i64 j.tasks, .int .i64 j.need.a, .int .i64 j.need.b, .int .i64 j.need.c, .int .i64 j.need.d, .int .i64 j.first, .int .i64 j.windows, .int .i64 j.budget, .bool j.env, .int .i64 j.set]] w fun r w' => r = .returned (.bool (goodJ j)) ∧ JY w0 w' q u L M K :=
  (Go.Proofs.YtbfbhlpibclccaaDoor.jgood_c s j w (h.sentw hs)).mono fun _ _ ⟨k1, k2⟩ => ⟨k1, h.on k2⟩
theorem JY.total_c (h : JY w0 w q u L M K) (hs : Sent s w0) (j : JR) :
    Calls Tryd.prog 17 #[.agg #[.int .i64 j.id, .int .i64 j.tenant, .int .i64 j.cell, .int .i64 j.band, .int .i64 j.tasks, .int .i64 j.need.a, .int .i64 j.need.b, .int .i64 j.need.c, .int .i64 j.need.d, .int .i64 j.first, .int .i64 j.windows, .int .i64 j.budget, .bool j.env, .int .i64 j.set]] w fun r w' => r = .returned (.tuple #[.agg #[.int .i64 ((scaleR j.need j.tasks).1).a, .int .i64 ((scaleR j.need j.tasks).1).b, .int .i64 ((scaleR j.need j.tasks).1).c, .int .i64 ((scaleR j.need j.tasks).1).d], errV s (scaleR j.need j.tasks).2]) ∧ JY w0 w' q u L M K :=
  (jtotal_c s j w (h.sentw hs)).mono fun _ _ ⟨k1, k2⟩ => ⟨k1, h.on k2⟩
/-! ### the reference's calls, and the law's own -/
theorem JY.rscale_c (h : JY w0 w q u L M K) (x : V4) (n : Int) :
    Calls Tryd.prog 18 #[.agg #[.int .i64 x.a, .int .i64 x.b, .int .i64 x.c, .int .i64 x.d], .int .i64 n] w fun r w' => r = .returned (.tuple #[.agg #[.int .i64 ((scaleR x n).1).a, .int .i64 ((scaleR x n).1).b, .int .i64 ((scaleR x n).1).c, .int .i64 ((scaleR x n).1).d], .int .i64 ((scaleR x n).2 : Nat)]) ∧ JY w0 w' q u L M K :=
  (Go.Proofs.YtbfbhlpibclccaaDoor.rscale_c x n w).mono fun _ _ ⟨k1, k2⟩ => ⟨k1, h.on k2⟩
theorem JY.form_c (h : JY w0 w q u L M K) (j : JR) :
    Calls Tryd.prog 16 #[.agg #[.int .i64 j.id, .int .i64 j.tenant, .int .i64 j.cell, .int .i64 j.band, .int .i64 j.tasks, .int .i64 j.need.a, .int .i64 j.need.b, .int .i64 j.need.c, .int .i64 j.need.d, .int .i64 j.first, .int .i64 j.windows, .int .i64 j.budget, .bool j.env, .int .i64 j.set]] w fun r w' => r = .returned (.agg (formA j fun _ => 0)) ∧ JY w0 w' q u L M K :=
  (Go.Proofs.YtbfbhlpibclccaaDoor.form_c j w).mono fun _ _ ⟨k1, k2⟩ => ⟨k1, h.on k2⟩
theorem JY.alike_c (h : JY w0 w q u L M K) (e : JE) :
    Calls Tryd.prog 23 #[.agg #[.int .i64 (e.job).id, .int .i64 (e.job).tenant, .int .i64 (e.job).cell, .int .i64 (e.job).band, .int .i64 (e.job).tasks, .int .i64 (e.job).need.a, .int .i64 (e.job).need.b, .int .i64 (e.job).need.c, .int .i64 (e.job).need.d, .int .i64 (e.job).first, .int .i64 (e.job).windows, .int .i64 (e.job).budget, .bool (e.job).env, .int .i64 (e.job).set], .agg (formA e.job (plAt e))] w fun r w' => r = .returned (.bool true) ∧ JY w0 w' q u L M K :=
  (Go.Proofs.YtbfbhlpibclccaaDoor.alike_c e.job (plAt e) w).mono fun _ _ ⟨k1, k2⟩ => ⟨k1, h.on k2⟩
theorem JY.rgood_c (h : JY w0 w q u L M K) (j : JR) (p : Nat → Int) :
    Calls Tryd.prog 22 #[.agg (formA j p)] w fun r w' => r = .returned (.bool (goodJ j)) ∧ JY w0 w' q u L M K :=
  (rjgood_f j p w).mono fun _ _ ⟨k1, k2⟩ => ⟨k1, h.on k2⟩
theorem JY.rfind_c (h : JY w0 w q u L M K) (id : Int) :
    Calls Tryd.prog 20 #[.pointer (some ⟨u, 0, none⟩), .int .i64 id] w fun r w' => r = .returned (.int .i64 (posJ M id)) ∧ JY w0 w' q u L M K := by
  obtain ⟨v, hr⟩ := h.ref
  exact (rjfind_c hr id).mono fun _ _ ⟨k1, k2⟩ => ⟨k1, k2 ▸ h⟩
theorem JY.rwhere_c (h : JY w0 w q u L M K) (t : Tk) :
    Calls Tryd.prog 25 #[.pointer (some ⟨u, 0, none⟩), .agg #[.int .i64 t.job, .int .i64 t.ix]] w fun r w' => r = .returned (.int .i64 (whereJ M t)) ∧ JY w0 w' q u L M K := by
  obtain ⟨v, hr⟩ := h.ref
  exact (rjwhere_c hr t).mono fun _ _ ⟨k1, k2⟩ => ⟨k1, h.on k2⟩
theorem JY.radd_c (h : JY w0 w q u L M K) (j : JR) (p : Nat → Int) :
    Calls Tryd.prog 15 #[.pointer (some ⟨u, 0, none⟩), .agg (formA j p)] w fun r w' => r = .returned (.int .i64 ((addJ M j).2 : Nat)) ∧ JY w0 w' q u L (addJ M j).1 K := by
  obtain ⟨P, Q, h⟩ := h
  obtain ⟨v, hr, hQ, hO⟩ := h.r
  exact (rjadd_c hr j p).mono fun _ _ ⟨k1, k2⟩ => ⟨k1, P, h.stepR (RjTh.turn hr hQ hO k2)⟩
theorem JY.rdrop_c (h : JY w0 w q u L M K) (id : Int) :
    Calls Tryd.prog 10 #[.pointer (some ⟨u, 0, none⟩), .int .i64 id] w fun r w' => r = .returned (.int .i64 ((dropJ M id).2 : Nat)) ∧ JY w0 w' q u L (dropJ M id).1 K := by
  obtain ⟨P, Q, h⟩ := h
  obtain ⟨v, hr, hQ, hO⟩ := h.r
  exact (rjdrop_c hr id).mono fun _ _ ⟨k1, k2⟩ => ⟨k1, P, h.stepR (RjTh.turn hr hQ hO k2)⟩
theorem JY.rput_c (h : JY w0 w q u L M K) (t : Tk) (p : Int) :
    Calls Tryd.prog 12 #[.pointer (some ⟨u, 0, none⟩), .agg #[.int .i64 t.job, .int .i64 t.ix], .int .i64 p, .bool false] w fun r w' => r = .returned (.int .i64 ((putJ M t p).2 : Nat)) ∧ JY w0 w' q u L (putJ M t p).1 K := by
  obtain ⟨P, Q, h⟩ := h
  obtain ⟨v, hr, hQ, hO⟩ := h.r
  rw [← moveJ_put hr.good]
  exact (rjmove_c hr t p false (fun h => by cases h)).mono fun _ _ ⟨k1, k2⟩ => ⟨k1, P, h.stepR (RjTh.turn hr hQ hO k2)⟩
theorem JY.rwait_c (h : JY w0 w q u L M K) (t : Tk) :
    Calls Tryd.prog 12 #[.pointer (some ⟨u, 0, none⟩), .agg #[.int .i64 t.job, .int .i64 t.ix], .int .i64 (-1), .bool true] w fun r w' => r = .returned (.int .i64 ((waitJ M t).2 : Nat)) ∧ JY w0 w' q u L (waitJ M t).1 K := by
  obtain ⟨P, Q, h⟩ := h
  obtain ⟨v, hr, hQ, hO⟩ := h.r
  rw [← moveJ_wait hr.good]
  exact (rjmove_c hr t (-1) true (fun _ => rfl)).mono fun _ _ ⟨k1, k2⟩ => ⟨k1, P, h.stepR (RjTh.turn hr hQ hO k2)⟩
theorem JY.rtasks_w (h : JY w0 w q u L M K)  :
    Calls Tryd.prog 28 #[.pointer (some ⟨u, 0, none⟩), .int .i64 (-1)] w fun r w' => ∃ A c, r = .returned (.slice A (tasksJ selW M).length c) ∧ JY w0 w' q u L M (fun W => K W ∧ OwnE encTk 35 W w.heap.size (.slice A (tasksJ selW M).length c) (tasksJ selW M)) := by
  obtain ⟨v, hr⟩ := h.ref
  refine (rjtasks_w hr).mono fun _ _ ⟨v, k1, k2, k3⟩ => ?_
  obtain ⟨A, c, rfl⟩ := k2.form
  exact ⟨A, c, k1, h.row k3 k2⟩
theorem JY.rtasks_a (h : JY w0 w q u L M K) {p : Int} (hp : 0 ≤ p) :
    Calls Tryd.prog 28 #[.pointer (some ⟨u, 0, none⟩), .int .i64 p] w fun r w' => ∃ A c, r = .returned (.slice A (tasksJ (selA p) M).length c) ∧ JY w0 w' q u L M (fun W => K W ∧ OwnE encTk 35 W w.heap.size (.slice A (tasksJ (selA p) M).length c) (tasksJ (selA p) M)) := by
  obtain ⟨v, hr⟩ := h.ref
  refine (rjtasks_a hr hp).mono fun _ _ ⟨v, k1, k2, k3⟩ => ?_
  obtain ⟨A, c, rfl⟩ := k2.form
  exact ⟨A, c, k1, h.row k3 k2⟩
end
end Go.Proofs.YtbfbhlpibclccaaDoor
