/- The law's table of jobs beside what the law keeps: blocks and rows that no call of the table turns. Conditions: the sentinels lie as the program's text lays them. -/
import Derived.Test.YtbfbhlpibclccaaDoorJbW
import Derived.Test.YtbfbhlpibclccaaDoorJbU
import Derived.Test.YtbfbhlpibclccaaDoorKdJ
namespace Go.Proofs.YtbfbhlpibclccaaDoor
open Go Go.RowKit Go.Maps Go.Sort

/-- K holds as long as only blocks of P turn. -/
def Keeps (P : Nat → Prop) (K : World → Prop) (w : World) : Prop := ∀ W, ChP P w W → K W
theorem Keeps.here {P : Nat → Prop} {K : World → Prop} {w : World} (h : Keeps P K w) : K w := h w (ChP.refl _ _)
theorem Keeps.chp {P Q : Nat → Prop} {K : World → Prop} {w w' : World} (h : Keeps P K w) (hc : ChP P w w') (hQ : ∀ i, Q i → P i ∨ w.heap.size ≤ i) : Keeps Q K w' := fun W hW => h W (hc.trans hW hQ)
theorem keep_block {P : Nat → Prop} {w : World} {g : Nat} {o : Obj} (h : w.heap[g]? = some o) (hp : ¬ P g) : Keeps P (fun W => W.heap[g]? = some o) w := fun _ hW => hW.row h hp
theorem keep_row {α : Type} {n : Nat} {E : EncK α n} {P : Nat → Prop} {e : TypeId} {w : World} {base : Nat} {v : Value} {L : List α} (h : OwnE E e w base v L) (hp : ∀ i, v.ownBlock = some i → ¬ P i) : Keeps P (fun W => OwnE E e W base v L) w :=
  fun _ hW => h.same fun i hi => hW.block i (h.lt i hi).2 (hp i hi)
/-- The law's table q has L, and K is kept. -/
structure JbK (w0 w : World) (P : Nat → Prop) (q : Nat) (L : List JE) (K : World → Prop) : Prop where
  book : JbW w P q L
  below : Below w0.heap.size w0 w
  low : ∀ k, P k → w0.heap.size ≤ k
  k : Keeps P K w
def JX (w0 w : World) (q : Nat) (L : List JE) (K : World → Prop) : Prop := ∃ P, JbK w0 w P q L K
section
variable {s : Nat → Addr} {w0 w w' : World} {P P' : Nat → Prop} {q : Nat} {L L' : List JE} {K : World → Prop}
theorem JbK.step (h : JbK w0 w P q L K) (k : JbW w' P' q L') (hP : ∀ k, P' k → P k ∨ w.heap.size ≤ k) (hc : ChP P w w') : JbK w0 w' P' q L' K :=
  ⟨k, h.below.trans (hc.below h.low h.below.size), fun i hi => by rcases hP i hi with h1 | h1; exact h.low i h1; exact Nat.le_trans h.below.size h1, h.k.chp hc hP⟩
theorem JX.on (h : JX w0 w q L K) (hb : Below w.heap.size w w') : JX w0 w' q L K := by
  obtain ⟨P, h⟩ := h
  exact ⟨P, h.book.on hb, h.below.trans (hb.mono h.below.size), h.low, h.k.chp (ChP.of_below hb) fun _ h => .inl h⟩
theorem JX.drew (h : JX w0 w q L K) : JX w0 w.drew q L K := h.on (Below.refl _ _).drew
theorem JX.drop {K' : World → Prop} (h : JX w0 w q L K) (hk : ∀ W, K W → K' W) : JX w0 w q L K' := by
  obtain ⟨P, h⟩ := h
  exact ⟨P, h.book, h.below, h.low, fun W hW => hk W (h.k W hW)⟩
theorem JX.has (h : JX w0 w q L K) : K w := by obtain ⟨P, h⟩ := h; exact h.k.here
theorem JX.below (h : JX w0 w q L K) : Below w0.heap.size w0 w := by obtain ⟨P, h⟩ := h; exact h.below
theorem JX.sentw (h : JX w0 w q L K) (hs : Sent s w0) : Sent s w := hs.below h.below (Nat.le_refl _)
theorem JX.good (h : JX w0 w q L K) : GJ L := by obtain ⟨P, h⟩ := h; exact h.book.good
theorem JbK.sent (h : JbK w0 w P q L K) (hs : Sent s w0) : SentP s P w := SentP.of hs h.below h.low
theorem JbK.fresh (h : JbK w0 w P q L K) {g : Nat} (hg : w.heap.size ≤ g) : ¬ P g := fun hp => by have := h.book.old g hp; omega
theorem JX.new (h : JX w0 w q L K) (o : Obj) : JX w0 (w.alloc o) q L (fun W => K W ∧ W.heap[w.heap.size]? = some o) := by
  obtain ⟨P, h⟩ := h
  have hb : Below w.heap.size w (w.alloc o) := (Below.refl _ _).alloc (Nat.le_refl _) o
  exact ⟨P, h.book.on hb, h.below.trans (hb.mono h.below.size), h.low, fun W hW => ⟨h.k.chp (ChP.of_below hb) (fun _ h => .inl h) W hW, keep_block (heap_alloc_new w o) (h.fresh (Nat.le_refl _)) W hW⟩⟩
theorem JX.row {α : Type} {n : Nat} {E : EncK α n} {e : TypeId} {v : Value} {M : List α} (h : JX w0 w q L K) (hb : Below w.heap.size w w') (ho : OwnE E e w' w.heap.size v M) : JX w0 w' q L (fun W => K W ∧ OwnE E e W w.heap.size v M) := by
  obtain ⟨P, h⟩ := h
  exact ⟨P, h.book.on hb, h.below.trans (hb.mono h.below.size), h.low, fun W hW => ⟨h.k.chp (ChP.of_below hb) (fun _ h => .inl h) W hW, keep_row ho (fun i hi => h.fresh (ho.lt i hi).1) W hW⟩⟩
theorem JX.add_c (h : JX w0 w q L K) (hs : Sent s w0) (j : JR) :
    Calls Tryd.prog 14 #[.pointer (some ⟨q, 0, none⟩), .agg #[.int .i64 j.id, .int .i64 j.tenant, .int .i64 j.cell, .int .i64 j.band, .int .i64 j.tasks, .int .i64 j.need.a, .int .i64 j.need.b, .int .i64 j.need.c, .int .i64 j.need.d, .int .i64 j.first, .int .i64 j.windows, .int .i64 j.budget, .bool j.env, .int .i64 j.set]] w fun r w' => r = .returned (errV s (addJ L j).2) ∧ JX w0 w' q (addJ L j).1 K := by
  obtain ⟨P, h⟩ := h
  exact (h.book.add_c s (h.sent hs) j).mono fun _ _ ⟨k1, ⟨P', k2, k4⟩, k3⟩ => ⟨k1, P', h.step k2 k4 k3⟩
theorem JX.drop_c (h : JX w0 w q L K) (hs : Sent s w0) {id : Int} (hid : i64 id) :
    Calls Tryd.prog 9 #[.pointer (some ⟨q, 0, none⟩), .int .i64 id] w fun r w' => r = .returned (errV s (dropJ L id).2) ∧ JX w0 w' q (dropJ L id).1 K := by
  obtain ⟨P, h⟩ := h
  exact (h.book.drop_c s (h.sent hs) hid).mono fun _ _ ⟨k1, k2, k3⟩ => ⟨k1, P, h.step k2 (fun _ h => .inl h) k3⟩
theorem JX.put_c (h : JX w0 w q L K) (hs : Sent s w0) {t : Tk} (ht : i64 t.job) (p : Int) :
    Calls Tryd.prog 11 #[.pointer (some ⟨q, 0, none⟩), .agg #[.int .i64 t.job, .int .i64 t.ix], .int .i64 p] w fun r w' => r = .returned (errV s (putJ L t p).2) ∧ JX w0 w' q (putJ L t p).1 K := by
  obtain ⟨P, h⟩ := h
  exact (h.book.put_c s (h.sent hs) ht p).mono fun _ _ ⟨k1, k2, k3⟩ => ⟨k1, P, h.step k2 (fun _ h => .inl h) k3⟩
theorem JX.wait_c (h : JX w0 w q L K) (hs : Sent s w0) {t : Tk} (ht : i64 t.job) :
    Calls Tryd.prog 13 #[.pointer (some ⟨q, 0, none⟩), .agg #[.int .i64 t.job, .int .i64 t.ix]] w fun r w' => r = .returned (errV s (waitJ L t).2) ∧ JX w0 w' q (waitJ L t).1 K := by
  obtain ⟨P, h⟩ := h
  exact (h.book.wait_c s (h.sent hs) ht).mono fun _ _ ⟨k1, k2, k3⟩ => ⟨k1, P, h.step k2 (fun _ h => .inl h) k3⟩
theorem JX.where_c (h : JX w0 w q L K) (hs : Sent s w0) {t : Tk} (ht : i64 t.job) :
    Calls Tryd.prog 24 #[.pointer (some ⟨q, 0, none⟩), .agg #[.int .i64 t.job, .int .i64 t.ix]] w fun r w' => r = .returned (.int .i64 (whereJ L t)) ∧ JX w0 w' q L K := by
  have h0 := h
  obtain ⟨P, h⟩ := h
  exact (h.book.where_c s (h.sent hs) ht).mono fun _ _ ⟨k1, k2⟩ => ⟨k1, h0.on k2⟩
theorem JX.of_c (h : JX w0 w q L K) {id : Int} (hid : i64 id) :
    Calls Tryd.prog 19 #[.pointer (some ⟨q, 0, none⟩), .int .i64 id] w fun r w' => r = .returned (.tuple #[.agg #[.int .i64 ((ofJ L id)).id, .int .i64 ((ofJ L id)).tenant, .int .i64 ((ofJ L id)).cell, .int .i64 ((ofJ L id)).band, .int .i64 ((ofJ L id)).tasks, .int .i64 ((ofJ L id)).need.a, .int .i64 ((ofJ L id)).need.b, .int .i64 ((ofJ L id)).need.c, .int .i64 ((ofJ L id)).need.d, .int .i64 ((ofJ L id)).first, .int .i64 ((ofJ L id)).windows, .int .i64 ((ofJ L id)).budget, .bool ((ofJ L id)).env, .int .i64 ((ofJ L id)).set], .bool (findJ L id).isSome]) ∧ JX w0 w' q L K := by
  have h0 := h
  obtain ⟨P, h⟩ := h
  exact (h.book.of_c hid).mono fun _ _ ⟨k1, k2⟩ => ⟨k1, h0.on k2⟩
theorem JX.waiting_c (h : JX w0 w q L K) :
    Calls Tryd.prog 27 #[.pointer (some ⟨q, 0, none⟩)] w fun r w' => ∃ A c, r = .returned (.slice A (tasksJ selW L).length c) ∧ JX w0 w' q L (fun W => K W ∧ OwnE encTk 35 W w.heap.size (.slice A (tasksJ selW L).length c) (tasksJ selW L)) := by
  have h0 := h
  obtain ⟨P, h⟩ := h
  refine h.book.waiting_c.mono fun _ _ ⟨v, k1, k2, k3⟩ => ?_
  obtain ⟨A, c, rfl⟩ := k2.form
  exact ⟨A, c, k1, h0.row k3 k2⟩
theorem JX.at_c (h : JX w0 w q L K) {p : Int} (hp : 0 ≤ p) :
    Calls Tryd.prog 29 #[.pointer (some ⟨q, 0, none⟩), .int .i64 p] w fun r w' => ∃ A c, r = .returned (.slice A (tasksJ (selA p) L).length c) ∧ JX w0 w' q L (fun W => K W ∧ OwnE encTk 35 W w.heap.size (.slice A (tasksJ (selA p) L).length c) (tasksJ (selA p) L)) := by
  have h0 := h
  obtain ⟨P, h⟩ := h
  refine (h.book.at_c hp).mono fun _ _ ⟨v, k1, k2, k3⟩ => ?_
  obtain ⟨A, c, rfl⟩ := k2.form
  exact ⟨A, c, k1, h0.row k3 k2⟩
theorem JX.jobs_c (h : JX w0 w q L K) :
    Calls Tryd.prog 30 #[.pointer (some ⟨q, 0, none⟩)] w fun r w' => ∃ A c, r = .returned (.slice A L.length c) ∧ JX w0 w' q L (fun W => K W ∧ OwnE encJR 33 W w.heap.size (.slice A L.length c) (L.map (·.job))) := by
  have h0 := h
  obtain ⟨P, h⟩ := h
  refine h.book.jobs_c.mono fun _ _ ⟨v, k1, k2, k3⟩ => ?_
  obtain ⟨A, c, rfl⟩ := k2.form
  rw [List.length_map] at k1 k2
  exact ⟨A, c, k1, h0.row k3 k2⟩
theorem JX.kind_c (h : JX w0 w q L K) (hs : Sent s w0) {d : Nat} (hd : d ≤ 14) :
    Calls Tryd.prog 8 #[errV s d] w fun r w' => r = .returned (.int .i64 (d : Nat)) ∧ JX w0 w' q L K :=
  (kind_errV s d w (h.sentw hs) hd).mono fun _ _ ⟨k1, k2⟩ => ⟨k1, h.on k2⟩
end
/-- A new table. -/
theorem jx_new {w0 w : World} (hb : Below w0.heap.size w0 w) : Calls Tryd.prog 7 #[] w fun e w' => ∃ q, e = .returned (.pointer (some ⟨q, 0, none⟩)) ∧ JX w0 w' q [] (fun _ => True) :=
  (jnew_c w).mono fun _ _w' ⟨q, k1, k2, k3⟩ => ⟨q, k1, _, k2, hb.trans (k3.mono hb.size), fun _ hk => Nat.le_trans hb.size hk.1, fun _ _ => trivial⟩
theorem putJ_le (L : List JE) (t : Tk) (p : Int) : (putJ L t p).2 ≤ 14 := by unfold putJ; cases findJ L t.job <;> simp only <;> (repeat' split) <;> omega
theorem waitJ_le (L : List JE) (t : Tk) : (waitJ L t).2 ≤ 14 := by unfold waitJ; cases findJ L t.job <;> simp only <;> (repeat' split) <;> omega
theorem addJ_le (L : List JE) (j : JR) : (addJ L j).2 ≤ 14 := by unfold addJ; (repeat' split) <;> omega
theorem dropJ_le (L : List JE) (id : Int) : (dropJ L id).2 ≤ 14 := by unfold dropJ; split <;> omega
set_option maxRecDepth 100000 in
set_option maxHeartbeats 1600000 in
/-- The law's own comparison of rows of tasks. -/
theorem same_c {w : World} {b b' na nb ca cb : Nat} {A B : Option Addr} {e e' : TypeId} {L M : List Tk} (h : OwnE encTk e w b (.slice A na ca) L) (k : OwnE encTk e' w b' (.slice B nb cb) M) (hna : L.length = na) (hnb : M.length = nb) (hn : na ≤ 100000) :
    Calls Tryd.prog 26 #[.slice A na ca, .slice B nb cb] w fun e w' => e = .returned (.bool (decide (L = M))) ∧ Below w.heap.size w w' := by
  by_cases hl : na = nb
  · subst hl
    have hE := eqTk
    have HL := Lib.hid h; have HM := Lib.hid k
    have n1 : (na != na) = false := by simp
    have HNA := Lib.hid hna; have HNB := Lib.hid hnb
    clear h k hna hnb
    go_enter Tryd.func26, Tryd.ntmps26
    go_wp2_with fail
    go_loopw [5] (fun I wr => ∃ j : Nat, j ≤ na ∧ I = .int .i64 (j : Int) ∧ L.take j = M.take j ∧ Below w.heap.size w wr) (fun I _ => na - natJ I)
    case atStart => exact ⟨0, Nat.zero_le _, rfl, rfl, Below.refl _ _⟩
    case round =>
      obtain ⟨j, hj, rfl, heq, hb⟩ := hrel
      have HEQ := Lib.hid heq; have HB := Lib.hid hb
      by_cases hjn : j < na
      · obtain ⟨x, hx⟩ : ∃ x, L[j]? = some x := ⟨_, List.getElem?_eq_getElem (by rw [HNA.out]; exact hjn)⟩
        obtain ⟨y, hy⟩ : ∃ y, M[j]? = some y := ⟨_, List.getElem?_eq_getElem (by rw [HNB.out]; exact hjn)⟩
        obtain ⟨ad, g, hAd, hadd, _, _, _, hcc⟩ := (HL.out.on hb).at hx
        obtain ⟨bd, g2, hBd, hbdd, _, _, _, hdd⟩ := (HM.out.on hb).at hy
        subst hAd; subst hBd
        have a0 := hcc 0 _ rfl
        have a1 := hcc 1 _ rfl
        have d0 := hdd 0 _ rfl
        have d1 := hdd 1 _ rfl
        rw [Nat.add_zero] at a0 d0
        have j0 : (0 : Int) ≤ (j : Int) := by omega
        have j1 : (j : Int) < (na : Int) := by omega
        have hw1 : wrap64 ((j : Int) + 1) = ((j + 1 : Nat) : Int) := by unfold wrap64; omega
        have HX := Lib.hid hx; have HY := Lib.hid hy
        have hE' := fun W => hE x y W
        by_cases hxy : x = y
        · have e1 : decide (x = y) = true := decide_eq_true hxy
          rw [e1] at hE'
          have HXY := Lib.hid hxy
          clear hcc hdd hE heq hb hx hy hxy e1
          go_upto_region 6 with fail
          go_quiet (fail)
          go_wp2_with fail
          go_roundw
          case rel => exact ⟨j + 1, hjn, by rw [← hw1]; first | rfl | (congr 1; omega), by rw [List.take_add_one, List.take_add_one, HEQ.out, HX.out, HY.out, HXY.out], below_drewN HB.out _⟩
          case measure => simp [natJ]; omega
        · have e1 : decide (x = y) = false := decide_eq_false hxy
          rw [e1] at hE'
          have HXY := Lib.hid hxy
          clear hcc hdd hE heq hb hx hy hxy e1
          go_upto_region 6 with fail
          go_quiet (fail)
          go_wp2_with fail
          go_ret
          have hd : decide (L = M) = false := decide_eq_false fun e => by
            have := HX.out
            rw [e, HY.out] at this
            exact HXY.out (Option.some.inj this).symm
          refine ⟨?_, below_drewN HB.out _⟩
          rw [hd]; rfl
      · obtain rfl : j = na := by omega
        have hd : decide (L = M) = true := by
          rw [decide_eq_true_iff]
          have := HEQ.out
          rwa [List.take_of_length_le (by rw [HNA.out]; exact Nat.le_refl _), List.take_of_length_le (by rw [HNB.out]; exact Nat.le_refl _)] at this
        have HD := Lib.hid hd
        clear heq hb hE hd
        go_wp2_with fail
        go_ret
        refine ⟨?_, HB.out⟩
        rw [HD.out]; rfl
  · have n1 : ((na : Int) != (nb : Int)) = true := by simp; omega
    have hne : decide (L = M) = false := decide_eq_false fun e => hl (by rw [← hna, ← hnb, e])
    rw [hne]
    clear h k hl hna hnb
    go_enter Tryd.func26, Tryd.ntmps26
    go_wp2_with fail
    go_ret
    exact ⟨rfl, Below.refl _ _⟩
end Go.Proofs.YtbfbhlpibclccaaDoor
