/- The law's book of envelopes beside what the law keeps: blocks and rows that no call of the book turns. Conditions: the sentinels lie as the program's text lays them. -/
import Derived.Test.YtfikkjdkgigikaaDoorAlN
import Derived.Test.YtfikkjdkgigikaaDoorKd
namespace Go.Proofs.YtfikkjdkgigikaaDoor
open Go Go.RowKit Go.Maps Go.Sort

/-- K holds as long as only blocks of P turn. -/
def Keeps (P : Nat → Prop) (K : World → Prop) (w : World) : Prop := ∀ W, ChP P w W → K W
theorem Keeps.here {P : Nat → Prop} {K : World → Prop} {w : World} (h : Keeps P K w) : K w := h w (ChP.refl _ _)
theorem Keeps.chp {P Q : Nat → Prop} {K : World → Prop} {w w' : World} (h : Keeps P K w) (hc : ChP P w w') (hQ : ∀ i, Q i → P i ∨ w.heap.size ≤ i) : Keeps Q K w' := fun W hW => h W (hc.trans hW hQ)
theorem keep_block {P : Nat → Prop} {w : World} {g : Nat} {o : Obj} (h : w.heap[g]? = some o) (hp : ¬ P g) : Keeps P (fun W => W.heap[g]? = some o) w := fun _ hW => hW.row h hp
theorem keep_row {α : Type} {n : Nat} {E : EncK α n} {P : Nat → Prop} {e : TypeId} {w : World} {base : Nat} {v : Value} {L : List α} (h : OwnE E e w base v L) (hp : ∀ i, v.ownBlock = some i → ¬ P i) : Keeps P (fun W => OwnE E e W base v L) w :=
  fun _ hW => h.same fun i hi => hW.block i (h.lt i hi).2 (hp i hi)
/-- The law's book, and what is kept. -/
structure AlB (w0 w : World) (P : Nat → Prop) (q : Nat) (G : AG) (K : World → Prop) : Prop where
  l : AlL w0 w P q G
  k : Keeps P K w
section
variable {s : Nat → Addr} {w0 w w' : World} {P : Nat → Prop} {q : Nat} {G : AG} {K : World → Prop}
theorem AlB.on (h : AlB w0 w P q G K) (hb : Below w.heap.size w w') : AlB w0 w' P q G K := ⟨h.l.on hb, h.k.chp (ChP.of_below hb) fun _ h => .inl h⟩
theorem AlB.drew (h : AlB w0 w P q G K) : AlB w0 w.drew P q G K := h.on (Below.refl _ _).drew
theorem AlB.alloc (h : AlB w0 w P q G K) (o : Obj) : AlB w0 (w.alloc o) P q G K := h.on ((Below.refl _ _).alloc (Nat.le_refl _) _)
theorem AlB.step {G' : AG} (h : AlB w0 w P q G K) (k : AlW w' P q G') (hc : ChP P w w') : AlB w0 w' P q G' K := ⟨h.l.step k hc, h.k.chp hc fun _ h => .inl h⟩
theorem AlB.fresh (h : AlB w0 w P q G K) {g : Nat} (hg : w.heap.size ≤ g) : ¬ P g := fun hp => by have := h.l.book.old g hp; omega
theorem AlB.new (h : AlB w0 w P q G K) (o : Obj) : AlB w0 (w.alloc o) P q G (fun W => K W ∧ W.heap[w.heap.size]? = some o) :=
  ⟨(h.alloc o).l, fun W hW => ⟨(h.alloc o).k W hW, keep_block (heap_alloc_new w o) (h.fresh (Nat.le_refl _)) W hW⟩⟩
theorem AlB.row {α : Type} {n : Nat} {E : EncK α n} {e : TypeId} {v : Value} {L : List α} (h : AlB w0 w P q G K) (hb : Below w.heap.size w w') (ho : OwnE E e w' w.heap.size v L) : AlB w0 w' P q G (fun W => K W ∧ OwnE E e W w.heap.size v L) :=
  ⟨(h.on hb).l, fun W hW => ⟨(h.on hb).k W hW, keep_row ho (fun i hi => h.fresh (ho.lt i hi).1) W hW⟩⟩
theorem AlB.drop {K' : World → Prop} (h : AlB w0 w P q G K) (hk : ∀ W, K W → K' W) : AlB w0 w P q G K' := ⟨h.l, fun W hW => hk W (h.k W hW)⟩
theorem AlB.below (h : AlB w0 w P q G K) : Below w0.heap.size w0 w := h.l.below
theorem AlB.has (h : AlB w0 w P q G K) : K w := h.k.here
theorem AlB.sentw (h : AlB w0 w P q G K) (hs : Sent s w0) : Sent s w := hs.below h.below (Nat.le_refl _)
theorem AlB.put_c (h : AlB w0 w P q G K) (hs : Sent s w0) {t : Tk} (ht : okT t) {id : Int} (hid : i64 id) (pos : Int) (v : V4) (hlen : G.tasks.length ≤ 100000) :
    Calls Tryd.prog 20 #[.pointer (some ⟨q, 0, none⟩), .agg #[.int .i64 t.job, .int .i64 t.ix], .int .i64 id, .int .i64 pos, .agg #[.int .i64 v.a, .int .i64 v.b, .int .i64 v.c, .int .i64 v.d]] w fun e w' => e = .returned (errV s (putA G t id pos v).2) ∧ AlB w0 w' P q (putA G t id pos v).1 K :=
  (h.l.book.put_c s (h.l.sent hs) ht hid pos v hlen).mono fun _ _ ⟨k1, k2, k3⟩ => ⟨k1, h.step k2 k3⟩
theorem AlB.take_c (h : AlB w0 w P q G K) (hs : Sent s w0) {t : Tk} (ht : okT t) :
    Calls Tryd.prog 18 #[.pointer (some ⟨q, 0, none⟩), .agg #[.int .i64 t.job, .int .i64 t.ix]] w fun e w' => e = .returned (errV s (takeA G t).2) ∧ AlB w0 w' P q (takeA G t).1 K :=
  (h.l.book.take_c s (h.l.sent hs) ht).mono fun _ _ ⟨k1, k2, k3⟩ => ⟨k1, h.step k2 k3⟩
theorem AlB.raise_c (h : AlB w0 w P q G K) (hs : Sent s w0) {id : Int} (hid : i64 id) (pos : Int) :
    Calls Tryd.prog 13 #[.pointer (some ⟨q, 0, none⟩), .int .i64 id, .int .i64 pos] w fun e w' => e = .returned (errV s (turnA G id pos true).2) ∧ AlB w0 w' P q (turnA G id pos true).1 K :=
  (h.l.book.raise_c s (h.l.sent hs) hid pos).mono fun _ _ ⟨k1, k2, k3⟩ => ⟨k1, h.step k2 k3⟩
theorem AlB.close_c (h : AlB w0 w P q G K) (hs : Sent s w0) {id : Int} (hid : i64 id) :
    Calls Tryd.prog 11 #[.pointer (some ⟨q, 0, none⟩), .int .i64 id] w fun e w' => e = .returned (errV s (closeA G id).2) ∧ AlB w0 w' P q (closeA G id).1 K :=
  (h.l.book.close_c s (h.l.sent hs) hid).mono fun _ _ ⟨k1, k2, k3⟩ => ⟨k1, h.step k2 k3⟩
theorem AlB.open_c (h : AlB w0 w P q G K) (hs : Sent s w0) (id N : Int) (v : V4) :
    Calls Tryd.prog 9 #[.pointer (some ⟨q, 0, none⟩), .int .i64 id, .int .i64 N, .agg #[.int .i64 v.a, .int .i64 v.b, .int .i64 v.c, .int .i64 v.d]] w fun e w' => e = .returned (errV s (openA G id N v).2) ∧ ∃ P', AlB w0 w' P' q (openA G id N v).1 K :=
  (h.l.book.open_c s (h.l.sent hs) id N v).mono fun _ _ ⟨k1, ⟨P', k2, k4⟩, k3⟩ => ⟨k1, P', h.l.step' k2 k4 k3, h.k.chp k3 k4⟩
theorem AlB.fall_c (h : AlB w0 w P q G K) (hs : Sent s w0) {id : Int} (hid : i64 id) (pos : Int) (hlen : G.tasks.length ≤ 100000) :
    Calls Tryd.prog 16 #[.pointer (some ⟨q, 0, none⟩), .int .i64 id, .int .i64 pos] w fun e w' => ∃ v, e = .returned (.tuple #[v, errV s (turnA G id pos false).2]) ∧ AlB w0 w' P q (turnA G id pos false).1 (fun W => K W ∧ OwnE encTk 32 W w.heap.size v (if (turnA G id pos false).2 = 0 then insideA G id pos else [])) :=
  (h.l.book.fall_c s (h.l.sent hs) hid pos hlen).mono fun _ _ ⟨v, k1, k2, k3, k4⟩ => ⟨v, k1, (h.step k2 k3).l, fun W hW => ⟨(h.step k2 k3).k W hW, keep_row k4 (fun i hi => h.fresh (k4.lt i hi).1) W hW⟩⟩
theorem AlB.where_c (h : AlB w0 w P q G K) {t : Tk} (ht : okT t) :
    Calls Tryd.prog 22 #[.pointer (some ⟨q, 0, none⟩), .agg #[.int .i64 t.job, .int .i64 t.ix]] w fun e w' => e = .returned (.tuple #[.int .i64 (seatA G t).set, .int .i64 (seatA G t).pos, .bool (tkA G t).isSome]) ∧ AlB w0 w' P q G K :=
  (h.l.book.where_c ht).mono fun _ _ ⟨k1, k2⟩ => ⟨k1, h.on k2⟩
theorem AlB.spots_c (h : AlB w0 w P q G K) {id : Int} (hid : i64 id) :
    Calls Tryd.prog 24 #[.pointer (some ⟨q, 0, none⟩), .int .i64 id] w fun e w' => ∃ v, e = .returned v ∧ AlB w0 w' P q G (fun W => K W ∧ OwnE encSpt 65 W w.heap.size v (spotsOf G id)) :=
  (h.l.book.spots_c hid).mono fun _ _ ⟨v, k1, k2, k3⟩ => ⟨v, k1, h.row k3 k2⟩
theorem AlB.inside_c (h : AlB w0 w P q G K) (id pos : Int) (hlen : G.tasks.length ≤ 100000) :
    Calls Tryd.prog 26 #[.pointer (some ⟨q, 0, none⟩), .int .i64 id, .int .i64 pos] w fun e w' => ∃ v, e = .returned v ∧ AlB w0 w' P q G (fun W => K W ∧ OwnE encTk 32 W w.heap.size v (insideA G id pos)) :=
  (h.l.book.inside_c id pos hlen).mono fun _ _ ⟨v, k1, k2, k3⟩ => ⟨v, k1, h.row k3 k2⟩
theorem AlB.kind_c (h : AlB w0 w P q G K) (hs : Sent s w0) {d : Nat} (hd : d ≤ 14) :
    Calls Tryd.prog 8 #[errV s d] w fun e w' => e = .returned (.int .i64 (d : Nat)) ∧ AlB w0 w' P q G K :=
  (kind_errV s d w (h.sentw hs) hd).mono fun _ _ ⟨k1, k2⟩ => ⟨k1, h.on k2⟩
end
/-- A new book. -/
theorem alb_new (w : World) : Calls Tryd.prog 7 #[] w fun e w' => ∃ q P, e = .returned (.pointer (some ⟨q, 0, none⟩)) ∧ AlB w w' P q ⟨[], []⟩ (fun _ => True) :=
  (anew_c w).mono fun _ _w' ⟨q, k1, k2, k3⟩ => ⟨q, _, k1, ⟨k2, k3, fun _ hk => hk.1⟩, fun _ _ => trivial⟩
theorem alb_new_in {w0 w : World} (hb : Below w0.heap.size w0 w) : Calls Tryd.prog 7 #[] w fun e w' => ∃ q P, e = .returned (.pointer (some ⟨q, 0, none⟩)) ∧ AlB w0 w' P q ⟨[], []⟩ (fun _ => True) :=
  (anew_c w).mono fun _ _w' ⟨q, k1, k2, k3⟩ => ⟨q, _, k1, ⟨k2, hb.trans (k3.mono hb.size), fun _ hk => Nat.le_trans hb.size hk.1⟩, fun _ _ => trivial⟩

theorem putA_le (G : AG) (t : Tk) (id pos : Int) (v : V4) : (putA G t id pos v).2 ≤ 14 := by unfold putA; cases setA G id <;> simp only <;> (repeat' split) <;> omega
theorem openA_le (G : AG) (id n : Int) (v : V4) : (openA G id n v).2 ≤ 14 := by unfold openA; (repeat' split) <;> omega
theorem closeA_le (G : AG) (id : Int) : (closeA G id).2 ≤ 14 := by unfold closeA; (repeat' split) <;> omega
theorem turnA_le (G : AG) (id pos : Int) (b : Bool) : (turnA G id pos b).2 ≤ 14 := by unfold turnA; cases setA G id <;> simp only <;> (repeat' split) <;> omega
theorem takeA_le (G : AG) (t : Tk) : (takeA G t).2 ≤ 14 := by unfold takeA; split <;> omega
set_option maxRecDepth 100000 in
set_option maxHeartbeats 1600000 in
/-- The law's own comparison of rows of tasks. -/
theorem same_c {w : World} {b b' na nb ca cb : Nat} {A B : Option Addr} {e e' : TypeId} {L M : List Tk} (h : OwnE encTk e w b (.slice A na ca) L) (k : OwnE encTk e' w b' (.slice B nb cb) M) (hna : L.length = na) (hnb : M.length = nb) (hn : na ≤ 100000) :
    Calls Tryd.prog 17 #[.slice A na ca, .slice B nb cb] w fun e w' => e = .returned (.bool (decide (L = M))) ∧ Below w.heap.size w w' := by
  by_cases hl : na = nb
  · subst hl
    have hE := eqTk
    have HL := Lib.hid h; have HM := Lib.hid k
    have n1 : (na != na) = false := by simp
    have HNA := Lib.hid hna; have HNB := Lib.hid hnb
    clear h k hna hnb
    go_enter Tryd.func17, Tryd.ntmps17
    go_wp2_with fail
    go_loopw [5] (fun I wr => ∃ j : Nat, j ≤ na ∧ I = .int .i64 (j : Int) ∧ L.take j = M.take j ∧ Below w.heap.size w wr) (fun I _ => na - natOf I)
    case atStart => exact ⟨0, Nat.zero_le _, rfl, rfl, Below.refl _ _⟩
    case round =>
      obtain ⟨j, hj, rfl, heq, hb⟩ := hrel
      have HEQ := Lib.hid heq; have HB := Lib.hid hb
      by_cases hjn : j < na
      · obtain ⟨x, hx⟩ : ∃ x, L[j]? = some x := ⟨_, List.getElem?_eq_getElem (by rw [HNA.out]; exact hjn)⟩
        obtain ⟨y, hy⟩ : ∃ y, M[j]? = some y := ⟨_, List.getElem?_eq_getElem (by rw [HNB.out]; exact hjn)⟩
        obtain ⟨ad, g, hAd, hadd, _, _, _, hcc⟩ := (HL.out.on hb).at hx
        obtain ⟨bd, g2, hBd, hbdd, _, _, _, hdd⟩ := (HM.out.on hb).at hy
        subst hAd; subst hBd
        have a0 := hcc 0 _ rfl
        have a1 := hcc 1 _ rfl
        have d0 := hdd 0 _ rfl
        have d1 := hdd 1 _ rfl
        rw [Nat.add_zero] at a0 d0
        have j0 : (0 : Int) ≤ (j : Int) := by omega
        have j1 : (j : Int) < (na : Int) := by omega
        have hw1 : wrap64 ((j : Int) + 1) = ((j + 1 : Nat) : Int) := by unfold wrap64; omega
        have HX := Lib.hid hx; have HY := Lib.hid hy
        have hE' := fun W => hE x y W
        by_cases hxy : x = y
        · have e1 : decide (x = y) = true := decide_eq_true hxy
          rw [e1] at hE'
          have HXY := Lib.hid hxy
          clear hcc hdd hE heq hb hx hy hxy e1
          go_upto_region 6 with fail
          go_quiet (fail)
          go_wp2_with fail
          go_roundw
          case rel => exact ⟨j + 1, hjn, by rw [← hw1]; first | rfl | (congr 1; omega), by rw [List.take_add_one, List.take_add_one, HEQ.out, HX.out, HY.out, HXY.out], below_drewN HB.out _⟩
          case measure => simp [natOf]; omega
        · have e1 : decide (x = y) = false := decide_eq_false hxy
          rw [e1] at hE'
          have HXY := Lib.hid hxy
          clear hcc hdd hE heq hb hx hy hxy e1
          go_upto_region 6 with fail
          go_quiet (fail)
          go_wp2_with fail
          go_ret
          have hd : decide (L = M) = false := decide_eq_false fun e => by
            have := HX.out
            rw [e, HY.out] at this
            exact HXY.out (Option.some.inj this).symm
          refine ⟨?_, below_drewN HB.out _⟩
          rw [hd]; rfl
      · obtain rfl : j = na := by omega
        have hd : decide (L = M) = true := by
          rw [decide_eq_true_iff]
          have := HEQ.out
          rwa [List.take_of_length_le (by rw [HNA.out]; exact Nat.le_refl _), List.take_of_length_le (by rw [HNB.out]; exact Nat.le_refl _)] at this
        have HD := Lib.hid hd
        clear heq hb hE hd
        go_wp2_with fail
        go_ret
        refine ⟨?_, HB.out⟩
        rw [HD.out]; rfl
  · have n1 : ((na : Int) != (nb : Int)) = true := by simp; omega
    have hne : decide (L = M) = false := decide_eq_false fun e => hl (by rw [← hna, ← hnb, e])
    rw [hne]
    clear h k hl hna hnb
    go_enter Tryd.func17, Tryd.ntmps17
    go_wp2_with fail
    go_ret
    exact ⟨rfl, Below.refl _ _⟩
end Go.Proofs.YtfikkjdkgigikaaDoor
