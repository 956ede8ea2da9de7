/- The reader of package wire as memory holds it, and the contracts of its inner functions. Conditions: the sentinels lie as the program's text lays them; the text is no longer than memory allows. -/
import Derived.Test.YtcahidhcnhgbeaaDoorWireR
import Derived.Test.YtcahidhcnhgbeaaDoorAs
import Derived.Deep.QuietTactic
namespace Go.Proofs.YtcahidhcnhgbeaaDoor
open Go Go.RowKit

/-- The state of a reader: the place, and the place of the first failure. -/
structure St where
  i : Nat
  bad : Option Nat

/-- The Fault of a reader that failed at a place. -/
def faultRow (s : Nat → Addr) (op : ByteArray) (b : Nat) : Array Value := #[.string op, .int .i64 (b : Int), .iface 104 (.pointer (some (s 1)))]
def opRead : ByteArray := ⟨#[114, 101, 97, 100]⟩
def opEnd : ByteArray := ⟨#[101, 110, 100]⟩

/-- The reader's error in memory; f is the Fault's block, the reader's own if there is none. -/
def ErrAt (s : Nat → Addr) (w : World) (q f : Nat) (ev : Value) : Option Nat → Prop
  | none => ev = .nilIface ∧ f = q
  | some b => ev = .iface 66 (.pointer (some ⟨f, 0, none⟩)) ∧ q < f ∧ w.heap[f]? = some (.cells (faultRow s opRead b) 70 (0, 0))

/-- A reader of T at block q, in the state st. -/
def InAt (s : Nat → Addr) (w : World) (q f : Nat) (T : ByteArray) (st : St) : Prop :=
  ∃ ev, w.heap[q]? = some (.cells #[.string T, .int .i64 (st.i : Int), ev] 63 (0, 0)) ∧ ErrAt s w q f ev st.bad ∧ st.i ≤ T.size ∧ (st.bad ≠ none → st.i = T.size)

theorem InAt.lt {s : Nat → Addr} {w : World} {q f : Nat} {T : ByteArray} {st : St} (h : InAt s w q f T st) : q < w.heap.size ∧ q ≤ f ∧ f < w.heap.size := by
  obtain ⟨ev, h1, h2, _⟩ := h
  have hq := (Array.getElem?_eq_some_iff.1 h1).1
  cases hb : st.bad with
  | none => rw [hb] at h2; obtain ⟨_, rfl⟩ := h2; exact ⟨hq, Nat.le_refl _, hq⟩
  | some b => rw [hb] at h2; obtain ⟨_, h3, h4⟩ := h2; exact ⟨hq, by omega, (Array.getElem?_eq_some_iff.1 h4).1⟩
theorem InAt.same {s : Nat → Addr} {w w' : World} {q f : Nat} {T : ByteArray} {st : St} (h : InAt s w q f T st) (hq : w'.heap[q]? = w.heap[q]?) (hf : w'.heap[f]? = w.heap[f]?) : InAt s w' q f T st := by
  obtain ⟨ev, h1, h2, h3⟩ := h
  refine ⟨ev, hq.trans h1, ?_, h3⟩
  cases hb : st.bad with
  | none => rw [hb] at h2; exact h2
  | some b => rw [hb] at h2; exact ⟨h2.1, h2.2.1, hf.trans h2.2.2⟩
theorem InAt.kept {s : Nat → Addr} {w w' : World} {q f p' q' : Nat} {T : ByteArray} {st : St} (h : InAt s w q f T st) (hc : Chg p' q' w w') (h1 : q ≠ p') (h2 : q ≠ q') (h3 : f ≠ p') (h4 : f ≠ q') : InAt s w' q f T st :=
  h.same (hc.block q h.lt.1 h1 h2) (hc.block f h.lt.2.2 h3 h4)
theorem InAt.below {s : Nat → Addr} {w w' : World} {q f B : Nat} {T : ByteArray} {st : St} (h : InAt s w q f T st) (hb : Below B w w') (h1 : q < B) (h2 : f < B) : InAt s w' q f T st := h.same (hb.block q h1) (hb.block f h2)
theorem InAt.alloc {s : Nat → Addr} {w : World} {q f : Nat} {T : ByteArray} {st : St} (h : InAt s w q f T st) (x : Obj) : InAt s (w.alloc x) q f T st :=
  h.same (Below.heap_alloc w x q h.lt.1) (Below.heap_alloc w x f h.lt.2.2)
theorem InAt.drewN {s : Nat → Addr} {w : World} {q f : Nat} {T : ByteArray} {st : St} (h : InAt s w q f T st) (n : Nat) : InAt s (w.drewN n) q f T st := h.same rfl rfl
theorem InAt.drew {s : Nat → Addr} {w : World} {q f : Nat} {T : ByteArray} {st : St} (h : InAt s w q f T st) : InAt s w.drew q f T st := h.same rfl rfl
theorem InAt.new (s : Nat → Addr) (w : World) (T : ByteArray) : InAt s (w.alloc (.cells #[.string T, .int .i64 0, .nilIface] 63)) w.heap.size w.heap.size T ⟨0, none⟩ :=
  ⟨_, heap_alloc_new w _, ⟨rfl, rfl⟩, Nat.zero_le _, fun h => absurd rfl h⟩

/-- The cells of a block of three. -/
theorem three_set1 {w : World} {q : Nat} {a b c x : Value} {t : TypeId} (h : w.heap[q]? = some (.cells #[a, b, c] t (0, 0))) : (w.setCell ⟨q, 1, none⟩ x).heap[q]? = some (.cells #[a, x, c] t (0, 0)) := by
  have hlt := lt_of_block h
  have h' : w.heap[q] = .cells #[a, b, c] t (0, 0) := by simpa [Array.getElem?_eq_getElem hlt] using h
  show (w.heap.modify q _)[q]? = _
  rw [Array.getElem?_modify, if_pos rfl, Array.getElem?_eq_getElem hlt, h']
  rfl
theorem three_set2 {w : World} {q : Nat} {a b c x : Value} {t : TypeId} (h : w.heap[q]? = some (.cells #[a, b, c] t (0, 0))) : (w.setCell ⟨q, 2, none⟩ x).heap[q]? = some (.cells #[a, b, x] t (0, 0)) := by
  have hlt := lt_of_block h
  have h' : w.heap[q] = .cells #[a, b, c] t (0, 0) := by simpa [Array.getElem?_eq_getElem hlt] using h
  show (w.heap.modify q _)[q]? = _
  rw [Array.getElem?_modify, if_pos rfl, Array.getElem?_eq_getElem hlt, h']
  rfl

/-- Behind a failure at a place. -/
def failS (T : ByteArray) (a : Nat) (st : St) : St := ⟨T.size, st.bad.or (some a)⟩

theorem fail_none {s : Nat → Addr} {w : World} {q : Nat} {T : ByteArray} {st : St} {a : Nat} (h1 : w.heap[q]? = some (.cells #[.string T, .int .i64 (st.i : Int), .nilIface] 63 (0, 0))) (hb : st.bad = none) :
    ∃ f', InAt s (((w.setCell ⟨q, 2, none⟩ (.iface 66 (.pointer (some ⟨w.heap.size, 0, none⟩)))).setCell ⟨q, 1, none⟩ (.int .i64 (T.size : Int))).alloc (.cells (faultRow s opRead a) 70)) q f' T (failS T a st) ∧
      Chg q q w (((w.setCell ⟨q, 2, none⟩ (.iface 66 (.pointer (some ⟨w.heap.size, 0, none⟩)))).setCell ⟨q, 1, none⟩ (.int .i64 (T.size : Int))).alloc (.cells (faultRow s opRead a) 70)) ∧ (f' = q ∨ w.heap.size ≤ f') := by
  have hq := lt_of_block h1
  have hz : ((w.setCell ⟨q, 2, none⟩ (.iface 66 (.pointer (some ⟨w.heap.size, 0, none⟩)))).setCell ⟨q, 1, none⟩ (.int .i64 (T.size : Int))).heap.size = w.heap.size := by simp [World.setCell]
  refine ⟨w.heap.size, ⟨_, (Below.heap_alloc _ _ q (by rw [hz]; exact hq)).trans (three_set1 (three_set2 h1)), ?_, Nat.le_refl _, fun _ => rfl⟩, (((Chg.refl q q w).setCell (.inl rfl) _).setCell (.inl rfl) _).alloc _, .inr (Nat.le_refl _)⟩
  show ErrAt s _ q w.heap.size _ (st.bad.or (some a))
  rw [hb]
  refine ⟨rfl, hq, ?_⟩
  have hn := heap_alloc_new ((w.setCell ⟨q, 2, none⟩ (.iface 66 (.pointer (some ⟨w.heap.size, 0, none⟩)))).setCell ⟨q, 1, none⟩ (.int .i64 (T.size : Int))) (.cells (faultRow s opRead a) 70)
  rw [hz] at hn
  exact hn
theorem fail_some {s : Nat → Addr} {w : World} {q f : Nat} {T : ByteArray} {st : St} {a b : Nat} (h1 : w.heap[q]? = some (.cells #[.string T, .int .i64 (st.i : Int), .iface 66 (.pointer (some ⟨f, 0, none⟩))] 63 (0, 0))) (hb : st.bad = some b) (hqf : q < f)
    (h2 : w.heap[f]? = some (.cells (faultRow s opRead b) 70 (0, 0))) :
    ∃ f', InAt s (w.setCell ⟨q, 1, none⟩ (.int .i64 (T.size : Int))) q f' T (failS T a st) ∧ Chg q q w (w.setCell ⟨q, 1, none⟩ (.int .i64 (T.size : Int))) ∧ (f' = f ∨ w.heap.size ≤ f') := by
  refine ⟨f, ⟨_, three_set1 h1, ?_, Nat.le_refl _, fun _ => rfl⟩, (Chg.refl q q w).setCell (.inl rfl) _, .inl rfl⟩
  show ErrAt s _ q f _ (st.bad.or (some a))
  rw [hb]
  exact ⟨rfl, hqf, (Below.heap_setCell _ _ _ _ (show f ≠ q by omega)).trans h2⟩

set_option maxHeartbeats 1600000 in
set_option maxRecDepth 100000 in
theorem fail_c (s : Nat → Addr) (q f : Nat) (T : ByteArray) (st : St) (a : Nat) (w : World) (hs : Sent s w) (h : InAt s w q f T st) :
    Calls Tryd.prog 35 #[.pointer (some ⟨q, 0, none⟩), .int .i64 (a : Int)] w fun e w' => e = .returned (.tuple #[]) ∧ ∃ f', InAt s w' q f' T (failS T a st) ∧ Chg q q w w' ∧ (f' = f ∨ w.heap.size ≤ f') := by
  have hg := hs.cell 1 (by omega)
  simp only [gnum, List.getD_cons_zero, List.getD_cons_succ] at hg
  obtain ⟨ev, h1, h2, h3, h4⟩ := id h
  have c0 : w.cell? ⟨q, 0, none⟩ = some (.string T) := cell_of_heap h1 0
  have c1 : w.cell? ⟨q, 1, none⟩ = some (.int .i64 (st.i : Int)) := cell_of_heap h1 1
  have c2 : w.cell? ⟨q, 2, none⟩ = some ev := cell_of_heap h1 2
  have hlt := h.lt
  have f1 := frozen_of_heap h1 1
  have f2 := frozen_of_heap h1 2
  cases hb : st.bad with
  | none =>
    rw [hb] at h2
    obtain ⟨rfl, rfl⟩ := h2
    have hfin := fail_none (s := s) (T := T) (st := st) (a := a) h1 hb
    have HF := Lib.hid hfin; clear hfin
    have hgl : 1 < w.heap.size := lt_of_cell hg
    clear hs h4 hb
    have H1 := Lib.hid h1; clear h1 h
    go_enter Tryd.func35, Tryd.ntmps35
    go_wp2_with fail
    go_end0
    exact ⟨rfl, HF.out⟩
  | some b =>
    rw [hb] at h2
    obtain ⟨rfl, hqf, h2⟩ := h2
    have hfin := fail_some (T := T) (st := st) (a := a) h1 hb hqf h2
    have HF := Lib.hid hfin; clear hfin
    clear hs h4 hb h2 h1 h
    go_enter Tryd.func35, Tryd.ntmps35
    go_wp2_with fail
    go_end0
    exact ⟨rfl, HF.out⟩

/-! What the methods do to the state. -/
def intS (T : ByteArray) (st : St) : Option Int × St :=
  match dec (T.data.toList.drop st.i) with
  | none => (none, failS T st.i st)
  | some p => (some p.1, ⟨st.i + p.2, st.bad⟩)

theorem intS_none {T : ByteArray} {st : St} (h : dec (T.data.toList.drop st.i) = none) : intS T st = (none, failS T st.i st) := by unfold intS; rw [h]
theorem intS_some {T : ByteArray} {st : St} {n : Int} {k : Nat} (h : dec (T.data.toList.drop st.i) = some (n, k)) : intS T st = (some n, ⟨st.i + k, st.bad⟩) := by unfold intS; rw [h]

theorem extract_list (T : ByteArray) (i : Nat) (_hi : i ≤ T.size) : (T.extract i T.size).data.toList = T.data.toList.drop i := by
  rw [ByteArray.data_extract, Array.toList_extract]
  rw [List.extract_eq_take_drop, List.take_of_length_le (by simp)]
theorem extract_size (T : ByteArray) (i : Nat) (_hi : i ≤ T.size) : (T.extract i T.size).size = T.size - i := by
  simp

theorem parse_of_none {l : List UInt8} (h : dec l = none) : parseR l = (0, 0) := by
  unfold dec at h
  cases hd : decL 0 l with
  | none => exact parse_none l hd
  | some p => rw [hd] at h; cases h
theorem parse_of_some {l : List UInt8} {n : Int} {k : Nat} (h : dec l = some (n, k)) : ∃ u : Nat, parseR l = (u, k) ∧ u < 18446744073709551616 ∧ unfoldI u = n ∧ 1 ≤ k ∧ k ≤ l.length := by
  unfold dec at h
  cases hd : decL 0 l with
  | none => rw [hd] at h; cases h
  | some p =>
    obtain ⟨v, m⟩ := p
    rw [hd] at h
    simp only [Option.map_some, Option.some.injEq, Prod.mk.injEq] at h
    obtain ⟨h1, rfl⟩ := h
    have hb := decL_bd l 0 v m (by omega) hd
    exact ⟨v, parse_some l v m hd, by simpa using hb.1, h1, hb.2.2.1, hb.2.1⟩
theorem parse_at (T : ByteArray) (i : Nat) (w : World) (hi : i ≤ T.size) (hT : T.size ≤ 9223372036854775807) (u k : Nat) (hp : Hid (parseR (T.data.toList.drop i) = (u, k))) :
    Calls Tryd.prog 40 #[.string (T.extract i T.size)] w fun e w' => e = .returned (.tuple #[.int .u64 (u : Int), .int .i64 (k : Int)]) ∧ w' = w := by
  have h := parse_c (T.extract i T.size) w (by rw [extract_size T i hi]; omega)
  rw [extract_list T i hi, hp.out] at h
  exact h.mono fun _ _ ⟨a, b⟩ => ⟨a, b.symm⟩

theorem step_in {s : Nat → Addr} {w : World} {q f k : Nat} {T : ByteArray} {st : St} {ev : Value} (h : InAt s w q f T st) (hk : 1 ≤ k) (hik : st.i + k ≤ T.size)
    (h1 : w.heap[q]? = some (.cells #[.string T, .int .i64 (st.i : Int), ev] 63 (0, 0))) (h2 : ErrAt s w q f ev st.bad) (h4 : st.bad ≠ none → st.i = T.size) : InAt s (w.setCell ⟨q, 1, none⟩ (.int .i64 ((st.i : Int) + (k : Int)))) q f T ⟨st.i + k, st.bad⟩ := by
  refine ⟨ev, three_set1 h1, ?_, hik, fun hb => by have := h4 hb; omega⟩
  show ErrAt s _ q f ev st.bad
  cases hb : st.bad with
  | none => rw [hb] at h2; exact h2
  | some b => rw [hb] at h2; exact ⟨h2.1, h2.2.1, (Below.heap_setCell _ _ _ _ (show f ≠ q by have := h2.2.1; omega)).trans h2.2.2⟩

set_option maxHeartbeats 1600000 in
set_option maxRecDepth 100000 in
theorem number_c (s : Nat → Addr) (q f : Nat) (T : ByteArray) (st : St) (w : World) (hs : Sent s w) (hT : T.size ≤ 9223372036854775807) (h : InAt s w q f T st) :
    Calls Tryd.prog 33 #[.pointer (some ⟨q, 0, none⟩)] w fun e w' => e = .returned (.tuple #[.int .i64 ((intS T st).1.getD 0), .bool (intS T st).1.isSome]) ∧ ∃ f', InAt s w' q f' T (intS T st).2 ∧ Chg q q w w' ∧ (f' = f ∨ w.heap.size ≤ f') := by
  obtain ⟨ev, h1, h2, h3, h4⟩ := id h
  have c0 : w.cell? ⟨q, 0, none⟩ = some (.string T) := cell_of_heap h1 0
  have c1 : w.cell? ⟨q, 1, none⟩ = some (.int .i64 (st.i : Int)) := cell_of_heap h1 1
  have f1 := frozen_of_heap h1 1
  have hlt := h.lt
  cases hd : dec (T.data.toList.drop st.i) with
  | none =>
    rw [intS_none hd]
    have hi0 : (0 : Int) ≤ (st.i : Int) := by omega
    have hi1 : (st.i : Int) ≤ (T.size : Int) := by omega
    have hp : Hid (parseR (T.data.toList.drop st.i) = (0, 0)) := Lib.hid (parse_of_none hd)
    go_enter Tryd.func33, Tryd.ntmps33
    go_wp2_with fail
    go_quiet ((go_at_call 40; exact Calls.quiet_of_same (parse_at T st.i _ h3 hT 0 0 hp)))
    go_wp2_with fail
    refine (fail_c s q f T st st.i _ (hs.below (B := w.heap.size) (by (repeat' (first | (with_reducible exact Below.refl _ _) | (with_reducible refine below_drewN ?_ _) | (with_reducible refine Below.drew ?_) | (with_reducible refine Below.alloc ?_ ?_ _) | (with_reducible refine Below.setCell ?_ ?_ _) | (with_reducible refine Below.trans ?_ (Below.mono (by with_reducible assumption) ?_)) | omega | (simp only [World.size_alloc, World.size_setCell, World.size_drew, Go.Proofs.YtcahidhcnhgbeaaDoor.World.size_drewN] at *; omega) | (with_reducible refine Below.size (B := 0) ?_)))) (Nat.le_refl _)) (h.drewN _)).mono ?_
    rintro e w1 ⟨rfl, f', g1, g2, g3⟩
    have G : Hid (∃ f', InAt s w1 q f' T (failS T st.i st) ∧ Chg q q w w1 ∧ (f' = f ∨ w.heap.size ≤ f')) := Lib.hid ⟨f', g1, ((Chg.refl q q w).drewN _).trans g2 (.inl rfl), g3⟩
    clear g1 g2 g3 c0 c1 f1 h h1 h2 h4
    go_wp2_with fail
    go_ret2
    exact ⟨rfl, G.out⟩
  | some p =>
    obtain ⟨n, k⟩ := p
    rw [intS_some hd]
    obtain ⟨u, hp, hu, hun, hk1, hk2⟩ := parse_of_some hd
    have hlen : (T.data.toList.drop st.i).length = T.size - st.i := by simp
    have hik : st.i + k ≤ T.size := by omega
    have hi0 : (0 : Int) ≤ (st.i : Int) := by omega
    have hi1 : (st.i : Int) ≤ (T.size : Int) := by omega
    have hk0 : ((k : Int) == 0) = false := by rw [beq_eq_false_iff_ne]; omega
    have hw : Hid (InAt s (w.setCell ⟨q, 1, none⟩ (.int .i64 ((st.i : Int) + (k : Int)))) q f T ⟨st.i + k, st.bad⟩) := Lib.hid (step_in h (by omega) hik h1 h2 h4)
    have HP := Lib.hid hp; clear hp
    have HU := Lib.hid hun; clear hun
    have HUb := Lib.hid hu; clear hu
    clear h1 h2 h4 hd hlen
    go_enter Tryd.func33, Tryd.ntmps33
    go_wp2_with fail
    go_quiet ((go_at_call 40; exact Calls.quiet_of_same (parse_at T st.i _ h3 hT u k HP)))
    go_wp2_with fail
    refine (unfold_c (u : Int) _ (by omega) (by have := HUb.out; omega)).mono ?_
    rintro e w1 ⟨rfl, rfl⟩
    rw [HU.out]
    go_wp2_with fail
    go_ret2
    exact ⟨rfl, f, hw.out.drewN _, ((Chg.refl q q w).setCell (.inl rfl) _).drewN _, .inl rfl⟩
end Go.Proofs.YtcahidhcnhgbeaaDoor
