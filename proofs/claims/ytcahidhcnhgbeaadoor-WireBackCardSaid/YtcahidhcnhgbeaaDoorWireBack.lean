/- The walk of the law WireBack: whatever the lists, the string and the vector, it returns true. Conditions: the sentinels lie as the program's text lays them; the lists' cells hold what the lists say. -/
import Derived.Test.YtcahidhcnhgbeaaDoorWireB
import Derived.BigRegion
import Derived.Deep.RegionHeld3
import Derived.ChangeKeysEq
import Derived.Laws.StructEq
namespace Go.Proofs.YtcahidhcnhgbeaaDoor
open Go Go.RowKit

theorem own_of {s : Nat → Addr} {w : World} {q f : Nat} {T : ByteArray} {st : St} (h : InAt s w q f T st) (hb : st.bad = none) : f = q := by
  obtain ⟨ev, _, h2, _⟩ := h; rw [hb] at h2; exact h2.2
/-- What one round of the law writes. -/
def encG (S : List UInt8) (v : Q4) (z : Int) : List UInt8 := enc z ++ (encT S ++ (encV v.a v.b v.c v.d ++ encB (decide (0 < z))))
def encAll (S : List UInt8) (v : Q4) (zs : List Int) : List UInt8 := zs.flatMap (encG S v)
theorem encAll_snoc (S : List UInt8) (v : Q4) (zs : List Int) (z : Int) : encAll S v (zs ++ [z]) = encAll S v zs ++ encG S v z := by simp [encAll]
theorem encB_len (b : Bool) : (encB b).length ≤ 10 := by
  cases b
  · exact (enc_len 0 (by unfold I64; omega)).1
  · exact (enc_len 1 (by unfold I64; omega)).1
theorem encV_len {v : Q4} (h : Good4 v) : (encV v.a v.b v.c v.d).length ≤ 40 := by
  have h1 := (enc_len _ h.1).1
  have h2 := (enc_len _ h.2.1).1
  have h3 := (enc_len _ h.2.2.1).1
  have h4 := (enc_len _ h.2.2.2).1
  simp only [encV, List.length_append]; omega
theorem encT_len (S : List UInt8) (h : S.length ≤ 100) : (encT S).length ≤ 110 := by
  have h1 := (enc_len (S.length : Int) (by unfold I64; omega)).1
  simp only [encT, List.length_append]; omega
theorem encG_len {S : List UInt8} {v : Q4} {z : Int} (hS : S.length ≤ 100) (hv : Good4 v) (hz : I64 z) : (encG S v z).length ≤ 170 := by
  have h1 := (enc_len z hz).1
  have h2 := encT_len S hS
  have h3 := encV_len hv
  have h4 := encB_len (decide (0 < z))
  simp only [encG, List.length_append]; omega
theorem encAll_len {S : List UInt8} {v : Q4} (hS : S.length ≤ 100) (hv : Good4 v) : ∀ (zs : List Int), (∀ z ∈ zs, I64 z) → (encAll S v zs).length ≤ 170 * zs.length
  | [], _ => by simp [encAll]
  | z :: r, h => by
    have h1 := encG_len hS hv (h z (by simp))
    have h2 := encAll_len hS hv r fun x hx => h x (by simp [hx])
    simp only [encAll, List.flatMap_cons, List.length_append, List.length_cons] at h2 ⊢
    omega

set_option maxHeartbeats 1600000 in
set_option maxRecDepth 100000 in
theorem back_long (s : Nat → Addr) (A B : Option Addr) (n cn m cm : Nat) (S : ByteArray) (v : Q4) (w : World) (hs : Sent s w) (hn : n ≤ 9223372036854775807) (hm : m ≤ 9223372036854775807) (hS : S.size ≤ 9223372036854775807) (hl : 40 < n ∨ 40 < m ∨ 100 < S.size) :
    Calls Tryd.prog 5 #[.slice A n cn, .slice B m cm, .string S, .agg #[.int .i64 v.a, .int .i64 v.b, .int .i64 v.c, .int .i64 v.d]] w fun e w' => e = .returned (.bool true) ∧ Below w.heap.size w w' := by
  by_cases h1 : 40 < n
  · clear hl
    go_enter Tryd.func5, Tryd.ntmps5
    go_wp2_with fail
    refine (awake_c s _ (hs.below (B := w.heap.size) (by (repeat' (first | (with_reducible exact Below.refl _ _) | (with_reducible refine below_drewN ?_ _) | (with_reducible refine Below.drew ?_) | (with_reducible refine Below.alloc ?_ ?_ _) | (with_reducible refine Below.setCell ?_ ?_ _) | (with_reducible refine Below.trans ?_ (Below.mono (by with_reducible assumption) ?_)) | omega | (simp only [World.size_alloc, World.size_setCell, World.size_drew, Go.Proofs.YtcahidhcnhgbeaaDoor.World.size_drewN] at *; omega) | (with_reducible refine Below.size (B := 0) ?_)))) (Nat.le_refl _))).mono ?_
    rintro e w1 ⟨rfl, hb1⟩
    go_wp2_with fail
    go_ret
    exact ⟨rfl, by (repeat' (first | (with_reducible exact Below.refl _ _) | (with_reducible refine below_drewN ?_ _) | (with_reducible refine Below.drew ?_) | (with_reducible refine Below.alloc ?_ ?_ _) | (with_reducible refine Below.setCell ?_ ?_ _) | (with_reducible refine Below.trans ?_ (Below.mono (by with_reducible assumption) ?_)) | omega | (simp only [World.size_alloc, World.size_setCell, World.size_drew, Go.Proofs.YtcahidhcnhgbeaaDoor.World.size_drewN] at *; omega) | (with_reducible refine Below.size (B := 0) ?_)))⟩
  · by_cases h2 : 40 < m
    · clear hl
      go_enter Tryd.func5, Tryd.ntmps5
      go_wp2_with fail
      refine (awake_c s _ (hs.below (B := w.heap.size) (by (repeat' (first | (with_reducible exact Below.refl _ _) | (with_reducible refine below_drewN ?_ _) | (with_reducible refine Below.drew ?_) | (with_reducible refine Below.alloc ?_ ?_ _) | (with_reducible refine Below.setCell ?_ ?_ _) | (with_reducible refine Below.trans ?_ (Below.mono (by with_reducible assumption) ?_)) | omega | (simp only [World.size_alloc, World.size_setCell, World.size_drew, Go.Proofs.YtcahidhcnhgbeaaDoor.World.size_drewN] at *; omega) | (with_reducible refine Below.size (B := 0) ?_)))) (Nat.le_refl _))).mono ?_
      rintro e w1 ⟨rfl, hb1⟩
      go_wp2_with fail
      go_ret
      exact ⟨rfl, by (repeat' (first | (with_reducible exact Below.refl _ _) | (with_reducible refine below_drewN ?_ _) | (with_reducible refine Below.drew ?_) | (with_reducible refine Below.alloc ?_ ?_ _) | (with_reducible refine Below.setCell ?_ ?_ _) | (with_reducible refine Below.trans ?_ (Below.mono (by with_reducible assumption) ?_)) | omega | (simp only [World.size_alloc, World.size_setCell, World.size_drew, Go.Proofs.YtcahidhcnhgbeaaDoor.World.size_drewN] at *; omega) | (with_reducible refine Below.size (B := 0) ?_)))⟩
    · have h3 : 100 < S.size := by omega
      clear hl
      go_enter Tryd.func5, Tryd.ntmps5
      go_wp2_with fail
      refine (awake_c s _ (hs.below (B := w.heap.size) (by (repeat' (first | (with_reducible exact Below.refl _ _) | (with_reducible refine below_drewN ?_ _) | (with_reducible refine Below.drew ?_) | (with_reducible refine Below.alloc ?_ ?_ _) | (with_reducible refine Below.setCell ?_ ?_ _) | (with_reducible refine Below.trans ?_ (Below.mono (by with_reducible assumption) ?_)) | omega | (simp only [World.size_alloc, World.size_setCell, World.size_drew, Go.Proofs.YtcahidhcnhgbeaaDoor.World.size_drewN] at *; omega) | (with_reducible refine Below.size (B := 0) ?_)))) (Nat.le_refl _))).mono ?_
      rintro e w1 ⟨rfl, hb1⟩
      go_wp2_with fail
      go_ret
      exact ⟨rfl, by (repeat' (first | (with_reducible exact Below.refl _ _) | (with_reducible refine below_drewN ?_ _) | (with_reducible refine Below.drew ?_) | (with_reducible refine Below.alloc ?_ ?_ _) | (with_reducible refine Below.setCell ?_ ?_ _) | (with_reducible refine Below.trans ?_ (Below.mono (by with_reducible assumption) ?_)) | omega | (simp only [World.size_alloc, World.size_setCell, World.size_drew, Go.Proofs.YtcahidhcnhgbeaaDoor.World.size_drewN] at *; omega) | (with_reducible refine Below.size (B := 0) ?_)))⟩

theorem snoc_bytes (S : List UInt8) (v : Q4) (zs : List Int) (k : Nat) (z : Int) (h : zs[k]? = some z) :
    encAll S v (zs.take k) ++ enc z ++ encT S ++ encV v.a v.b v.c v.d ++ encB (decide (0 < z)) = encAll S v (zs.take (k + 1)) := by
  rw [take_snocI zs k z h, encAll_snoc]
  simp [encG]
/-- The vector's block. -/
def VBlk (wr : World) (g : Nat) (v : Q4) : Prop := wr.heap[g]? = some (.cells #[.int .i64 v.a, .int .i64 v.b, .int .i64 v.c, .int .i64 v.d] 29 (0, 0))
theorem VBlk.cells {w : World} {g : Nat} {v : Q4} (h : VBlk w g v) : w.cell? ⟨g, 0, none⟩ = some (.int .i64 v.a) ∧ w.cell? ⟨g, 1, none⟩ = some (.int .i64 v.b) ∧ w.cell? ⟨g, 2, none⟩ = some (.int .i64 v.c) ∧ w.cell? ⟨g, 3, none⟩ = some (.int .i64 v.d) ∧ g < w.heap.size :=
  ⟨cell_of_heap h 0, cell_of_heap h 1, cell_of_heap h 2, cell_of_heap h 3, lt_of_block h⟩
theorem VBlk.new (w : World) (v : Q4) : VBlk (w.alloc (.cells #[.int .i64 v.a, .int .i64 v.b, .int .i64 v.c, .int .i64 v.d] 29)) w.heap.size v := heap_alloc_new w _
theorem VBlk.below {w w' : World} {g B : Nat} {v : Q4} (h : VBlk w g v) (hb : Below B w w') (hg : g < B) : VBlk w' g v := (hb.block g hg).trans h
theorem VBlk.alloc {w : World} {g : Nat} {v : Q4} (h : VBlk w g v) (o : Obj) : VBlk (w.alloc o) g v := (Below.heap_alloc w o g (lt_of_block h)).trans h
theorem VBlk.kept {w w' : World} {g p q : Nat} {v : Q4} (h : VBlk w g v) (hc : Chg p q w w') (h1 : g ≠ p) (h2 : g ≠ q) : VBlk w' g v := hc.row h h1 h2
theorem VBlk.drewN {w : World} {g : Nat} {v : Q4} (h : VBlk w g v) (n : Nat) : VBlk (w.drewN n) g v := h

/-- What a round of the writing loop begins with. -/
def BRel (w : World) (P : Nat) (S : List UInt8) (v : Q4) (zs : List Int) (k : Nat) (wr : World) : Prop :=
  ∃ o1, Two wr P o1 (encAll S v (zs.take k)) (P + 1) (P + 1) [] ∧ Below w.heap.size w wr ∧ VBlk wr w.heap.size v

/-- What a round of the second writing loop begins with. -/
def BRel2 (w : World) (P : Nat) (E : List UInt8) (v : Q4) (ys : List Int) (j : Nat) (wr : World) : Prop :=
  ∃ o1 o2, Two wr P o1 E (P + 1) o2 (encs (ys.take j)) ∧ Below w.heap.size w wr ∧ VBlk wr w.heap.size v

/-- What a round of the reading loop begins with. -/
def BRel3 (s : Nat → Addr) (w : World) (Q P2 o2 : Nat) (S : List UInt8) (v : Q4) (zs ys : List Int) (T : ByteArray) (k : Nat) (wr : World) : Prop :=
  InAt s wr Q Q T ⟨(encAll S v (zs.take k)).length, none⟩ ∧ OutAt wr P2 o2 (encs ys) ∧ Below w.heap.size w wr ∧ VBlk wr w.heap.size v

/-- The reads of one round. -/
structure RoundRun (T S : ByteArray) (v : Q4) (z : Int) (l0 l1 l2 l3 l4 : Nat) : Prop where
  r1 : intS T ⟨l0, none⟩ = (some z, ⟨l1, none⟩)
  r2 : textS T (S.size : Int) ⟨l1, none⟩ = (S, ⟨l2, none⟩)
  r3 : vecS T ⟨l2, none⟩ = (v, ⟨l3, none⟩)
  r4 : boolS T ⟨l3, none⟩ = (decide (0 < z), ⟨l4, none⟩)
theorem round_run (S : ByteArray) (v : Q4) (zs : List Int) (k : Nat) (z : Int) (hz : zs[k]? = some z) (E : List UInt8) (hE : encAll S.data.toList v zs = E) (hzs : ∀ z ∈ zs, I64 z) (hv : Good4 v) (hS : S.data.toList.length ≤ 100) :
    ∃ l1 l2 l3 l4, RoundRun ⟨E.toArray⟩ S v z (encAll S.data.toList v (zs.take k)).length l1 l2 l3 l4 ∧ l4 = (encAll S.data.toList v (zs.take (k + 1))).length := by
  have hzi := i64_at hzs hz
  obtain ⟨R, hR⟩ : ∃ R, E = encAll S.data.toList v (zs.take k) ++ (encG S.data.toList v z ++ R) := by
    refine ⟨encAll S.data.toList v (zs.drop (k + 1)), ?_⟩
    rw [← hE]
    have hs : zs = zs.take k ++ (z :: zs.drop (k + 1)) := by
      obtain ⟨hk, rfl⟩ := List.getElem?_eq_some_iff.1 hz
      rw [← List.drop_eq_getElem_cons hk, List.take_append_drop]
    conv => lhs; rw [hs]
    simp [encAll]
  have hSz : (S.size : Int) = (S.data.toList.length : Int) := by simp
  have t1 : (⟨E.toArray⟩ : ByteArray).data.toList = encAll S.data.toList v (zs.take k) ++ (enc z ++ (encT S.data.toList ++ (encV v.a v.b v.c v.d ++ (encB (decide (0 < z)) ++ R)))) := by
    show E = _; rw [hR]; simp [encG]
  have t2 : (⟨E.toArray⟩ : ByteArray).data.toList = (encAll S.data.toList v (zs.take k) ++ enc z) ++ (encT S.data.toList ++ (encV v.a v.b v.c v.d ++ (encB (decide (0 < z)) ++ R))) := by rw [t1]; simp
  have t3 : (⟨E.toArray⟩ : ByteArray).data.toList = (encAll S.data.toList v (zs.take k) ++ enc z ++ encT S.data.toList) ++ (encV v.a v.b v.c v.d ++ (encB (decide (0 < z)) ++ R)) := by rw [t1]; simp
  have t4 : (⟨E.toArray⟩ : ByteArray).data.toList = (encAll S.data.toList v (zs.take k) ++ enc z ++ encT S.data.toList ++ encV v.a v.b v.c v.d) ++ (encB (decide (0 < z)) ++ R) := by rw [t1]; simp
  have r1 := intS_app (b := none) t1 hzi
  have r2 := textS_app (most := (S.size : Int)) t2 (by omega) (by omega)
  have r3 := vecS_app t3 hv.1 hv.2.1 hv.2.2.1 hv.2.2.2
  have r4 := boolS_app t4
  simp only [List.length_append] at r2 r3 r4
  refine ⟨_, _, _, _, ⟨r1, r2, r3, r4⟩, ?_⟩
  rw [← snoc_bytes _ _ _ _ _ hz]
  simp only [List.length_append]

theorem eqV4 (x0 x1 x2 x3 y0 y1 y2 y3 : Int) (w : World) : (Op.equalIn 10000 29 (.agg #[.int .i64 x0, .int .i64 x1, .int .i64 x2, .int .i64 x3]) (.agg #[.int .i64 y0, .int .i64 y1, .int .i64 y2, .int .i64 y3])).run Tryd.prog w
    = .ok (x0 == y0 && (x1 == y1 && (x2 == y2 && x3 == y3))) w := by
  have hi : (Tryd.prog.info? 3).isSome = true := by kernel_rfl
  obtain ⟨i, hi⟩ := Option.isSome_iff_exists.1 hi
  have hc : Tryd.prog.cellsOf 3 = 1 := by kernel_rfl
  have hu : Tryd.prog.underlying 29 = some (.array 4 3) := by kernel_rfl
  have q0 : ∀ (W : World) (a0 a1 a2 a3 : Value), (part 3 #[a0, a1, a2, a3] 0).run Tryd.prog W = .ok a0 W := fun _ _ _ _ _ => by kernel_rfl
  have q1 : ∀ (W : World) (a0 a1 a2 a3 : Value), (part 3 #[a0, a1, a2, a3] 1).run Tryd.prog W = .ok a1 W := fun _ _ _ _ _ => by kernel_rfl
  have q2 : ∀ (W : World) (a0 a1 a2 a3 : Value), (part 3 #[a0, a1, a2, a3] 2).run Tryd.prog W = .ok a2 W := fun _ _ _ _ _ => by kernel_rfl
  have q3 : ∀ (W : World) (a0 a1 a2 a3 : Value), (part 3 #[a0, a1, a2, a3] 3).run Tryd.prog W = .ok a3 W := fun _ _ _ _ _ => by kernel_rfl
  rw [run_equalIn_array w 9999 _ _ hu hi, hc]
  simp only [Op.eqItems, List.range, List.range.loop, Nat.mul_one, Sem.run_bind, q0, q1, q2, q3, run_equalIn_int _ _ _ _ _ _ _ Tryd.underlying3, Result.andThen_ok]
  cases e0 : x0 == y0 <;> cases e1 : x1 == y1 <;> cases e2 : x2 == y2 <;> cases e3 : x3 == y3 <;>
    simp [q1, q2, q3, run_equalIn_int _ _ _ _ _ _ _ Tryd.underlying3, e1, e2, e3]

/-- What a round of the last loop begins with. -/
def BRel4 (w : World) (P2 o2 P3 : Nat) (zs ys : List Int) (k : Nat) (wr : World) : Prop :=
  ∃ o3, OutAt wr P3 o3 (encs (zs.take k)) ∧ OutAt wr P2 o2 (encs ys) ∧ P2 < P3 ∧ o2 < P3 ∧ Below w.heap.size w wr
/-- Whether the lists agree so far. -/
def sameB (zs ys : List Int) (k : Nat) : Bool := decide (zs.length = ys.length) && decide (zs.take k = ys.take k)

theorem same_start (zs ys : List Int) : (((zs.length : Nat) : Int) == ((ys.length : Nat) : Int)) = sameB zs ys 0 := by
  unfold sameB; rw [Bool.eq_iff_iff]; simp; omega
theorem same_false {zs ys : List Int} {k : Nat} (h : false = sameB zs ys k) : false = sameB zs ys (k + 1) := by
  by_cases hl : zs.length = ys.length
  · have h1 : ¬ zs.take k = ys.take k := fun e => by simp [sameB, hl, e] at h
    have h2 : ¬ zs.take (k + 1) = ys.take (k + 1) := fun e => h1 (by
      have := congrArg (List.take k) e
      simpa [List.take_take] using this)
    simp [sameB, h2]
  · simp [sameB, hl]
theorem same_true {zs ys : List Int} {k : Nat} {z : Int} (h : true = sameB zs ys k) (hz : zs[k]? = some z) : zs.length = ys.length ∧ ∃ y, ys[k]? = some y ∧ (z == y) = sameB zs ys (k + 1) := by
  have h' : sameB zs ys k = true := h.symm
  unfold sameB at h'
  simp only [Bool.and_eq_true, decide_eq_true_eq] at h'
  obtain ⟨hl, ht⟩ := h'
  have hk := (List.getElem?_eq_some_iff.1 hz).1
  obtain ⟨y, hy⟩ : ∃ y, ys[k]? = some y := ⟨_, List.getElem?_eq_getElem (by omega)⟩
  refine ⟨hl, y, hy, ?_⟩
  unfold sameB
  rw [take_snocI zs k z hz, take_snocI ys k y hy, ht, Bool.eq_iff_iff]
  simp [hl]

theorem ret_bb {a b : Bool} (h : a = b) : Ending.returned (.bool a) = .returned (.bool b) := by rw [h]
theorem same_all {zs ys : List Int} (h : true = sameB zs ys zs.length) : zs = ys := by
  have h' : sameB zs ys zs.length = true := h.symm
  unfold sameB at h'
  simp only [Bool.and_eq_true, decide_eq_true_eq] at h'
  obtain ⟨hl, ht⟩ := h'
  rw [List.take_length, hl, List.take_length] at ht
  exact ht
theorem encs_ne {zs ys : List Int} (h : false = sameB zs ys zs.length) (hz : ∀ z ∈ zs, I64 z) (hy : ∀ z ∈ ys, I64 z) : encs zs ≠ encs ys := fun e => by
  have he := encs_inj zs ys hz hy e
  subst he
  simp [sameB] at h

/-! The reads of a reader that does not fail: its Fault's block stays its own. -/
theorem int_q (s : Nat → Addr) (q : Nat) (T : ByteArray) {st : St} (st1 : St) (n : Int) (w : World) (hs : SentB s q w) (hT : T.size ≤ 9223372036854775807) (h : InAt s w q q T st) (h1 : intS T st = (some n, st1)) (hb : st1.bad = none) :
    Calls Tryd.prog 19 #[.pointer (some ⟨q, 0, none⟩)] w fun e w' => e = .returned (.int .i64 n) ∧ InAt s w' q q T st1 ∧ Chg q q w w' :=
  (int_n s q q T st st1 n w hs hT h (by rw [h1]) (by rw [h1]; rfl)).mono fun _ _ ⟨a, f', i, g, _⟩ => ⟨a, by obtain rfl := own_of i hb; exact i, g⟩
theorem text_q (s : Nat → Addr) (q : Nat) (T S : ByteArray) (most : Int) {st : St} (st1 : St) (w : World) (hs : SentB s q w) (hT : T.size ≤ 35184372088832) (h : InAt s w q q T st) (h1 : textS T most st = (S, st1)) (hb : st1.bad = none) :
    Calls Tryd.prog 21 #[.pointer (some ⟨q, 0, none⟩), .int .i64 most] w fun e w' => e = .returned (.string S) ∧ InAt s w' q q T st1 ∧ Chg q q w w' :=
  (text_c s q q T most st w hs hT h).mono fun _ _ ⟨a, f', i, g, _⟩ => by rw [h1] at a i; obtain rfl := own_of i hb; exact ⟨a, i, g⟩
theorem vec_q (s : Nat → Addr) (q : Nat) (T : ByteArray) {st : St} (v : Q4) (st1 : St) (w : World) (hs : SentB s q w) (hT : T.size ≤ 9223372036854775807) (h : InAt s w q q T st) (h1 : vecS T st = (v, st1)) (hb : st1.bad = none) :
    Calls Tryd.prog 23 #[.pointer (some ⟨q, 0, none⟩)] w fun e w' => e = .returned (.agg #[.int .i64 v.a, .int .i64 v.b, .int .i64 v.c, .int .i64 v.d]) ∧ InAt s w' q q T st1 ∧ Chg q q w w' :=
  (vec_c s q q T st w hs hT h).mono fun _ _ ⟨a, f', i, g, _⟩ => by rw [h1] at a i; obtain rfl := own_of i hb; exact ⟨a, i, g⟩
theorem bool_q (s : Nat → Addr) (q : Nat) (T : ByteArray) {st : St} (b : Bool) (st1 : St) (w : World) (hs : SentB s q w) (hT : T.size ≤ 9223372036854775807) (h : InAt s w q q T st) (h1 : boolS T st = (b, st1)) (hb : st1.bad = none) :
    Calls Tryd.prog 25 #[.pointer (some ⟨q, 0, none⟩)] w fun e w' => e = .returned (.bool b) ∧ InAt s w' q q T st1 ∧ Chg q q w w' :=
  (bool_c s q q T st w hs hT h).mono fun _ _ ⟨a, f', i, g, _⟩ => by rw [h1] at a i; obtain rfl := own_of i hb; exact ⟨a, i, g⟩
theorem VBlk.drew {w : World} {g : Nat} {v : Q4} (h : VBlk w g v) : VBlk w.drew g v := h

set_option maxHeartbeats 6400000 in
set_option maxRecDepth 100000 in
theorem back_walk (s : Nat → Addr) (A B : Option Addr) (cn cm : Nat) (zs ys : List Int) (S : ByteArray) (v : Q4) (w : World) (hs : Sent s w) (hn : zs.length ≤ 40) (hm : ys.length ≤ 40) (hS : S.size ≤ 100) (hv : Good4 v) (hz : ∀ z ∈ zs, I64 z) (hy : ∀ z ∈ ys, I64 z)
    (hA : IRow w w.heap.size A zs) (hB : IRow w w.heap.size B ys) :
    Calls Tryd.prog 5 #[.slice A zs.length cn, .slice B ys.length cm, .string S, .agg #[.int .i64 v.a, .int .i64 v.b, .int .i64 v.c, .int .i64 v.d]] w fun e w' => e = .returned (.bool true) ∧ Below w.heap.size w w' := by
  have hz' : zs.length ≤ 9223372036854775807 := by omega
  have hm' : ys.length ≤ 9223372036854775807 := by omega
  have hS' : S.data.toList.length ≤ 100 := by simpa using hS
  go_enter Tryd.func5, Tryd.ntmps5
  go_wp2_with fail
  refine (awake_c s _ (hs.below (B := w.heap.size) (by (repeat' (first | (with_reducible exact Below.refl _ _) | (with_reducible refine below_drewN ?_ _) | (with_reducible refine Below.drew ?_) | (with_reducible refine Below.alloc ?_ ?_ _) | (with_reducible refine Below.setCell ?_ ?_ _) | (with_reducible refine Below.trans ?_ (Below.mono (by with_reducible assumption) ?_)) | omega | (simp only [World.size_alloc, World.size_setCell, World.size_drew, Go.Proofs.YtcahidhcnhgbeaaDoor.World.size_drewN] at *; omega) | (with_reducible refine Below.size (B := 0) ?_)))) (Nat.le_refl _))).mono ?_
  rintro e w1 ⟨rfl, hb1⟩
  have hz1 := hb1.size
  rw [World.size_alloc] at hz1
  have R0 : Hid (BRel w w1.heap.size S.data.toList v zs 0 ((w1.alloc (.cells #[.slice none 0 0] 27)).alloc (.cells #[.slice none 0 0] 27))) := Lib.hid ⟨_, by simpa [encAll] using Two.new w1, by (repeat' (first | (with_reducible exact Below.refl _ _) | (with_reducible refine below_drewN ?_ _) | (with_reducible refine Below.drew ?_) | (with_reducible refine Below.alloc ?_ ?_ _) | (with_reducible refine Below.setCell ?_ ?_ _) | (with_reducible refine Below.trans ?_ (Below.mono (by with_reducible assumption) ?_)) | omega | (simp only [World.size_alloc, World.size_setCell, World.size_drew, Go.Proofs.YtcahidhcnhgbeaaDoor.World.size_drewN] at *; omega) | (with_reducible refine Below.size (B := 0) ?_))), ((((VBlk.new w v).below hb1 (by simp)).alloc _).alloc _)⟩
  clear hb1
  go_wp2_with fail
  obtain ⟨P, hP⟩ : ∃ P, P = w1.heap.size := ⟨_, rfl⟩
  rw [← hP] at hz1 R0 ⊢
  clear hP
  have hvz := encAll_len hS' hv
  have HVZ := Lib.hid hvz; clear hvz
  have HV := Lib.hid hv; clear hv
  have HZ := Lib.hid hz; clear hz
  have HY := Lib.hid hy; clear hy
  have HIA := Lib.hid hA; clear hA
  have HIB := Lib.hid hB; clear hB
  have HS' := Lib.hid hS'; clear hS'
  go_loopw [11] (fun i wr => ∃ k : Nat, k ≤ zs.length ∧ i = .int .i64 k ∧ BRel w P S.data.toList v zs k wr) (fun i _ => zs.length - (intOf i).toNat)
  case atStart => exact ⟨0, Nat.zero_le _, rfl, R0.out⟩
  case round =>
    obtain ⟨k, hk, rfl, o1, h2, hb, hvb⟩ := hrel
    clear R0
    by_cases hlt : k < zs.length
    · obtain ⟨ad, rfl, had, hcells⟩ := HIA.out (by omega)
      obtain ⟨z, hzk⟩ : ∃ z, zs[k]? = some z := ⟨_, List.getElem?_eq_getElem hlt⟩
      have hwl := hb.size
      have ck : wr.cell? (ad.add k) = some (.int .i64 z) := (hb.cell (by rw [block_add]; exact had)).trans (hcells k z hzk)
      have hzi := i64_at HZ.out hzk
      have hlen := HVZ.out (zs.take k) (fun x hx => HZ.out x (List.mem_of_mem_take hx))
      have hkt : (zs.take k).length = k := by simp; omega
      rw [hkt] at hlen
      have HK := Lib.hid hzk
      clear hcells hzk hkt
      have hl1 := h2.one.lt
      have l1 := (enc_len z hzi).1
      have l2 := encT_len S.data.toList HS'.out
      have l3 := encV_len HV.out
      go_wp2_with fail
      refine (out_int z P o1 _ _ hzi h2.one (by omega)).mono ?_
      rintro e w2 ⟨rfl, o2, i2, g2, q2⟩
      have hlA : ∀ W : World, Below w.heap.size w W → W.cell? (ad.add k) = some (.int .i64 z) := fun W hW => (hW.cell (by rw [block_add]; exact had)).trans (by rw [← ck]; exact (hb.cell (by rw [block_add]; exact had)).symm)
      have HLA := Lib.hid hlA; clear hlA
      have T2 := Lib.hid (h2.write i2 g2 q2)
      have K2 := Lib.hid (hb.trans (g2.below (by omega) (by omega) hwl))
      have V2 := Lib.hid (hvb.kept g2 (by omega) (by omega))
      clear i2 g2 q2 h2 hb hvb ck hl1
      have hl1 := T2.out.one.lt
      go_wp2_with fail
      refine (out_text S P o2 _ _ T2.out.one (by rw [List.length_append]; omega) (by omega)).mono ?_
      rintro e w3 ⟨rfl, o3, i3, g3, q3⟩
      have T3 := Lib.hid (T2.out.write i3 g3 q3)
      have K3 := Lib.hid (K2.out.trans (g3.below (by omega) (by omega) K2.out.size))
      have V3 := Lib.hid (V2.out.kept g3 (by omega) (by omega))
      clear i3 g3 q3 T2 K2 V2 hl1
      have hl1 := T3.out.one.lt
      obtain ⟨v0, v1, v2, v3, vl⟩ := V3.out.cells
      go_wp2_with fail
      refine (out_vec v.a v.b v.c v.d P o3 _ _ HV.out.1 HV.out.2.1 HV.out.2.2.1 HV.out.2.2.2 T3.out.one (by rw [List.length_append, List.length_append]; omega)).mono ?_
      rintro e w4 ⟨rfl, o4, i4, g4, q4⟩
      have T4 := Lib.hid (T3.out.write i4 g4 q4)
      have K4 := Lib.hid (K3.out.trans (g4.below (by omega) (by omega) K3.out.size))
      have V4 := Lib.hid (V3.out.kept g4 (by omega) (by omega))
      clear i4 g4 q4 T3 K3 V3 hl1 v0 v1 v2 v3 vl
      have hl1 := T4.out.one.lt
      have ck := HLA.out _ K4.out
      go_wp2_with fail
      refine (out_bool (decide (0 < z)) P o4 _ _ T4.out.one (by rw [List.length_append, List.length_append, List.length_append]; omega)).mono ?_
      rintro e w5 ⟨rfl, o5, i5, g5, q5⟩
      rw [snoc_bytes S.data.toList v zs k z HK.out] at i5
      have T5 := Lib.hid (T4.out.write i5 g5 q5)
      have K5 := Lib.hid (K4.out.trans (g5.below (by omega) (by omega) K4.out.size))
      have V5 := Lib.hid (V4.out.kept g5 (by omega) (by omega))
      clear i5 g5 q5 T4 K4 V4 hl1 ck
      go_wp2_with fail
      go_roundw
      case rel => exact ⟨k + 1, by omega, by go_num, o5, T5.out, K5.out, V5.out⟩
      case measure => simp [intOf]; omega
    · obtain rfl : k = zs.length := by omega
      rw [List.take_length] at h2
      have hEl : (encAll S.data.toList v zs).length ≤ 6800 := by have := HVZ.out zs HZ.out; omega
      obtain ⟨E, hE⟩ : ∃ E, encAll S.data.toList v zs = E := ⟨_, rfl⟩
      rw [hE] at h2 hEl
      have HE := Lib.hid hE; clear hE
      have R1 : Hid (BRel2 w P E v ys 0 wr) := Lib.hid ⟨o1, P + 1, by simpa [encs] using h2, hb, hvb⟩
      clear h2 hb hvb
      go_wp2_with fail
      obtain ⟨wo, rfl⟩ : ∃ wo : World, wo = wr := ⟨_, rfl⟩
      go_loopw [12] (fun i wr => ∃ j : Nat, j ≤ ys.length ∧ i = .int .i64 j ∧ BRel2 w P E v ys j wr) (fun i _ => ys.length - (intOf i).toNat)
      case atStart => exact ⟨0, Nat.zero_le _, rfl, R1.out⟩
      case round =>
        obtain ⟨j, hj, rfl, o1, o2, h2, hb, hvb⟩ := hrel
        clear R1
        by_cases hjl : j < ys.length
        · obtain ⟨ad, rfl, had, hcells⟩ := HIB.out (by omega)
          obtain ⟨y, hyj⟩ : ∃ y, ys[j]? = some y := ⟨_, List.getElem?_eq_getElem hjl⟩
          have ck : wr.cell? (ad.add j) = some (.int .i64 y) := (hb.cell (by rw [block_add]; exact had)).trans (hcells j y hyj)
          have hyi := i64_at HY.out hyj
          have hl2 := encs_len (ys.take j) (fun x hx => HY.out x (List.mem_of_mem_take hx))
          have hyt : (ys.take j).length = j := by simp; omega
          rw [hyt] at hl2
          have HK := Lib.hid hyj
          clear hcells hyj hyt
          have hl1 := h2.two.lt
          go_wp2_with fail
          refine (out_int y (P + 1) o2 _ _ hyi h2.two (by omega)).mono ?_
          rintro e w2 ⟨rfl, o3, i3, g3, q3⟩
          rw [← encs_snoc, ← take_snocI ys j y HK.out] at i3
          have T3 := Lib.hid ((h2.swap.write i3 g3 q3).swap)
          have K3 := Lib.hid (hb.trans (g3.below (by omega) (by omega) hb.size))
          have V3 := Lib.hid (hvb.kept g3 (by omega) (by omega))
          clear i3 g3 q3 h2 hb hvb ck hl1
          go_wp2_with fail
          go_roundw
          case rel => exact ⟨j + 1, by omega, by go_num, o1, o3, T3.out, K3.out, V3.out⟩
          case measure => simp [intOf]; omega
        · obtain rfl : j = ys.length := by omega
          rw [List.take_length] at h2
          have hbs := hb.size
          have hl1 := h2.one.lt
          have hl2 := h2.two.lt
          go_wp2_with fail
          refine (out_bytes P o1 _ _ h2.one).mono ?_
          rintro e w3 ⟨rfl, rfl⟩
          go_wp2_with fail
          refine (of_c s ⟨E.toArray⟩ _).mono ?_
          rintro e w4 ⟨rfl, i4, b4⟩
          have H4 : Hid (OutAt w4 (P + 1) o2 (encs ys)) := Lib.hid (h2.two.below b4 hl2.1 hl2.2.2)
          have K4 := Lib.hid (hb.trans (b4.mono hbs))
          have V4 := Lib.hid (hvb.below b4 (by omega))
          have HI4 := Lib.hid i4
          have hlt4 := i4.lt.1
          clear i4 b4 h2 hb hvb hl1
          go_wp2_with fail
          obtain ⟨Q, hQ⟩ : ∃ Q, Q = wr.heap.size := ⟨_, rfl⟩
          rw [← hQ] at hlt4 HI4 hbs hl2 ⊢
          clear hQ
          have R2 : Hid (BRel3 s w Q (P + 1) o2 S.data.toList v zs ys ⟨E.toArray⟩ 0 w4) := Lib.hid ⟨HI4.out, H4.out, K4.out, V4.out⟩
          clear HI4 H4 K4 V4
          obtain ⟨wo2, rfl⟩ : ∃ wo : World, wo = wr := ⟨_, rfl⟩
          go_loopw [14] (fun i wr => ∃ k : Nat, k ≤ zs.length ∧ i = .int .i64 k ∧ BRel3 s w Q (P + 1) o2 S.data.toList v zs ys ⟨E.toArray⟩ k wr) (fun i _ => zs.length - (intOf i).toNat)
          case atStart => exact ⟨0, Nat.zero_le _, rfl, R2.out⟩
          case round =>
            obtain ⟨k, hk, rfl, hin, hout, hb, hvb⟩ := hrel
            clear R2
            by_cases hkl : k < zs.length
            · obtain ⟨ad, rfl, had, hcells⟩ := HIA.out (by omega)
              obtain ⟨z, hzk⟩ : ∃ z, zs[k]? = some z := ⟨_, List.getElem?_eq_getElem hkl⟩
              have hlA : ∀ W : World, Below w.heap.size w W → W.cell? (ad.add k) = some (.int .i64 z) := fun W hW => (hW.cell (by rw [block_add]; exact had)).trans (hcells k z hzk)
              obtain ⟨l1, l2, l3, l4, RR⟩ := round_run S v zs k z hzk E HE.out HZ.out HV.out HS'.out
              have HRR := Lib.hid RR
              have HLA := Lib.hid hlA
              clear hcells hlA hzk RR
              have hE := eqV4
              have HEz : Hid ((⟨E.toArray⟩ : ByteArray).size ≤ 35184372088832) := Lib.hid (by show E.toArray.size ≤ _; simp; omega)
              have hwsz := hb.size
              have hQ : w.heap.size ≤ Q := by omega
              have HSS : Hid (∀ W : World, Below w.heap.size w W → VBlk W w.heap.size v → (W.cell? (ad.add k) = some (.int .i64 z) ∧ W.cell? ⟨w.heap.size, 0, none⟩ = some (.int .i64 v.a) ∧ W.cell? ⟨w.heap.size, 1, none⟩ = some (.int .i64 v.b) ∧ W.cell? ⟨w.heap.size, 2, none⟩ = some (.int .i64 v.c) ∧ W.cell? ⟨w.heap.size, 3, none⟩ = some (.int .i64 v.d))) := Lib.hid fun W h1 h2 =>
                ⟨HLA.out W h1, h2.cells.1, h2.cells.2.1, h2.cells.2.2.1, h2.cells.2.2.2.1⟩
              go_wp2_with fail
              go_region_held3 (fun W => W.cell? (ad.add k) = some (.int .i64 z) ∧ W.cell? ⟨w.heap.size, 0, none⟩ = some (.int .i64 v.a) ∧ W.cell? ⟨w.heap.size, 1, none⟩ = some (.int .i64 v.b) ∧ W.cell? ⟨w.heap.size, 2, none⟩ = some (.int .i64 v.c) ∧ W.cell? ⟨w.heap.size, 3, none⟩ = some (.int .i64 v.d))
                (exact HSS.out _ (by (repeat' (first | (with_reducible exact Below.refl _ _) | (with_reducible refine below_drewN ?_ _) | (with_reducible refine Below.drew ?_) | (with_reducible refine Below.alloc ?_ ?_ _) | (with_reducible refine Below.setCell ?_ ?_ _) | (with_reducible refine Below.trans ?_ (Below.mono (by with_reducible assumption) ?_)) | omega | (simp only [World.size_alloc, World.size_setCell, World.size_drew, Go.Proofs.YtcahidhcnhgbeaaDoor.World.size_drewN] at *; omega) | (with_reducible refine Below.size (B := 0) ?_)))) (by (repeat' (first | (with_reducible assumption) | (with_reducible exact Hid.out (by with_reducible assumption)) | (with_reducible refine VBlk.drewN ?_ _) | (with_reducible refine VBlk.drew ?_) | (with_reducible refine VBlk.alloc ?_ _)))))
                (first
                  | (go_at_call 19; (refine (int_q s Q _ ⟨l1, none⟩ z _ (SentB.of hs (by (repeat' (first | (with_reducible exact Below.refl _ _) | (with_reducible refine below_drewN ?_ _) | (with_reducible refine Below.drew ?_) | (with_reducible refine Below.alloc ?_ ?_ _) | (with_reducible refine Below.setCell ?_ ?_ _) | (with_reducible refine Below.trans ?_ (Below.mono (by with_reducible assumption) ?_)) | omega | (simp only [World.size_alloc, World.size_setCell, World.size_drew, Go.Proofs.YtcahidhcnhgbeaaDoor.World.size_drewN] at *; omega) | (with_reducible refine Below.size (B := 0) ?_)))) hQ) (by have := HEz.out; omega) (by (repeat' (first | (with_reducible assumption) | (with_reducible exact Hid.out (by with_reducible assumption)) | (with_reducible refine InAt.drewN ?_ _) | (with_reducible refine InAt.drew ?_)))) HRR.out.1.r1 rfl).mono ?_); rintro e w5 ⟨rfl, i5, g5⟩; have hb5 : Below w.heap.size w w5 := Below.trans (by (repeat' (first | (with_reducible exact Below.refl _ _) | (with_reducible refine below_drewN ?_ _) | (with_reducible refine Below.drew ?_) | (with_reducible refine Below.alloc ?_ ?_ _) | (with_reducible refine Below.setCell ?_ ?_ _) | (with_reducible refine Below.trans ?_ (Below.mono (by with_reducible assumption) ?_)) | omega | (simp only [World.size_alloc, World.size_setCell, World.size_drew, Go.Proofs.YtcahidhcnhgbeaaDoor.World.size_drewN] at *; omega) | (with_reducible refine Below.size (B := 0) ?_)))) (g5.below hQ hQ (by ((try simp only [World.size_alloc, World.size_setCell, World.size_drew, Go.Proofs.YtcahidhcnhgbeaaDoor.World.size_drewN]); omega))); have hv5 : VBlk w5 w.heap.size v := VBlk.kept (by (repeat' (first | (with_reducible assumption) | (with_reducible exact Hid.out (by with_reducible assumption)) | (with_reducible refine VBlk.drewN ?_ _) | (with_reducible refine VBlk.drew ?_) | (with_reducible refine VBlk.alloc ?_ _)))) g5 (by omega) (by omega); have ho5 : OutAt w5 (P + 1) o2 (encs ys) := OutAt.kept (by (repeat' (first | (with_reducible assumption) | (with_reducible exact Hid.out (by with_reducible assumption)) | (with_reducible refine OutAt.drewN ?_ _) | (with_reducible refine OutAt.drew ?_) | (with_reducible refine OutAt.alloc ?_ _)))) g5 (by omega) (by omega) (by omega) (by omega); have hz5 := hb5.size; clear g5)
                  | (go_at_call 21; (refine (text_q s Q _ S (S.size : Int) ⟨l2, none⟩ _ (SentB.of hs (by (repeat' (first | (with_reducible exact Below.refl _ _) | (with_reducible refine below_drewN ?_ _) | (with_reducible refine Below.drew ?_) | (with_reducible refine Below.alloc ?_ ?_ _) | (with_reducible refine Below.setCell ?_ ?_ _) | (with_reducible refine Below.trans ?_ (Below.mono (by with_reducible assumption) ?_)) | omega | (simp only [World.size_alloc, World.size_setCell, World.size_drew, Go.Proofs.YtcahidhcnhgbeaaDoor.World.size_drewN] at *; omega) | (with_reducible refine Below.size (B := 0) ?_)))) hQ) HEz.out (by (repeat' (first | (with_reducible assumption) | (with_reducible exact Hid.out (by with_reducible assumption)) | (with_reducible refine InAt.drewN ?_ _) | (with_reducible refine InAt.drew ?_)))) HRR.out.1.r2 rfl).mono ?_); rintro e w5 ⟨rfl, i5, g5⟩; have hb5 : Below w.heap.size w w5 := Below.trans (by (repeat' (first | (with_reducible exact Below.refl _ _) | (with_reducible refine below_drewN ?_ _) | (with_reducible refine Below.drew ?_) | (with_reducible refine Below.alloc ?_ ?_ _) | (with_reducible refine Below.setCell ?_ ?_ _) | (with_reducible refine Below.trans ?_ (Below.mono (by with_reducible assumption) ?_)) | omega | (simp only [World.size_alloc, World.size_setCell, World.size_drew, Go.Proofs.YtcahidhcnhgbeaaDoor.World.size_drewN] at *; omega) | (with_reducible refine Below.size (B := 0) ?_)))) (g5.below hQ hQ (by ((try simp only [World.size_alloc, World.size_setCell, World.size_drew, Go.Proofs.YtcahidhcnhgbeaaDoor.World.size_drewN]); omega))); have hv5 : VBlk w5 w.heap.size v := VBlk.kept (by (repeat' (first | (with_reducible assumption) | (with_reducible exact Hid.out (by with_reducible assumption)) | (with_reducible refine VBlk.drewN ?_ _) | (with_reducible refine VBlk.drew ?_) | (with_reducible refine VBlk.alloc ?_ _)))) g5 (by omega) (by omega); have ho5 : OutAt w5 (P + 1) o2 (encs ys) := OutAt.kept (by (repeat' (first | (with_reducible assumption) | (with_reducible exact Hid.out (by with_reducible assumption)) | (with_reducible refine OutAt.drewN ?_ _) | (with_reducible refine OutAt.drew ?_) | (with_reducible refine OutAt.alloc ?_ _)))) g5 (by omega) (by omega) (by omega) (by omega); have hz5 := hb5.size; clear g5)
                  | (go_at_call 23; (refine (vec_q s Q _ v ⟨l3, none⟩ _ (SentB.of hs (by (repeat' (first | (with_reducible exact Below.refl _ _) | (with_reducible refine below_drewN ?_ _) | (with_reducible refine Below.drew ?_) | (with_reducible refine Below.alloc ?_ ?_ _) | (with_reducible refine Below.setCell ?_ ?_ _) | (with_reducible refine Below.trans ?_ (Below.mono (by with_reducible assumption) ?_)) | omega | (simp only [World.size_alloc, World.size_setCell, World.size_drew, Go.Proofs.YtcahidhcnhgbeaaDoor.World.size_drewN] at *; omega) | (with_reducible refine Below.size (B := 0) ?_)))) hQ) (by have := HEz.out; omega) (by (repeat' (first | (with_reducible assumption) | (with_reducible exact Hid.out (by with_reducible assumption)) | (with_reducible refine InAt.drewN ?_ _) | (with_reducible refine InAt.drew ?_)))) HRR.out.1.r3 rfl).mono ?_); rintro e w5 ⟨rfl, i5, g5⟩; have hb5 : Below w.heap.size w w5 := Below.trans (by (repeat' (first | (with_reducible exact Below.refl _ _) | (with_reducible refine below_drewN ?_ _) | (with_reducible refine Below.drew ?_) | (with_reducible refine Below.alloc ?_ ?_ _) | (with_reducible refine Below.setCell ?_ ?_ _) | (with_reducible refine Below.trans ?_ (Below.mono (by with_reducible assumption) ?_)) | omega | (simp only [World.size_alloc, World.size_setCell, World.size_drew, Go.Proofs.YtcahidhcnhgbeaaDoor.World.size_drewN] at *; omega) | (with_reducible refine Below.size (B := 0) ?_)))) (g5.below hQ hQ (by ((try simp only [World.size_alloc, World.size_setCell, World.size_drew, Go.Proofs.YtcahidhcnhgbeaaDoor.World.size_drewN]); omega))); have hv5 : VBlk w5 w.heap.size v := VBlk.kept (by (repeat' (first | (with_reducible assumption) | (with_reducible exact Hid.out (by with_reducible assumption)) | (with_reducible refine VBlk.drewN ?_ _) | (with_reducible refine VBlk.drew ?_) | (with_reducible refine VBlk.alloc ?_ _)))) g5 (by omega) (by omega); have ho5 : OutAt w5 (P + 1) o2 (encs ys) := OutAt.kept (by (repeat' (first | (with_reducible assumption) | (with_reducible exact Hid.out (by with_reducible assumption)) | (with_reducible refine OutAt.drewN ?_ _) | (with_reducible refine OutAt.drew ?_) | (with_reducible refine OutAt.alloc ?_ _)))) g5 (by omega) (by omega) (by omega) (by omega); have hz5 := hb5.size; clear g5)
                  | (go_at_call 25; (refine (bool_q s Q _ (decide (0 < z)) ⟨l4, none⟩ _ (SentB.of hs (by (repeat' (first | (with_reducible exact Below.refl _ _) | (with_reducible refine below_drewN ?_ _) | (with_reducible refine Below.drew ?_) | (with_reducible refine Below.alloc ?_ ?_ _) | (with_reducible refine Below.setCell ?_ ?_ _) | (with_reducible refine Below.trans ?_ (Below.mono (by with_reducible assumption) ?_)) | omega | (simp only [World.size_alloc, World.size_setCell, World.size_drew, Go.Proofs.YtcahidhcnhgbeaaDoor.World.size_drewN] at *; omega) | (with_reducible refine Below.size (B := 0) ?_)))) hQ) (by have := HEz.out; omega) (by (repeat' (first | (with_reducible assumption) | (with_reducible exact Hid.out (by with_reducible assumption)) | (with_reducible refine InAt.drewN ?_ _) | (with_reducible refine InAt.drew ?_)))) HRR.out.1.r4 rfl).mono ?_); rintro e w5 ⟨rfl, i5, g5⟩; have hb5 : Below w.heap.size w w5 := Below.trans (by (repeat' (first | (with_reducible exact Below.refl _ _) | (with_reducible refine below_drewN ?_ _) | (with_reducible refine Below.drew ?_) | (with_reducible refine Below.alloc ?_ ?_ _) | (with_reducible refine Below.setCell ?_ ?_ _) | (with_reducible refine Below.trans ?_ (Below.mono (by with_reducible assumption) ?_)) | omega | (simp only [World.size_alloc, World.size_setCell, World.size_drew, Go.Proofs.YtcahidhcnhgbeaaDoor.World.size_drewN] at *; omega) | (with_reducible refine Below.size (B := 0) ?_)))) (g5.below hQ hQ (by ((try simp only [World.size_alloc, World.size_setCell, World.size_drew, Go.Proofs.YtcahidhcnhgbeaaDoor.World.size_drewN]); omega))); have hv5 : VBlk w5 w.heap.size v := VBlk.kept (by (repeat' (first | (with_reducible assumption) | (with_reducible exact Hid.out (by with_reducible assumption)) | (with_reducible refine VBlk.drewN ?_ _) | (with_reducible refine VBlk.drew ?_) | (with_reducible refine VBlk.alloc ?_ _)))) g5 (by omega) (by omega); have ho5 : OutAt w5 (P + 1) o2 (encs ys) := OutAt.kept (by (repeat' (first | (with_reducible assumption) | (with_reducible exact Hid.out (by with_reducible assumption)) | (with_reducible refine OutAt.drewN ?_ _) | (with_reducible refine OutAt.drew ?_) | (with_reducible refine OutAt.alloc ?_ _)))) g5 (by omega) (by omega) (by omega) (by omega); have hz5 := hb5.size; clear g5))
              all_goals go_wp2_with fail
              all_goals go_roundw
              all_goals first
                | exact ⟨k + 1, by omega, by go_num, by rw [← HRR.out.2]; (repeat' (first | (with_reducible assumption) | (with_reducible exact Hid.out (by with_reducible assumption)) | (with_reducible refine InAt.drewN ?_ _) | (with_reducible refine InAt.drew ?_))), by (repeat' (first | (with_reducible assumption) | (with_reducible exact Hid.out (by with_reducible assumption)) | (with_reducible refine OutAt.drewN ?_ _) | (with_reducible refine OutAt.drew ?_) | (with_reducible refine OutAt.alloc ?_ _))), by (repeat' (first | (with_reducible exact Below.refl _ _) | (with_reducible refine below_drewN ?_ _) | (with_reducible refine Below.drew ?_) | (with_reducible refine Below.alloc ?_ ?_ _) | (with_reducible refine Below.setCell ?_ ?_ _) | (with_reducible refine Below.trans ?_ (Below.mono (by with_reducible assumption) ?_)) | omega | (simp only [World.size_alloc, World.size_setCell, World.size_drew, Go.Proofs.YtcahidhcnhgbeaaDoor.World.size_drewN] at *; omega) | (with_reducible refine Below.size (B := 0) ?_))), by (repeat' (first | (with_reducible assumption) | (with_reducible exact Hid.out (by with_reducible assumption)) | (with_reducible refine VBlk.drewN ?_ _) | (with_reducible refine VBlk.drew ?_) | (with_reducible refine VBlk.alloc ?_ _)))⟩
                | (simp [intOf]; omega)
            · obtain rfl : k = zs.length := by omega
              rw [List.take_length, HE.out] at hin
              have hzz : (⟨E.toArray⟩ : ByteArray).size = E.length := by show E.toArray.size = _; simp
              have HEz := Lib.hid hzz; clear hzz
              have hwsz := hb.size
              have hQ : w.heap.size ≤ Q := by omega
              go_wp2_with fail
              refine (end_done s Q Q _ _ _ (by rw [HEz.out]; omega) rfl (by rw [HEz.out]; simp) hin).mono ?_
              rintro e w5 ⟨rfl, b5⟩
              have I5 := Lib.hid (hin.below b5 hin.lt.1 hin.lt.1)
              have O5 := Lib.hid (hout.below b5 hout.lt.1 hout.lt.2.2)
              have K5 := Lib.hid (hb.trans (b5.mono hwsz))
              clear hin hout hb hvb b5
              go_wp2_with fail
              refine (left_c s Q Q _ _ _ (by rw [HEz.out]; omega) I5.out).mono ?_
              rintro e w6 ⟨rfl, nd, rfl⟩
              rw [show (((⟨E.toArray⟩ : ByteArray).size : Nat) : Int) - ((E.length : Nat) : Int) = 0 from by rw [HEz.out]; omega]
              have O6 := Lib.hid (O5.out.drewN nd)
              have K6 := Lib.hid (below_drewN K5.out nd)
              clear O5 K5 I5
              have hos := O6.out.lt
              have R3 : Hid (BRel4 w (P + 1) o2 (w5.drewN nd).heap.size zs ys 0 ((w5.drewN nd).alloc (.cells #[.slice none 0 0] 27))) := Lib.hid ⟨_, by simpa [encs] using (OutAt.new (w5.drewN nd)), O6.out.alloc _, by omega, by omega, Below.alloc K6.out K6.out.size _⟩
              go_wp2_with fail
              obtain ⟨P3, hP3⟩ : ∃ P3, P3 = w5.heap.size := ⟨_, rfl⟩
              have hP3' : (w5.drewN nd).heap.size = P3 := hP3.symm
              rw [hP3'] at R3
              rw [← hP3]
              clear hP3 hP3' O6 K6 hos
              have hst : (((zs.length : Nat) : Int) == ((ys.length : Nat) : Int)) = sameB zs ys 0 := same_start zs ys
              have HST := Lib.hid hst; clear hst
              obtain ⟨wo3, rfl⟩ : ∃ wo : World, wo = wr := ⟨_, rfl⟩
              go_loopw [16, 17] (fun sm i wr => ∃ (k : Nat) (t : Bool), k ≤ zs.length ∧ sm = .bool t ∧ i = .int .i64 k ∧ Hid (t = sameB zs ys k) ∧ BRel4 w (P + 1) o2 P3 zs ys k wr) (fun _ i _ => zs.length - (intOf i).toNat)
              case atStart => exact ⟨0, _, Nat.zero_le _, rfl, rfl, HST, R3.out⟩
              case round =>
                obtain ⟨k, t, hk, rfl, rfl, HT, o3, h3, h2, hp23, ho23, hb⟩ := hrel
                clear R3 HST
                have hbz := hb.size
                have hl3 := h3.lt
                by_cases hkl : k < zs.length
                · obtain ⟨ad, rfl, had, hcells⟩ := HIA.out (by omega)
                  obtain ⟨z, hzk⟩ : ∃ z, zs[k]? = some z := ⟨_, List.getElem?_eq_getElem hkl⟩
                  have ck : wr.cell? (ad.add k) = some (.int .i64 z) := (hb.cell (by rw [block_add]; exact had)).trans (hcells k z hzk)
                  have hzi := i64_at HZ.out hzk
                  have hle3 := encs_len (zs.take k) (fun x hx => HZ.out x (List.mem_of_mem_take hx))
                  have hzt : (zs.take k).length = k := by simp; omega
                  rw [hzt] at hle3
                  have HK := Lib.hid hzk
                  clear hzk hzt
                  cases t with
                  | false =>
                    clear hcells
                    have HT' := Lib.hid (same_false HT.out)
                    go_wp2_with fail
                    refine (out_int z P3 o3 _ _ hzi h3 (by omega)).mono ?_
                    rintro e w6 ⟨rfl, o4, i4, g4, q4⟩
                    rw [← encs_snoc, ← take_snocI zs k z HK.out] at i4
                    have H4 := Lib.hid i4
                    have O4 := Lib.hid (h2.kept g4 (by omega) (by omega) (by omega) (by omega))
                    have K4 := Lib.hid (hb.trans (g4.below (by omega) (by omega) hbz))
                    clear i4 g4 h3 h2 hb ck
                    go_wp2_with fail
                    go_quiet (fail)
                    go_wp2_with fail
                    go_roundw
                    case rel => exact ⟨k + 1, false, by omega, rfl, by go_num, HT', o4, H4.out.drewN _, O4.out.drewN _, hp23, ho23, below_drewN K4.out _⟩
                    case measure => simp [intOf]; omega
                  | true =>
                    obtain ⟨hlen, y, hyk, hnext⟩ := same_true HT.out HK.out
                    obtain ⟨bd, rfl, hbd, hcells2⟩ := HIB.out (by omega)
                    have hlA : ∀ W : World, Below w.heap.size w W → W.cell? (ad.add k) = some (.int .i64 z) ∧ W.cell? (bd.add k) = some (.int .i64 y) := fun W hW => ⟨(hW.cell (by rw [block_add]; exact had)).trans (hcells k z HK.out), (hW.cell (by rw [block_add]; exact hbd)).trans (hcells2 k y hyk)⟩
                    have HLA := Lib.hid hlA
                    have HN := Lib.hid hnext
                    have hkm : k < ys.length := by omega
                    have HL := Lib.hid hlen
                    clear hcells hcells2 hlA hnext hyk hlen
                    go_wp2_with fail
                    refine (out_int z P3 o3 _ _ hzi h3 (by omega)).mono ?_
                    rintro e w6 ⟨rfl, o4, i4, g4, q4⟩
                    rw [← encs_snoc, ← take_snocI zs k z HK.out] at i4
                    have H4 := Lib.hid i4
                    have O4 := Lib.hid (h2.kept g4 (by omega) (by omega) (by omega) (by omega))
                    have K4 := Lib.hid (hb.trans (g4.below (by omega) (by omega) hbz))
                    clear i4 g4 h3 h2 hb ck
                    obtain ⟨ca, cb⟩ := HLA.out _ K4.out
                    go_wp2_with fail
                    go_quiet (fail)
                    go_wp2_with fail
                    go_roundw
                    case rel => exact ⟨k + 1, z == y, by omega, rfl, by go_num, HN, o4, H4.out.drewN _, O4.out.drewN _, hp23, ho23, below_drewN K4.out _⟩
                    case measure => simp [intOf]; omega
                · obtain rfl : k = zs.length := by omega
                  rw [List.take_length] at h3
                  cases t with
                  | true =>
                    have hzy := same_all HT.out
                    have HE2 := Lib.hid (show encs ys = encs zs by rw [hzy])
                    rw [HE2.out] at h2
                    clear hzy
                    go_wp2_with fail
                    refine (out_bytes P3 o3 _ _ h3).mono ?_
                    rintro e w6 ⟨rfl, rfl⟩
                    go_wp2_with fail
                    refine (out_bytes (P + 1) o2 _ _ h2).mono ?_
                    rintro e w6 ⟨rfl, rfl⟩
                    go_wp2_with fail
                    go_ret
                    exact ⟨rfl, hb⟩
                  | false =>
                    have hne := Lib.hid (encs_ne HT.out HZ.out HY.out)
                    go_wp2_with fail
                    refine (out_bytes P3 o3 _ _ h3).mono ?_
                    rintro e w6 ⟨rfl, rfl⟩
                    go_wp2_with fail
                    refine (out_bytes (P + 1) o2 _ _ h2).mono ?_
                    rintro e w6 ⟨rfl, rfl⟩
                    go_wp2_with fail
                    go_ret
                    exact ⟨ret_bb (show (!(encs zs == encs ys)) = true by rw [beq_eq_false_iff_ne.2 hne.out]; rfl), hb⟩

theorem back_any (s : Nat → Addr) (A B : Option Addr) (cn cm : Nat) (zs ys : List Int) (S : ByteArray) (v : Q4) (w : World) (hs : Sent s w) (hn : zs.length ≤ 9223372036854775807) (hm : ys.length ≤ 9223372036854775807) (hS : S.size ≤ 9223372036854775807) (hv : Good4 v) (hz : ∀ z ∈ zs, I64 z) (hy : ∀ z ∈ ys, I64 z)
    (hA : IRow w w.heap.size A zs) (hB : IRow w w.heap.size B ys) :
    Calls Tryd.prog 5 #[.slice A zs.length cn, .slice B ys.length cm, .string S, .agg #[.int .i64 v.a, .int .i64 v.b, .int .i64 v.c, .int .i64 v.d]] w fun e w' => e = .returned (.bool true) ∧ Below w.heap.size w w' := by
  by_cases h : 40 < zs.length ∨ 40 < ys.length ∨ 100 < S.size
  · exact back_long s A B zs.length cn ys.length cm S v w hs hn hm hS h
  · exact back_walk s A B cn cm zs ys S v w hs (by omega) (by omega) (by omega) hv hz hy hA hB
end Go.Proofs.YtcahidhcnhgbeaaDoor
