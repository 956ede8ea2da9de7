/- Contracts of the package ceil: Excess and Room whatever the arguments, and May. Conditions: the sentinels lie as the text lays them. -/
import Derived.Test.YtmimlniofhngjaaDoorCe
namespace Go.Proofs.YtmimlniofhngjaaDoor
open Go Go.RowKit

set_option maxRecDepth 100000 in
set_option maxHeartbeats 1600000 in
theorem exc_bad (s : Nat → Addr) (x c : V4) (n : Int) (w : World) (hs : Sent s w) (hx : (goodV x && (goodV c && ratB n)) = false) :
    Calls Tryd.prog 12 #[.agg #[.int .i64 x.a, .int .i64 x.b, .int .i64 x.c, .int .i64 x.d], .agg #[.int .i64 c.a, .int .i64 c.b, .int .i64 c.c, .int .i64 c.d], .int .i64 n] w fun e w' => e = .returned (.tuple #[.agg #[.int .i64 ((excR x c n).1).a, .int .i64 ((excR x c n).1).b, .int .i64 ((excR x c n).1).c, .int .i64 ((excR x c n).1).d], errV s (excR x c n).2]) ∧ Below w.heap.size w w' := by
  rw [show excR x c n = (⟨0, 0, 0, 0⟩, 1) by unfold excR; rw [hx]; rfl]
  have hR : besideR x c n = (⟨0, 0, 0, 0⟩, 1) := by
    unfold besideR topR
    cases h1 : goodV x
    · rfl
    · rw [h1, Bool.true_and] at hx; rw [hx]; rfl
  have HB := Lib.hid (fun W h => beside_c s x c n W h)
  rw [hR] at HB
  rw [show errV s ((⟨0, 0, 0, 0⟩, 1) : V4 × Nat).2 = .iface 83 (.pointer (some (s 0))) from rfl] at HB ⊢
  clear hR hx
  go_enter Tryd.func12, Tryd.ntmps12
  go_wp2_with fail
  refine (HB.out _ (hs.below (B := w.heap.size) (by (repeat' (first | (with_reducible exact Below.refl _ _) | (with_reducible refine below_drewN ?_ _) | (with_reducible refine Below.drew ?_) | (with_reducible refine Below.alloc ?_ ?_ _) | (with_reducible refine Below.setCell ?_ ?_ _) | (with_reducible refine Below.trans ?_ (Below.mono (by with_reducible assumption) ?_)) | omega | (simp only [World.size_alloc] at *; omega) | (with_reducible refine Below.size (B := 0) ?_)))) (Nat.le_refl _))).mono ?_
  rintro e w2 ⟨rfl, hb2⟩
  have Vz : Vb w2 (w.heap.size + 1 + 1) ⟨0, 0, 0, 0⟩ := (Vb.new_at (by simp) ⟨0, 0, 0, 0⟩).step0 hb2
  obtain ⟨c0, c1, c2, c3, cf, cl⟩ := Vz.facts
  clear Vz
  go_wp2_with fail
  exact bodyPost_ret (v := .tuple #[.agg #[.int .i64 0, .int .i64 0, .int .i64 0, .int .i64 0], .iface 83 (.pointer (some (s 0)))]) (by simp [results, Tryd.results12, go_sem, c0, c1, c2, c3, cl]) rfl ⟨rfl, by (repeat' (first | (with_reducible exact Below.refl _ _) | (with_reducible refine below_drewN ?_ _) | (with_reducible refine Below.drew ?_) | (with_reducible refine Below.alloc ?_ ?_ _) | (with_reducible refine Below.setCell ?_ ?_ _) | (with_reducible refine Below.trans ?_ (Below.mono (by with_reducible assumption) ?_)) | omega | (simp only [World.size_alloc, World.size_setCell] at *; omega) | (with_reducible refine Below.size (B := 0) ?_)))⟩

theorem exc_c (s : Nat → Addr) (x c : V4) (n : Int) (w : World) (hs : Sent s w) :
    Calls Tryd.prog 12 #[.agg #[.int .i64 x.a, .int .i64 x.b, .int .i64 x.c, .int .i64 x.d], .agg #[.int .i64 c.a, .int .i64 c.b, .int .i64 c.c, .int .i64 c.d], .int .i64 n] w fun e w' => e = .returned (.tuple #[.agg #[.int .i64 ((excR x c n).1).a, .int .i64 ((excR x c n).1).b, .int .i64 ((excR x c n).1).c, .int .i64 ((excR x c n).1).d], errV s (excR x c n).2]) ∧ Below w.heap.size w w' := by
  cases h : goodV x && (goodV c && ratB n)
  · exact exc_bad s x c n w hs h
  · rw [Bool.and_eq_true, Bool.and_eq_true] at h
    exact exc_good s x c n w hs h.1 h.2.1 h.2.2

set_option maxRecDepth 100000 in
set_option maxHeartbeats 1600000 in
theorem room_bad (s : Nat → Addr) (x c : V4) (n : Int) (w : World) (hs : Sent s w) (hx : (goodV x && (goodV c && ratB n)) = false) :
    Calls Tryd.prog 13 #[.agg #[.int .i64 x.a, .int .i64 x.b, .int .i64 x.c, .int .i64 x.d], .agg #[.int .i64 c.a, .int .i64 c.b, .int .i64 c.c, .int .i64 c.d], .int .i64 n] w fun e w' => e = .returned (.tuple #[.agg #[.int .i64 ((roomR x c n).1).a, .int .i64 ((roomR x c n).1).b, .int .i64 ((roomR x c n).1).c, .int .i64 ((roomR x c n).1).d], errV s (roomR x c n).2]) ∧ Below w.heap.size w w' := by
  rw [show roomR x c n = (⟨0, 0, 0, 0⟩, 1) by unfold roomR; rw [hx]; rfl]
  have hR : besideR x c n = (⟨0, 0, 0, 0⟩, 1) := by
    unfold besideR topR
    cases h1 : goodV x
    · rfl
    · rw [h1, Bool.true_and] at hx; rw [hx]; rfl
  have HB := Lib.hid (fun W h => beside_c s x c n W h)
  rw [hR] at HB
  rw [show errV s ((⟨0, 0, 0, 0⟩, 1) : V4 × Nat).2 = .iface 83 (.pointer (some (s 0))) from rfl] at HB ⊢
  clear hR hx
  go_enter Tryd.func13, Tryd.ntmps13
  go_wp2_with fail
  refine (HB.out _ (hs.below (B := w.heap.size) (by (repeat' (first | (with_reducible exact Below.refl _ _) | (with_reducible refine below_drewN ?_ _) | (with_reducible refine Below.drew ?_) | (with_reducible refine Below.alloc ?_ ?_ _) | (with_reducible refine Below.setCell ?_ ?_ _) | (with_reducible refine Below.trans ?_ (Below.mono (by with_reducible assumption) ?_)) | omega | (simp only [World.size_alloc] at *; omega) | (with_reducible refine Below.size (B := 0) ?_)))) (Nat.le_refl _))).mono ?_
  rintro e w2 ⟨rfl, hb2⟩
  have Vz : Vb w2 (w.heap.size + 1 + 1) ⟨0, 0, 0, 0⟩ := (Vb.new_at (by simp) ⟨0, 0, 0, 0⟩).step0 hb2
  obtain ⟨c0, c1, c2, c3, cf, cl⟩ := Vz.facts
  clear Vz
  go_wp2_with fail
  exact bodyPost_ret (v := .tuple #[.agg #[.int .i64 0, .int .i64 0, .int .i64 0, .int .i64 0], .iface 83 (.pointer (some (s 0)))]) (by simp [results, Tryd.results13, go_sem, c0, c1, c2, c3, cl]) rfl ⟨rfl, by (repeat' (first | (with_reducible exact Below.refl _ _) | (with_reducible refine below_drewN ?_ _) | (with_reducible refine Below.drew ?_) | (with_reducible refine Below.alloc ?_ ?_ _) | (with_reducible refine Below.setCell ?_ ?_ _) | (with_reducible refine Below.trans ?_ (Below.mono (by with_reducible assumption) ?_)) | omega | (simp only [World.size_alloc, World.size_setCell] at *; omega) | (with_reducible refine Below.size (B := 0) ?_)))⟩

theorem room_c (s : Nat → Addr) (x c : V4) (n : Int) (w : World) (hs : Sent s w) :
    Calls Tryd.prog 13 #[.agg #[.int .i64 x.a, .int .i64 x.b, .int .i64 x.c, .int .i64 x.d], .agg #[.int .i64 c.a, .int .i64 c.b, .int .i64 c.c, .int .i64 c.d], .int .i64 n] w fun e w' => e = .returned (.tuple #[.agg #[.int .i64 ((roomR x c n).1).a, .int .i64 ((roomR x c n).1).b, .int .i64 ((roomR x c n).1).c, .int .i64 ((roomR x c n).1).d], errV s (roomR x c n).2]) ∧ Below w.heap.size w w' := by
  cases h : goodV x && (goodV c && ratB n)
  · exact room_bad s x c n w hs h
  · rw [Bool.and_eq_true, Bool.and_eq_true] at h
    exact room_good s x c n w hs h.1 h.2.1 h.2.2

/-- The Fault of a ceiling that would be passed. -/
def ceilRow (s : Nat → Addr) (k : Nat) : Array Value := #[.string ⟨#[99, 101, 105, 108]⟩, .int .i64 (k : Int), .iface 83 (.pointer (some (s 8)))]
/-- What May returns. -/
def MayV (s : Nat → Addr) (w : World) (r : Nat × Nat) (ev : Value) : Prop :=
  (r.1 = 9 ∧ ∃ g, ev = .iface 31 (.pointer (some ⟨g, 0, none⟩)) ∧ w.heap[g]? = some (.cells (ceilRow s r.2) 35 (0, 0))) ∨ (r.1 ≠ 9 ∧ ev = errV s r.1)
theorem MayV.below {s : Nat → Addr} {w w' : World} {r : Nat × Nat} {ev : Value} {B : Nat} (h : MayV s w r ev) (hb : Below B w w') (hB : w.heap.size ≤ B) : MayV s w' r ev := by
  rcases h with ⟨h0, g, h1, h2⟩ | h
  · exact .inl ⟨h0, g, h1, (hb.block g (Nat.lt_of_lt_of_le (lt_of_row h2) hB)).trans h2⟩
  · exact .inr h
theorem MayV.drewN {s : Nat → Addr} {w : World} {r : Nat × Nat} {ev : Value} (h : MayV s w r ev) (n : Nat) : MayV s (w.drewN n) r ev := h

theorem may_none {i m c : V4} {n : Int} (h : (goodV c && ratB n) = false) : mayR i m c n = (1, 0) := by unfold mayR; rw [h]; rfl
theorem may_add {i m c : V4} {n : Int} (h : (goodV c && ratB n) = true) (h2 : (addR i m).2 ≠ 0) : mayR i m c n = ((addR i m).2, 0) := by
  unfold mayR; rw [h, if_pos rfl, if_neg h2]
theorem may_ok {i m c : V4} {n : Int} (h : (goodV c && ratB n) = true) (h2 : (addR i m).2 = 0) :
    mayR i m c n = if firstB m (addR i m).1 (topV c n) < 4 then (9, firstB m (addR i m).1 (topV c n)) else (0, 0) := by
  unfold mayR; rw [h, if_pos rfl, if_pos h2]

set_option maxRecDepth 100000 in
set_option maxHeartbeats 1600000 in
theorem may_bad (s : Nat → Addr) (i m c : V4) (n : Int) (w : World) (hs : Sent s w) (h : (goodV c && ratB n) = false) :
    Calls Tryd.prog 7 #[.agg #[.int .i64 i.a, .int .i64 i.b, .int .i64 i.c, .int .i64 i.d], .agg #[.int .i64 m.a, .int .i64 m.b, .int .i64 m.c, .int .i64 m.d], .agg #[.int .i64 c.a, .int .i64 c.b, .int .i64 c.c, .int .i64 c.d], .int .i64 n] w fun e w' => (∃ ev, e = .returned ev ∧ MayV s w' (mayR i m c n) ev) ∧ Below w.heap.size w w' := by
  rw [may_none h]
  have HT := Lib.hid (fun W h => top_c s c n W h)
  rw [show topR c n = (⟨0, 0, 0, 0⟩, 1) by unfold topR; rw [h]; rfl] at HT
  rw [show errV s ((⟨0, 0, 0, 0⟩, 1) : V4 × Nat).2 = .iface 83 (.pointer (some (s 0))) from rfl] at HT
  clear h
  go_enter Tryd.func7, Tryd.ntmps7
  go_wp2_with fail
  refine (HT.out _ (hs.below (B := w.heap.size) (by (repeat' (first | (with_reducible exact Below.refl _ _) | (with_reducible refine below_drewN ?_ _) | (with_reducible refine Below.drew ?_) | (with_reducible refine Below.alloc ?_ ?_ _) | (with_reducible refine Below.setCell ?_ ?_ _) | (with_reducible refine Below.trans ?_ (Below.mono (by with_reducible assumption) ?_)) | omega | (simp only [World.size_alloc] at *; omega) | (with_reducible refine Below.size (B := 0) ?_)))) (Nat.le_refl _))).mono ?_
  rintro e w2 ⟨rfl, hb2⟩
  go_wp2_with fail
  go_ret
  exact ⟨⟨_, rfl, .inr ⟨by decide, rfl⟩⟩, by (repeat' (first | (with_reducible exact Below.refl _ _) | (with_reducible refine below_drewN ?_ _) | (with_reducible refine Below.drew ?_) | (with_reducible refine Below.alloc ?_ ?_ _) | (with_reducible refine Below.setCell ?_ ?_ _) | (with_reducible refine Below.trans ?_ (Below.mono (by with_reducible assumption) ?_)) | omega | (simp only [World.size_alloc] at *; omega) | (with_reducible refine Below.size (B := 0) ?_)))⟩

set_option maxRecDepth 100000 in
set_option maxHeartbeats 1600000 in
theorem may_over (s : Nat → Addr) (i m c : V4) (n : Int) (w : World) (hs : Sent s w) (h : (goodV c && ratB n) = true) (h2 : (addR i m).2 ≠ 0) :
    Calls Tryd.prog 7 #[.agg #[.int .i64 i.a, .int .i64 i.b, .int .i64 i.c, .int .i64 i.d], .agg #[.int .i64 m.a, .int .i64 m.b, .int .i64 m.c, .int .i64 m.d], .agg #[.int .i64 c.a, .int .i64 c.b, .int .i64 c.c, .int .i64 c.d], .int .i64 n] w fun e w' => (∃ ev, e = .returned ev ∧ MayV s w' (mayR i m c n) ev) ∧ Below w.heap.size w w' := by
  rw [may_add h h2]
  have h9 : (addR i m).2 ≠ 9 := by
    have : (addR i m).2 = 0 ∨ (addR i m).2 = 1 ∨ (addR i m).2 = 4 := by unfold addR; (repeat' split) <;> simp
    omega
  have HT := Lib.hid (fun W h => top_c s c n W h)
  rw [show topR c n = (topV c n, 0) by unfold topR; rw [h]; rfl] at HT
  have HA := Lib.hid (fun W h => add_err s i m W h h2)
  generalize topV c n = T at HT
  rw [show errV s ((T, 0) : V4 × Nat).2 = .nilIface from rfl] at HT
  have h2' : errV s (addR i m).2 = .iface 83 (.pointer (some (s ((addR i m).2 - 1)))) := if_neg h2
  have H2 := Lib.hid h2'
  have H9 := Lib.hid h9
  clear h h2 h2' h9
  go_enter Tryd.func7, Tryd.ntmps7
  go_wp2_with fail
  refine (HT.out _ (hs.below (B := w.heap.size) (by (repeat' (first | (with_reducible exact Below.refl _ _) | (with_reducible refine below_drewN ?_ _) | (with_reducible refine Below.drew ?_) | (with_reducible refine Below.alloc ?_ ?_ _) | (with_reducible refine Below.setCell ?_ ?_ _) | (with_reducible refine Below.trans ?_ (Below.mono (by with_reducible assumption) ?_)) | omega | (simp only [World.size_alloc] at *; omega) | (with_reducible refine Below.size (B := 0) ?_)))) (Nat.le_refl _))).mono ?_
  rintro e w2 ⟨rfl, hb2⟩
  have Vi : Vb w2 w.heap.size i := (((Vb.new w i).alloc _).alloc _).step0 hb2
  have Vm : Vb w2 (w.heap.size + 1) m := ((Vb.new_at (by simp) m).alloc _).step0 hb2
  obtain ⟨a0, a1, a2, a3, af, al⟩ := Vi.facts
  obtain ⟨c0, c1, c2, c3, cf, cl⟩ := Vm.facts
  clear Vi Vm
  go_wp2_with fail
  refine (HA.out _ (hs.below (B := w.heap.size) (by (repeat' (first | (with_reducible exact Below.refl _ _) | (with_reducible refine below_drewN ?_ _) | (with_reducible refine Below.drew ?_) | (with_reducible refine Below.alloc ?_ ?_ _) | (with_reducible refine Below.setCell ?_ ?_ _) | (with_reducible refine Below.trans ?_ (Below.mono (by with_reducible assumption) ?_)) | omega | (simp only [World.size_alloc] at *; omega) | (with_reducible refine Below.size (B := 0) ?_)))) (Nat.le_refl _))).mono ?_
  rintro e w3 ⟨rfl, hb3⟩
  clear a0 a1 a2 a3 af al c0 c1 c2 c3 cf cl
  go_wp2_with fail
  go_ret
  exact ⟨⟨_, rfl, .inr ⟨H9.out, H2.out.symm⟩⟩, by (repeat' (first | (with_reducible exact Below.refl _ _) | (with_reducible refine below_drewN ?_ _) | (with_reducible refine Below.drew ?_) | (with_reducible refine Below.alloc ?_ ?_ _) | (with_reducible refine Below.setCell ?_ ?_ _) | (with_reducible refine Below.trans ?_ (Below.mono (by with_reducible assumption) ?_)) | omega | (simp only [World.size_alloc] at *; omega) | (with_reducible refine Below.size (B := 0) ?_)))⟩

theorem first4 {m s t : V4} (h0 : (m.a != 0) = false ∨ s.a ≤ t.a) (h1 : (m.b != 0) = false ∨ s.b ≤ t.b) (h2 : (m.c != 0) = false ∨ s.c ≤ t.c) (h3 : (m.d != 0) = false ∨ s.d ≤ t.d) : firstB m s t = 4 := by
  have k : ∀ x y z : Int, (x != 0) = false ∨ y ≤ z → badB x y z = false := fun x y z h => by
    unfold badB; rcases h with h | h
    · rw [h]; rfl
    · rw [decide_eq_false (by omega)]; simp
  unfold firstB; rw [k _ _ _ h0, k _ _ _ h1, k _ _ _ h2, k _ _ _ h3]; rfl
theorem first0 {m s t : V4} (h0 : (m.a != 0) = true ∧ t.a < s.a) : firstB m s t = 0 := by
  unfold firstB badB; rw [h0.1, decide_eq_true (by omega)]; rfl
theorem first1 {m s t : V4} (h0 : (m.a != 0) = false ∨ s.a ≤ t.a) (h1 : (m.b != 0) = true ∧ t.b < s.b) : firstB m s t = 1 := by
  have k : ∀ x y z : Int, (x != 0) = false ∨ y ≤ z → badB x y z = false := fun x y z h => by
    unfold badB; rcases h with h | h
    · rw [h]; rfl
    · rw [decide_eq_false (by omega)]; simp
  unfold firstB; rw [k _ _ _ h0]; unfold badB; rw [h1.1, decide_eq_true (by omega)]; rfl
theorem first2 {m s t : V4} (h0 : (m.a != 0) = false ∨ s.a ≤ t.a) (h1 : (m.b != 0) = false ∨ s.b ≤ t.b) (h2 : (m.c != 0) = true ∧ t.c < s.c) : firstB m s t = 2 := by
  have k : ∀ x y z : Int, (x != 0) = false ∨ y ≤ z → badB x y z = false := fun x y z h => by
    unfold badB; rcases h with h | h
    · rw [h]; rfl
    · rw [decide_eq_false (by omega)]; simp
  unfold firstB; rw [k _ _ _ h0, k _ _ _ h1]; unfold badB; rw [h2.1, decide_eq_true (by omega)]; rfl
theorem first3 {m s t : V4} (h0 : (m.a != 0) = false ∨ s.a ≤ t.a) (h1 : (m.b != 0) = false ∨ s.b ≤ t.b) (h2 : (m.c != 0) = false ∨ s.c ≤ t.c) (h3 : (m.d != 0) = true ∧ t.d < s.d) : firstB m s t = 3 := by
  have k : ∀ x y z : Int, (x != 0) = false ∨ y ≤ z → badB x y z = false := fun x y z h => by
    unfold badB; rcases h with h | h
    · rw [h]; rfl
    · rw [decide_eq_false (by omega)]; simp
  unfold firstB; rw [k _ _ _ h0, k _ _ _ h1, k _ _ _ h2]; unfold badB; rw [h3.1, decide_eq_true (by omega)]; rfl
theorem heap_new_at {W : World} {g : Nat} (hg : g = W.heap.size) (o : Obj) : (W.alloc o).heap[g]? = some o := by subst hg; exact heap_alloc_new W o
theorem no_of_zero {m : Int} {P : Prop} (h : m = 0) : (m != 0) = false ∨ P := .inl (by rw [h]; rfl)
theorem may_end4 {s : Nat → Addr} {k : Nat} {w : World} {R : Nat × Nat} (hR : (if k < 4 then (9, k) else (0, 0)) = R) (h : k = 4) : MayV s w R .nilIface := by
  subst h; subst hR; exact .inr ⟨by decide, rfl⟩
theorem may_endk {s : Nat → Addr} {k j : Nat} {w : World} {R : Nat × Nat} (hR : (if k < 4 then (9, k) else (0, 0)) = R) (h : k = j) (hj : j < 4) {g : Nat} (hw : w.heap[g]? = some (.cells (ceilRow s j) 35 (0, 0))) : MayV s w R (.iface 31 (.pointer (some ⟨g, 0, none⟩))) := by
  subst h; rw [if_pos hj] at hR; subst hR; exact .inl ⟨rfl, g, rfl, hw⟩

set_option maxRecDepth 100000 in
set_option maxHeartbeats 1600000 in
theorem may_good (s : Nat → Addr) (i m c : V4) (n : Int) (w : World) (hs : Sent s w) (h : (goodV c && ratB n) = true) (h2 : (addR i m).2 = 0) :
    Calls Tryd.prog 7 #[.agg #[.int .i64 i.a, .int .i64 i.b, .int .i64 i.c, .int .i64 i.d], .agg #[.int .i64 m.a, .int .i64 m.b, .int .i64 m.c, .int .i64 m.d], .agg #[.int .i64 c.a, .int .i64 c.b, .int .i64 c.c, .int .i64 c.d], .int .i64 n] w fun e w' => (∃ ev, e = .returned ev ∧ MayV s w' (mayR i m c n) ev) ∧ Below w.heap.size w w' := by
  rw [may_ok h h2]
  have HT := Lib.hid (fun W h => top_c s c n W h)
  rw [show topR c n = (topV c n, 0) by unfold topR; rw [h]; rfl] at HT
  have HA := Lib.hid (fun W h => add_ok s i m W h h2)
  generalize topV c n = T at HT ⊢
  generalize (addR i m).1 = S at HA ⊢
  rw [show errV s ((T, 0) : V4 × Nat).2 = .nilIface from rfl] at HT
  have hg := hs.cell 8 (by omega)
  simp only [gnum, List.getD_cons_zero, List.getD_cons_succ] at hg
  obtain ⟨R, hR⟩ : ∃ R, (if firstB m S T < 4 then (9, firstB m S T) else (0, 0)) = R := ⟨_, rfl⟩
  have HR := Lib.hid hR
  rw [hR]
  clear h h2 hR
  have i0 := ix0
  have i1 := ix1
  have i2 := ix2
  have i3 := ix3
  go_enter Tryd.func7, Tryd.ntmps7
  go_wp2_with fail
  refine (HT.out _ (hs.below (B := w.heap.size) (by (repeat' (first | (with_reducible exact Below.refl _ _) | (with_reducible refine below_drewN ?_ _) | (with_reducible refine Below.drew ?_) | (with_reducible refine Below.alloc ?_ ?_ _) | (with_reducible refine Below.setCell ?_ ?_ _) | (with_reducible refine Below.trans ?_ (Below.mono (by with_reducible assumption) ?_)) | omega | (simp only [World.size_alloc] at *; omega) | (with_reducible refine Below.size (B := 0) ?_)))) (Nat.le_refl _))).mono ?_
  rintro e w2 ⟨rfl, hb2⟩
  have Vi : Vb w2 w.heap.size i := (((Vb.new w i).alloc _).alloc _).step0 hb2
  have Vm : Vb w2 (w.heap.size + 1) m := ((Vb.new_at (by simp) m).alloc _).step0 hb2
  obtain ⟨a0, a1, a2, a3, af, al⟩ := Vi.facts
  obtain ⟨c0, c1, c2, c3, cf, cl⟩ := Vm.facts
  go_wp2_with fail
  refine (HA.out _ (hs.below (B := w.heap.size) (by (repeat' (first | (with_reducible exact Below.refl _ _) | (with_reducible refine below_drewN ?_ _) | (with_reducible refine Below.drew ?_) | (with_reducible refine Below.alloc ?_ ?_ _) | (with_reducible refine Below.setCell ?_ ?_ _) | (with_reducible refine Below.trans ?_ (Below.mono (by with_reducible assumption) ?_)) | omega | (simp only [World.size_alloc] at *; omega) | (with_reducible refine Below.size (B := 0) ?_)))) (Nat.le_refl _))).mono ?_
  rintro e w3 ⟨rfl, hb3⟩
  clear a0 a1 a2 a3 af al c0 c1 c2 c3 cf cl Vi
  replace Vm := Vm.step hb3
  have Vt := Vb.fresh T hb3
  have K3 : Below w.heap.size w w3 := by (repeat' (first | (with_reducible exact Below.refl _ _) | (with_reducible refine below_drewN ?_ _) | (with_reducible refine Below.drew ?_) | (with_reducible refine Below.alloc ?_ ?_ _) | (with_reducible refine Below.setCell ?_ ?_ _) | (with_reducible refine Below.trans ?_ (Below.mono (by with_reducible assumption) ?_)) | omega | (simp only [World.size_alloc] at *; omega) | (with_reducible refine Below.size (B := 0) ?_)))
  have hg3 := (K3.cell (p := ⟨0, 0, none⟩) (lt_of_cell hg)).trans hg
  obtain ⟨c0, c1, c2, c3, cf, cl⟩ := Vm.facts
  obtain ⟨t0, t1, t2, t3, tf, tl⟩ := Vt.facts
  have KH := Lib.hid K3
  have hgl := lt_of_cell hg3
  simp only at hgl
  clear Vm Vt hb2 hb3 K3 hg
  obtain ⟨m0, m1, m2, m3⟩ := m
  obtain ⟨T0, T1, T2, T3⟩ := T
  obtain ⟨S0, S1, S2, S3⟩ := S
  simp only at c0 c1 c2 c3 t0 t1 t2 t3
  clear HT HA
  go_wp2_with fail
  refine wp_loop_rounds 5 ?_
  repeat any_goals (rw [rounds_succ]; go_wp2_with fail)
  all_goals go_ret
  all_goals refine ⟨⟨_, rfl, ?_⟩, KH.out.trans (Below.mono (B := w3.heap.size) (by (repeat' (first | (with_reducible exact Below.refl _ _) | (with_reducible refine below_drewN ?_ _) | (with_reducible refine Below.drew ?_) | (with_reducible refine Below.alloc ?_ ?_ _) | (with_reducible refine Below.setCell ?_ ?_ _) | (with_reducible refine Below.trans ?_ (Below.mono (by with_reducible assumption) ?_)) | omega | (simp only [World.size_alloc] at *; omega) | (with_reducible refine Below.size (B := 0) ?_)))) (by have := KH.out.size; omega))⟩
  all_goals first
    | (refine may_end4 HR.out (first4 ?_ ?_ ?_ ?_) <;> first | assumption | exact no_of_zero (by assumption))
    | (refine may_endk HR.out (first0 (by assumption)) (by decide) ?_; exact heap_new_at (by simp) _)
    | (refine may_endk HR.out (first1 ?_ (by assumption)) (by decide) ?_; (first | assumption | exact no_of_zero (by assumption)); exact heap_new_at (by simp) _)
    | (refine may_endk HR.out (first2 ?_ ?_ (by assumption)) (by decide) ?_; (first | assumption | exact no_of_zero (by assumption)); (first | assumption | exact no_of_zero (by assumption)); exact heap_new_at (by simp) _)
    | (refine may_endk HR.out (first3 ?_ ?_ ?_ (by assumption)) (by decide) ?_; (first | assumption | exact no_of_zero (by assumption)); (first | assumption | exact no_of_zero (by assumption)); (first | assumption | exact no_of_zero (by assumption)); exact heap_new_at (by simp) _)
    | (simp only [Array.getD_eq_getD_getElem?]; trace_state)

theorem may_c (s : Nat → Addr) (i m c : V4) (n : Int) (w : World) (hs : Sent s w) :
    Calls Tryd.prog 7 #[.agg #[.int .i64 i.a, .int .i64 i.b, .int .i64 i.c, .int .i64 i.d], .agg #[.int .i64 m.a, .int .i64 m.b, .int .i64 m.c, .int .i64 m.d], .agg #[.int .i64 c.a, .int .i64 c.b, .int .i64 c.c, .int .i64 c.d], .int .i64 n] w fun e w' => (∃ ev, e = .returned ev ∧ MayV s w' (mayR i m c n) ev) ∧ Below w.heap.size w w' := by
  cases h : goodV c && ratB n
  · exact may_bad s i m c n w hs h
  · by_cases h2 : (addR i m).2 = 0
    · exact may_good s i m c n w hs h h2
    · exact may_over s i m c n w hs h h2
end Go.Proofs.YtmimlniofhngjaaDoor
