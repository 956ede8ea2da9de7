/- The contract of how an account changes: it loses some quota and gains some; an account that is empty then is left out. Conditions: each step can be done; the map is one that the calls have made. -/
import Derived.Test.YtpgioihmaodlcaaDoorGrC
import Derived.Test.YtpgioihmaodlcaaDoorRgo
namespace Go.Proofs.YtpgioihmaodlcaaDoor
open Go Go.RowKit Go.Maps Go.Sort

/-- An account in a block of its own. -/
def AcB (w : World) (g : Nat) (x : Acc) : Prop := w.heap[g]? = some (.cells #[.int .i64 x.f.a, .int .i64 x.f.b, .int .i64 x.f.c, .int .i64 x.f.d, .int .i64 x.c.a, .int .i64 x.c.b, .int .i64 x.c.c, .int .i64 x.c.d, .int .i64 x.h.a, .int .i64 x.h.b, .int .i64 x.h.c, .int .i64 x.h.d] 37 (0, 0))
theorem AcB.lt {w : World} {g : Nat} {x : Acc} (h : AcB w g x) : g < w.heap.size := lt_of_row h
theorem AcB.on {w w' : World} {g : Nat} {x : Acc} (h : AcB w g x) (hb : Below w.heap.size w w') : AcB w' g x := (hb.block g h.lt).trans h
theorem AcB.chg {w w' : World} {g p q : Nat} {x : Acc} (h : AcB w g x) (hc : Chg p q w w') (h1 : g ≠ p) (h2 : g ≠ q) : AcB w' g x := hc.row h h1 h2
theorem AcB.cells {w : World} {g : Nat} {x : Acc} (h : AcB w g x) : w.cell? ⟨g, 0, none⟩ = some (.int .i64 x.f.a) ∧ w.cell? ⟨g, 1, none⟩ = some (.int .i64 x.f.b) ∧ w.cell? ⟨g, 2, none⟩ = some (.int .i64 x.f.c) ∧ w.cell? ⟨g, 3, none⟩ = some (.int .i64 x.f.d) ∧
    w.cell? ⟨g, 4, none⟩ = some (.int .i64 x.c.a) ∧ w.cell? ⟨g, 5, none⟩ = some (.int .i64 x.c.b) ∧ w.cell? ⟨g, 6, none⟩ = some (.int .i64 x.c.c) ∧ w.cell? ⟨g, 7, none⟩ = some (.int .i64 x.c.d) ∧
    w.cell? ⟨g, 8, none⟩ = some (.int .i64 x.h.a) ∧ w.cell? ⟨g, 9, none⟩ = some (.int .i64 x.h.b) ∧ w.cell? ⟨g, 10, none⟩ = some (.int .i64 x.h.c) ∧ w.cell? ⟨g, 11, none⟩ = some (.int .i64 x.h.d) :=
  ⟨cell_of_heap h 0, cell_of_heap h 1, cell_of_heap h 2, cell_of_heap h 3, cell_of_heap h 4, cell_of_heap h 5, cell_of_heap h 6, cell_of_heap h 7, cell_of_heap h 8, cell_of_heap h 9, cell_of_heap h 10, cell_of_heap h 11⟩
theorem AcB.frozen {w : World} {g : Nat} {x : Acc} (h : AcB w g x) (i : Nat) : w.frozen? ⟨g, i, none⟩ = false := frozen_of_heap h i
/-- A key in a block of its own. -/
def KyB (w : World) (g : Nat) (k : V4) : Prop := w.heap[g]? = some (.cells #[.int .i64 k.a, .int .i64 k.b, .int .i64 k.c, .int .i64 k.d] 31 (0, 0))
theorem KyB.lt {w : World} {g : Nat} {k : V4} (h : KyB w g k) : g < w.heap.size := lt_of_row h
theorem KyB.on {w w' : World} {g : Nat} {k : V4} (h : KyB w g k) (hb : Below w.heap.size w w') : KyB w' g k := (hb.block g h.lt).trans h
theorem KyB.chg {w w' : World} {g p q : Nat} {k : V4} (h : KyB w g k) (hc : Chg p q w w') (h1 : g ≠ p) (h2 : g ≠ q) : KyB w' g k := hc.row h h1 h2
theorem KyB.cells {w : World} {g : Nat} {k : V4} (h : KyB w g k) : w.cell? ⟨g, 0, none⟩ = some (.int .i64 k.a) ∧ w.cell? ⟨g, 1, none⟩ = some (.int .i64 k.b) ∧ w.cell? ⟨g, 2, none⟩ = some (.int .i64 k.c) ∧ w.cell? ⟨g, 3, none⟩ = some (.int .i64 k.d) :=
  ⟨cell_of_heap h 0, cell_of_heap h 1, cell_of_heap h 2, cell_of_heap h 3⟩

/-- An account's cells, all written anew. -/
theorem AcB.set {w : World} {g : Nat} {x : Acc} (h : AcB w g x) (y : Acc) : AcB ((((((((((((w.setCell ⟨g, 0, none⟩ (.int .i64 y.f.a)).setCell ⟨g, 1, none⟩ (.int .i64 y.f.b)).setCell ⟨g, 2, none⟩ (.int .i64 y.f.c)).setCell ⟨g, 3, none⟩ (.int .i64 y.f.d)).setCell ⟨g, 4, none⟩ (.int .i64 y.c.a)).setCell ⟨g, 5, none⟩ (.int .i64 y.c.b)).setCell ⟨g, 6, none⟩ (.int .i64 y.c.c)).setCell ⟨g, 7, none⟩ (.int .i64 y.c.d)).setCell ⟨g, 8, none⟩ (.int .i64 y.h.a)).setCell ⟨g, 9, none⟩ (.int .i64 y.h.b)).setCell ⟨g, 10, none⟩ (.int .i64 y.h.c)).setCell ⟨g, 11, none⟩ (.int .i64 y.h.d)) g y := by
  unfold AcB at h ⊢
  simp [World.setCell, Array.getElem?_modify, h]
theorem chg_set12 (w : World) (g : Nat) (y : Acc) : Chg g g w ((((((((((((w.setCell ⟨g, 0, none⟩ (.int .i64 y.f.a)).setCell ⟨g, 1, none⟩ (.int .i64 y.f.b)).setCell ⟨g, 2, none⟩ (.int .i64 y.f.c)).setCell ⟨g, 3, none⟩ (.int .i64 y.f.d)).setCell ⟨g, 4, none⟩ (.int .i64 y.c.a)).setCell ⟨g, 5, none⟩ (.int .i64 y.c.b)).setCell ⟨g, 6, none⟩ (.int .i64 y.c.c)).setCell ⟨g, 7, none⟩ (.int .i64 y.c.d)).setCell ⟨g, 8, none⟩ (.int .i64 y.h.a)).setCell ⟨g, 9, none⟩ (.int .i64 y.h.b)).setCell ⟨g, 10, none⟩ (.int .i64 y.h.c)).setCell ⟨g, 11, none⟩ (.int .i64 y.h.d)) :=
  ((((((((((((Chg.refl g g w).setCell (.inl rfl) _).setCell (.inl rfl) _).setCell (.inl rfl) _).setCell (.inl rfl) _).setCell (.inl rfl) _).setCell (.inl rfl) _).setCell (.inl rfl) _).setCell (.inl rfl) _).setCell (.inl rfl) _).setCell (.inl rfl) _).setCell (.inl rfl) _).setCell (.inl rfl) _
theorem AcB.new (w : World) (x : Acc) : AcB (w.alloc (.cells #[.int .i64 x.f.a, .int .i64 x.f.b, .int .i64 x.f.c, .int .i64 x.f.d, .int .i64 x.c.a, .int .i64 x.c.b, .int .i64 x.c.c, .int .i64 x.c.d, .int .i64 x.h.a, .int .i64 x.h.b, .int .i64 x.h.c, .int .i64 x.h.d] 37)) w.heap.size x := heap_alloc_new w _
theorem KyB.new (w : World) (k : V4) : KyB (w.alloc (.cells #[.int .i64 k.a, .int .i64 k.b, .int .i64 k.c, .int .i64 k.d] 31)) w.heap.size k := heap_alloc_new w _
theorem AcB.alloc {w : World} {g : Nat} {x : Acc} (h : AcB w g x) (o : Obj) : AcB (w.alloc o) g x := h.on ((Below.refl _ _).alloc (Nat.le_refl _) o)
theorem KyB.alloc {w : World} {g : Nat} {x : V4} (h : KyB w g x) (o : Obj) : KyB (w.alloc o) g x := h.on ((Below.refl _ _).alloc (Nat.le_refl _) o)

/-- The three accounts between the calls of a change. -/
structure ChS (w0 : World) (X : Nat) (k : V4) (x l m : Acc) (W : World) : Prop where
  key : KyB W X k
  old : AcB W (X + 1 + 1 + 1) x
  less : AcB W (X + 1) l
  more : AcB W (X + 1 + 1) m
  below : Below w0.heap.size w0 W
theorem ChS.drew {w0 : World} {X : Nat} {k : V4} {x l m : Acc} {W : World} (h : ChS w0 X k x l m W) : ChS w0 X k x l m W.drew := ⟨h.key, h.old, h.less, h.more, h.below.drew⟩
theorem ChS.on {w0 : World} {X : Nat} {k : V4} {x l m : Acc} {W W' : World} (h : ChS w0 X k x l m W) (hb : Below W.heap.size W W') : ChS w0 X k x l m W' :=
  ⟨h.key.on hb, h.old.on hb, h.less.on hb, h.more.on hb, h.below.trans (hb.mono h.below.size)⟩
/-- Each of the three vectors of an account can change so. -/
structure CanA (x l m : Acc) : Prop where
  f : CanCh x.f l.f m.f
  c : CanCh x.c l.c m.c
  h : CanCh x.h l.h m.h

set_option maxRecDepth 100000 in
set_option maxHeartbeats 6400000 in
/-- An account changes. -/
theorem change_c (s : Nat → Addr) (b : Nat) (T : Grs) (k : V4) (l m : Acc) (w : World) (hs : Sent s w) (h : GrsAt w b T) (hk : okV k) (hn : T.length < 1000000) (hc : CanA (acc T k) l m) :
    Calls Tryd.prog 29 #[.map (some b), .agg #[.int .i64 k.a, .int .i64 k.b, .int .i64 k.c, .int .i64 k.d], .agg #[.int .i64 l.f.a, .int .i64 l.f.b, .int .i64 l.f.c, .int .i64 l.f.d, .int .i64 l.c.a, .int .i64 l.c.b, .int .i64 l.c.c, .int .i64 l.c.d, .int .i64 l.h.a, .int .i64 l.h.b, .int .i64 l.h.c, .int .i64 l.h.d], .agg #[.int .i64 m.f.a, .int .i64 m.f.b, .int .i64 m.f.c, .int .i64 m.f.d, .int .i64 m.c.a, .int .i64 m.c.b, .int .i64 m.c.c, .int .i64 m.c.d, .int .i64 m.h.a, .int .i64 m.h.b, .int .i64 m.h.c, .int .i64 m.h.d]] w
      fun e w' => e = .returned (.tuple #[]) ∧ GrsAt w' b (chT T k l m) ∧ Chg b b w w' := by
  have hml : T.length < maxLen := by rw [maxLen_is4]; omega
  have hbl := h.lt
  have HM := Lib.hid h; have HS := Lib.hid hs; have HBL := Lib.hid hbl
  obtain ⟨x, hx⟩ : ∃ x, acc T k = x := ⟨_, rfl⟩
  obtain ⟨n, hn2⟩ : ∃ n, chA x l m = n := ⟨_, rfl⟩
  have hT : chT T k l m = if n = zA then strike T k else enter T k n := by unfold chT; rw [hx, hn2]
  have HT := Lib.hid hT
  have hv : encA ((look T k).getD zA) = .agg #[.int .i64 x.f.a, .int .i64 x.f.b, .int .i64 x.f.c, .int .i64 x.f.d, .int .i64 x.c.a, .int .i64 x.c.b, .int .i64 x.c.c, .int .i64 x.c.d, .int .i64 x.h.a, .int .i64 x.h.b, .int .i64 x.h.c, .int .i64 x.h.d] := by
    rw [show (look T k).getD zA = acc T k from rfl, hx]; rfl
  rw [hx] at hc
  have hnf : moves x.f l.f m.f = n.f := by rw [← hn2]; rfl
  have hnc : moves x.c l.c m.c = n.c := by rw [← hn2]; rfl
  have hnh : moves x.h l.h m.h = n.h := by rw [← hn2]; rfl
  have CF := fun W hW => changed_c s x.f l.f m.f W hW hc.f
  have CC := fun W hW => changed_c s x.c l.c m.c W hW hc.c
  have CH := fun W hW => changed_c s x.h l.h m.h W hW hc.h
  rw [hnf] at CF; rw [hnc] at CC; rw [hnh] at CH
  have HCF : Hid (∀ W, ChS w w.heap.size k x l m W → Calls Tryd.prog 41 #[.agg #[.int .i64 (x.f).a, .int .i64 (x.f).b, .int .i64 (x.f).c, .int .i64 (x.f).d], .agg #[.int .i64 (l.f).a, .int .i64 (l.f).b, .int .i64 (l.f).c, .int .i64 (l.f).d], .agg #[.int .i64 (m.f).a, .int .i64 (m.f).b, .int .i64 (m.f).c, .int .i64 (m.f).d]] W fun e w' => e = .returned (.agg #[.int .i64 (n.f).a, .int .i64 (n.f).b, .int .i64 (n.f).c, .int .i64 (n.f).d]) ∧ ChS w w.heap.size k x l m w') := Lib.hid fun W hW => (CF W (HS.out.below hW.below (Nat.le_refl _))).mono fun _ _ q => ⟨q.1, hW.on q.2⟩
  have HCC : Hid (∀ W, ChS w w.heap.size k x l m W → Calls Tryd.prog 41 #[.agg #[.int .i64 (x.c).a, .int .i64 (x.c).b, .int .i64 (x.c).c, .int .i64 (x.c).d], .agg #[.int .i64 (l.c).a, .int .i64 (l.c).b, .int .i64 (l.c).c, .int .i64 (l.c).d], .agg #[.int .i64 (m.c).a, .int .i64 (m.c).b, .int .i64 (m.c).c, .int .i64 (m.c).d]] W fun e w' => e = .returned (.agg #[.int .i64 (n.c).a, .int .i64 (n.c).b, .int .i64 (n.c).c, .int .i64 (n.c).d]) ∧ ChS w w.heap.size k x l m w') := Lib.hid fun W hW => (CC W (HS.out.below hW.below (Nat.le_refl _))).mono fun _ _ q => ⟨q.1, hW.on q.2⟩
  have HCH : Hid (∀ W, ChS w w.heap.size k x l m W → Calls Tryd.prog 41 #[.agg #[.int .i64 (x.h).a, .int .i64 (x.h).b, .int .i64 (x.h).c, .int .i64 (x.h).d], .agg #[.int .i64 (l.h).a, .int .i64 (l.h).b, .int .i64 (l.h).c, .int .i64 (l.h).d], .agg #[.int .i64 (m.h).a, .int .i64 (m.h).b, .int .i64 (m.h).c, .int .i64 (m.h).d]] W fun e w' => e = .returned (.agg #[.int .i64 (n.h).a, .int .i64 (n.h).b, .int .i64 (n.h).c, .int .i64 (n.h).d]) ∧ ChS w w.heap.size k x l m w') := Lib.hid fun W hW => (CH W (HS.out.below hW.below (Nat.le_refl _))).mono fun _ _ q => ⟨q.1, hW.on q.2⟩
  clear h hs hbl hx hn2 hT hc hnf hnc hnh CF CC CH
  go_enter Tryd.func29, Tryd.ntmps29
  go_wp2_with (first
    | (at_lookup; refine wpList_lookG _ kitV rfl _ _ 52 rfl 37 Tryd.underlying52 encA zA (Tryd.zeroA _) b T rfl (((HM.out.alloc _).alloc _).alloc _) k rfl hk _ hv ?_))
  obtain ⟨X, hX⟩ : ∃ X, w.heap.size = X := ⟨_, rfl⟩
  obtain ⟨W0, hW0⟩ : ∃ W0, (((w.alloc (.cells #[.int .i64 k.a, .int .i64 k.b, .int .i64 k.c, .int .i64 k.d] 31)).alloc (.cells #[.int .i64 l.f.a, .int .i64 l.f.b, .int .i64 l.f.c, .int .i64 l.f.d, .int .i64 l.c.a, .int .i64 l.c.b, .int .i64 l.c.c, .int .i64 l.c.d, .int .i64 l.h.a, .int .i64 l.h.b, .int .i64 l.h.c, .int .i64 l.h.d] 37)).alloc (.cells #[.int .i64 m.f.a, .int .i64 m.f.b, .int .i64 m.f.c, .int .i64 m.f.d, .int .i64 m.c.a, .int .i64 m.c.b, .int .i64 m.c.c, .int .i64 m.c.d, .int .i64 m.h.a, .int .i64 m.h.b, .int .i64 m.h.c, .int .i64 m.h.d] 37)).alloc (.cells #[.int .i64 x.f.a, .int .i64 x.f.b, .int .i64 x.f.c, .int .i64 x.f.d, .int .i64 x.c.a, .int .i64 x.c.b, .int .i64 x.c.c, .int .i64 x.c.d, .int .i64 x.h.a, .int .i64 x.h.b, .int .i64 x.h.c, .int .i64 x.h.d] 37) = W0 := ⟨_, rfl⟩
  have HCS : Hid (ChS w X k x l m W0) := Lib.hid (by
    rw [← hW0, ← hX]
    refine ⟨(((KyB.new w k).alloc _).alloc _).alloc _, ?_, ?_, ?_, by (repeat' (first | (with_reducible exact Below.refl _ _) | (with_reducible refine below_drewN ?_ _) | (with_reducible refine Below.drew ?_) | (with_reducible refine Below.alloc ?_ ?_ _) | (with_reducible refine Below.setCell ?_ ?_ _) | (with_reducible refine Below.trans ?_ (Below.mono (by with_reducible assumption) ?_)) | omega | (simp only [World.size_alloc] at *; omega) | (with_reducible refine Below.size (B := 0) ?_)))⟩
    · have := AcB.new (((w.alloc (.cells #[.int .i64 k.a, .int .i64 k.b, .int .i64 k.c, .int .i64 k.d] 31)).alloc (.cells #[.int .i64 l.f.a, .int .i64 l.f.b, .int .i64 l.f.c, .int .i64 l.f.d, .int .i64 l.c.a, .int .i64 l.c.b, .int .i64 l.c.c, .int .i64 l.c.d, .int .i64 l.h.a, .int .i64 l.h.b, .int .i64 l.h.c, .int .i64 l.h.d] 37)).alloc (.cells #[.int .i64 m.f.a, .int .i64 m.f.b, .int .i64 m.f.c, .int .i64 m.f.d, .int .i64 m.c.a, .int .i64 m.c.b, .int .i64 m.c.c, .int .i64 m.c.d, .int .i64 m.h.a, .int .i64 m.h.b, .int .i64 m.h.c, .int .i64 m.h.d] 37)) x
      simp only [World.size_alloc] at this; exact this
    · have := AcB.new (w.alloc (.cells #[.int .i64 k.a, .int .i64 k.b, .int .i64 k.c, .int .i64 k.d] 31)) l
      simp only [World.size_alloc] at this; exact (this.alloc _).alloc _
    · have := AcB.new ((w.alloc (.cells #[.int .i64 k.a, .int .i64 k.b, .int .i64 k.c, .int .i64 k.d] 31)).alloc (.cells #[.int .i64 l.f.a, .int .i64 l.f.b, .int .i64 l.f.c, .int .i64 l.f.d, .int .i64 l.c.a, .int .i64 l.c.b, .int .i64 l.c.c, .int .i64 l.c.d, .int .i64 l.h.a, .int .i64 l.h.b, .int .i64 l.h.c, .int .i64 l.h.d] 37)) m
      simp only [World.size_alloc] at this; exact this.alloc _)
  rw [hW0, hX]
  rw [hX] at HCF HCC HCH
  have HX := Lib.hid hX
  clear hW0 hX hv
  refine wp_region_last (z := 22) (S := fun W => ChS w X k x l m W) (by kernel_rfl) ?_ (fun hHeld => ?_)
  · exact HCS.out.drew
  refine rgl_take 0 (some 12) _ (by kernel_rfl) (by kernel_rfl) (by kernel_rfl) (by kernel_rfl) (fun _ _ _ h => h) (by kernel_rfl) (by kernel_rfl) (by intro w' hSw op_ ho; obtain ⟨o0, o1, o2, o3, o4, o5, o6, o7, o8, o9, o10, o11⟩ := hSw.old.cells; obtain ⟨l0, l1, l2, l3, l4, l5, l6, l7, l8, l9, l10, l11⟩ := hSw.less.cells; obtain ⟨m0, m1, m2, m3, m4, m5, m6, m7, m8, m9, m10, m11⟩ := hSw.more.cells; clear hSw; simp only [List.getElem?_toArray, List.getElem?_cons_zero, Option.some.injEq] at ho; subst ho; go_simp; with_reducible rfl) (by assumption) ?_
  try simp only [Act.put, List.setIfInBounds_toArray, List.set_cons_zero, List.set_cons_succ]
  refine rgl_take 1 (some 13) _ (by kernel_rfl) (by kernel_rfl) (by kernel_rfl) (by kernel_rfl) (fun _ _ _ h => h) (by kernel_rfl) (by kernel_rfl) (by intro w' hSw op_ ho; obtain ⟨o0, o1, o2, o3, o4, o5, o6, o7, o8, o9, o10, o11⟩ := hSw.old.cells; obtain ⟨l0, l1, l2, l3, l4, l5, l6, l7, l8, l9, l10, l11⟩ := hSw.less.cells; obtain ⟨m0, m1, m2, m3, m4, m5, m6, m7, m8, m9, m10, m11⟩ := hSw.more.cells; clear hSw; simp only [List.getElem?_toArray, List.getElem?_cons_succ, List.getElem?_cons_zero, Option.some.injEq] at ho; subst ho; go_simp; with_reducible rfl) (by assumption) ?_
  try simp only [Act.put, List.setIfInBounds_toArray, List.set_cons_zero, List.set_cons_succ]
  refine rgl_take 2 (some 14) _ (by kernel_rfl) (by kernel_rfl) (by kernel_rfl) (by kernel_rfl) (fun _ _ _ h => h) (by kernel_rfl) (by kernel_rfl) (by intro w' hSw op_ ho; obtain ⟨o0, o1, o2, o3, o4, o5, o6, o7, o8, o9, o10, o11⟩ := hSw.old.cells; obtain ⟨l0, l1, l2, l3, l4, l5, l6, l7, l8, l9, l10, l11⟩ := hSw.less.cells; obtain ⟨m0, m1, m2, m3, m4, m5, m6, m7, m8, m9, m10, m11⟩ := hSw.more.cells; clear hSw; simp only [List.getElem?_toArray, List.getElem?_cons_succ, List.getElem?_cons_zero, Option.some.injEq] at ho; subst ho; go_simp; with_reducible rfl) (by assumption) ?_
  try simp only [Act.put, List.setIfInBounds_toArray, List.set_cons_zero, List.set_cons_succ]
  refine rgl_take 3 (some 15) _ (by kernel_rfl) (by kernel_rfl) (by kernel_rfl) (by kernel_rfl) (fun _ _ _ h => h) (by kernel_rfl) (by kernel_rfl) (by intro w' hSw op_ ho; obtain ⟨o0, o1, o2, o3, o4, o5, o6, o7, o8, o9, o10, o11⟩ := hSw.old.cells; obtain ⟨l0, l1, l2, l3, l4, l5, l6, l7, l8, l9, l10, l11⟩ := hSw.less.cells; obtain ⟨m0, m1, m2, m3, m4, m5, m6, m7, m8, m9, m10, m11⟩ := hSw.more.cells; clear hSw; simp only [List.getElem?_toArray, List.getElem?_cons_succ, List.getElem?_cons_zero, Option.some.injEq] at ho; subst ho; go_simp; with_reducible rfl) (by assumption) ?_
  try simp only [Act.put, List.setIfInBounds_toArray, List.set_cons_zero, List.set_cons_succ]
  refine rgl_take 4 (some 16) _ (by kernel_rfl) (by kernel_rfl) (by kernel_rfl) (by kernel_rfl) (fun _ _ _ h => h) (by kernel_rfl) (by kernel_rfl) (by intro w' hSw op_ ho; obtain ⟨o0, o1, o2, o3, o4, o5, o6, o7, o8, o9, o10, o11⟩ := hSw.old.cells; obtain ⟨l0, l1, l2, l3, l4, l5, l6, l7, l8, l9, l10, l11⟩ := hSw.less.cells; obtain ⟨m0, m1, m2, m3, m4, m5, m6, m7, m8, m9, m10, m11⟩ := hSw.more.cells; clear hSw; simp only [List.getElem?_toArray, List.getElem?_cons_succ, List.getElem?_cons_zero, Option.some.injEq] at ho; subst ho; go_simp; with_reducible rfl) (by assumption) ?_
  try simp only [Act.put, List.setIfInBounds_toArray, List.set_cons_zero, List.set_cons_succ]
  refine rgl_take 5 (some 17) _ (by kernel_rfl) (by kernel_rfl) (by kernel_rfl) (by kernel_rfl) (fun _ _ _ h => h) (by kernel_rfl) (by kernel_rfl) (by intro w' hSw op_ ho; obtain ⟨o0, o1, o2, o3, o4, o5, o6, o7, o8, o9, o10, o11⟩ := hSw.old.cells; obtain ⟨l0, l1, l2, l3, l4, l5, l6, l7, l8, l9, l10, l11⟩ := hSw.less.cells; obtain ⟨m0, m1, m2, m3, m4, m5, m6, m7, m8, m9, m10, m11⟩ := hSw.more.cells; clear hSw; simp only [List.getElem?_toArray, List.getElem?_cons_succ, List.getElem?_cons_zero, Option.some.injEq] at ho; subst ho; go_simp; with_reducible rfl) (by assumption) ?_
  try simp only [Act.put, List.setIfInBounds_toArray, List.set_cons_zero, List.set_cons_succ]
  refine rgl_take 7 (some 19) _ (by kernel_rfl) (by kernel_rfl) (by kernel_rfl) (by kernel_rfl) (fun _ _ _ h => h) (by kernel_rfl) (by kernel_rfl) (by intro w' hSw op_ ho; obtain ⟨o0, o1, o2, o3, o4, o5, o6, o7, o8, o9, o10, o11⟩ := hSw.old.cells; obtain ⟨l0, l1, l2, l3, l4, l5, l6, l7, l8, l9, l10, l11⟩ := hSw.less.cells; obtain ⟨m0, m1, m2, m3, m4, m5, m6, m7, m8, m9, m10, m11⟩ := hSw.more.cells; clear hSw; simp only [List.getElem?_toArray, List.getElem?_cons_succ, List.getElem?_cons_zero, Option.some.injEq] at ho; subst ho; go_simp; with_reducible rfl) (by assumption) ?_
  try simp only [Act.put, List.setIfInBounds_toArray, List.set_cons_zero, List.set_cons_succ]
  refine rgl_take 8 (some 20) _ (by kernel_rfl) (by kernel_rfl) (by kernel_rfl) (by kernel_rfl) (fun _ _ _ h => h) (by kernel_rfl) (by kernel_rfl) (by intro w' hSw op_ ho; obtain ⟨o0, o1, o2, o3, o4, o5, o6, o7, o8, o9, o10, o11⟩ := hSw.old.cells; obtain ⟨l0, l1, l2, l3, l4, l5, l6, l7, l8, l9, l10, l11⟩ := hSw.less.cells; obtain ⟨m0, m1, m2, m3, m4, m5, m6, m7, m8, m9, m10, m11⟩ := hSw.more.cells; clear hSw; simp only [List.getElem?_toArray, List.getElem?_cons_succ, List.getElem?_cons_zero, Option.some.injEq] at ho; subst ho; go_simp; with_reducible rfl) (by assumption) ?_
  try simp only [Act.put, List.setIfInBounds_toArray, List.set_cons_zero, List.set_cons_succ]
  refine rgl_take 9 (some 21) _ (by kernel_rfl) (by kernel_rfl) (by kernel_rfl) (by kernel_rfl) (fun _ _ _ h => h) (by kernel_rfl) (by kernel_rfl) (by intro w' hSw op_ ho; obtain ⟨o0, o1, o2, o3, o4, o5, o6, o7, o8, o9, o10, o11⟩ := hSw.old.cells; obtain ⟨l0, l1, l2, l3, l4, l5, l6, l7, l8, l9, l10, l11⟩ := hSw.less.cells; obtain ⟨m0, m1, m2, m3, m4, m5, m6, m7, m8, m9, m10, m11⟩ := hSw.more.cells; clear hSw; simp only [List.getElem?_toArray, List.getElem?_cons_succ, List.getElem?_cons_zero, Option.some.injEq] at ho; subst ho; go_simp; with_reducible rfl) (by assumption) ?_
  try simp only [Act.put, List.setIfInBounds_toArray, List.set_cons_zero, List.set_cons_succ]
  refine rgl_take 10 (some 22) _ (by kernel_rfl) (by kernel_rfl) (by kernel_rfl) (by kernel_rfl) (fun _ _ _ h => h) (by kernel_rfl) (by kernel_rfl) (by intro w' hSw op_ ho; obtain ⟨o0, o1, o2, o3, o4, o5, o6, o7, o8, o9, o10, o11⟩ := hSw.old.cells; obtain ⟨l0, l1, l2, l3, l4, l5, l6, l7, l8, l9, l10, l11⟩ := hSw.less.cells; obtain ⟨m0, m1, m2, m3, m4, m5, m6, m7, m8, m9, m10, m11⟩ := hSw.more.cells; clear hSw; simp only [List.getElem?_toArray, List.getElem?_cons_succ, List.getElem?_cons_zero, Option.some.injEq] at ho; subst ho; go_simp; with_reducible rfl) (by assumption) ?_
  try simp only [Act.put, List.setIfInBounds_toArray, List.set_cons_zero, List.set_cons_succ]
  refine rgl_take 11 (some 23) _ (by kernel_rfl) (by kernel_rfl) (by kernel_rfl) (by kernel_rfl) (fun _ _ _ h => h) (by kernel_rfl) (by kernel_rfl) (by intro w' hSw op_ ho; obtain ⟨o0, o1, o2, o3, o4, o5, o6, o7, o8, o9, o10, o11⟩ := hSw.old.cells; obtain ⟨l0, l1, l2, l3, l4, l5, l6, l7, l8, l9, l10, l11⟩ := hSw.less.cells; obtain ⟨m0, m1, m2, m3, m4, m5, m6, m7, m8, m9, m10, m11⟩ := hSw.more.cells; clear hSw; simp only [List.getElem?_toArray, List.getElem?_cons_succ, List.getElem?_cons_zero, Option.some.injEq] at ho; subst ho; go_simp; with_reducible rfl) (by assumption) ?_
  try simp only [Act.put, List.setIfInBounds_toArray, List.set_cons_zero, List.set_cons_succ]
  refine rgl_take 12 (some 24) _ (by kernel_rfl) (by kernel_rfl) (by kernel_rfl) (by kernel_rfl) (fun _ _ _ h => h) (by kernel_rfl) (by kernel_rfl) (by intro w' hSw op_ ho; obtain ⟨o0, o1, o2, o3, o4, o5, o6, o7, o8, o9, o10, o11⟩ := hSw.old.cells; obtain ⟨l0, l1, l2, l3, l4, l5, l6, l7, l8, l9, l10, l11⟩ := hSw.less.cells; obtain ⟨m0, m1, m2, m3, m4, m5, m6, m7, m8, m9, m10, m11⟩ := hSw.more.cells; clear hSw; simp only [List.getElem?_toArray, List.getElem?_cons_succ, List.getElem?_cons_zero, Option.some.injEq] at ho; subst ho; go_simp; with_reducible rfl) (by assumption) ?_
  try simp only [Act.put, List.setIfInBounds_toArray, List.set_cons_zero, List.set_cons_succ]
  refine rgl_take 14 (some 26) _ (by kernel_rfl) (by kernel_rfl) (by kernel_rfl) (by kernel_rfl) (fun _ _ _ h => h) (by kernel_rfl) (by kernel_rfl) (by intro w' hSw op_ ho; obtain ⟨o0, o1, o2, o3, o4, o5, o6, o7, o8, o9, o10, o11⟩ := hSw.old.cells; obtain ⟨l0, l1, l2, l3, l4, l5, l6, l7, l8, l9, l10, l11⟩ := hSw.less.cells; obtain ⟨m0, m1, m2, m3, m4, m5, m6, m7, m8, m9, m10, m11⟩ := hSw.more.cells; clear hSw; simp only [List.getElem?_toArray, List.getElem?_cons_succ, List.getElem?_cons_zero, Option.some.injEq] at ho; subst ho; go_simp; with_reducible rfl) (by assumption) ?_
  try simp only [Act.put, List.setIfInBounds_toArray, List.set_cons_zero, List.set_cons_succ]
  refine rgl_take 15 (some 27) _ (by kernel_rfl) (by kernel_rfl) (by kernel_rfl) (by kernel_rfl) (fun _ _ _ h => h) (by kernel_rfl) (by kernel_rfl) (by intro w' hSw op_ ho; obtain ⟨o0, o1, o2, o3, o4, o5, o6, o7, o8, o9, o10, o11⟩ := hSw.old.cells; obtain ⟨l0, l1, l2, l3, l4, l5, l6, l7, l8, l9, l10, l11⟩ := hSw.less.cells; obtain ⟨m0, m1, m2, m3, m4, m5, m6, m7, m8, m9, m10, m11⟩ := hSw.more.cells; clear hSw; simp only [List.getElem?_toArray, List.getElem?_cons_succ, List.getElem?_cons_zero, Option.some.injEq] at ho; subst ho; go_simp; with_reducible rfl) (by assumption) ?_
  try simp only [Act.put, List.setIfInBounds_toArray, List.set_cons_zero, List.set_cons_succ]
  refine rgl_take 16 (some 28) _ (by kernel_rfl) (by kernel_rfl) (by kernel_rfl) (by kernel_rfl) (fun _ _ _ h => h) (by kernel_rfl) (by kernel_rfl) (by intro w' hSw op_ ho; obtain ⟨o0, o1, o2, o3, o4, o5, o6, o7, o8, o9, o10, o11⟩ := hSw.old.cells; obtain ⟨l0, l1, l2, l3, l4, l5, l6, l7, l8, l9, l10, l11⟩ := hSw.less.cells; obtain ⟨m0, m1, m2, m3, m4, m5, m6, m7, m8, m9, m10, m11⟩ := hSw.more.cells; clear hSw; simp only [List.getElem?_toArray, List.getElem?_cons_succ, List.getElem?_cons_zero, Option.some.injEq] at ho; subst ho; go_simp; with_reducible rfl) (by assumption) ?_
  try simp only [Act.put, List.setIfInBounds_toArray, List.set_cons_zero, List.set_cons_succ]
  refine rgl_take 17 (some 29) _ (by kernel_rfl) (by kernel_rfl) (by kernel_rfl) (by kernel_rfl) (fun _ _ _ h => h) (by kernel_rfl) (by kernel_rfl) (by intro w' hSw op_ ho; obtain ⟨o0, o1, o2, o3, o4, o5, o6, o7, o8, o9, o10, o11⟩ := hSw.old.cells; obtain ⟨l0, l1, l2, l3, l4, l5, l6, l7, l8, l9, l10, l11⟩ := hSw.less.cells; obtain ⟨m0, m1, m2, m3, m4, m5, m6, m7, m8, m9, m10, m11⟩ := hSw.more.cells; clear hSw; simp only [List.getElem?_toArray, List.getElem?_cons_succ, List.getElem?_cons_zero, Option.some.injEq] at ho; subst ho; go_simp; with_reducible rfl) (by assumption) ?_
  try simp only [Act.put, List.setIfInBounds_toArray, List.set_cons_zero, List.set_cons_succ]
  refine rgl_take 18 (some 30) _ (by kernel_rfl) (by kernel_rfl) (by kernel_rfl) (by kernel_rfl) (fun _ _ _ h => h) (by kernel_rfl) (by kernel_rfl) (by intro w' hSw op_ ho; obtain ⟨o0, o1, o2, o3, o4, o5, o6, o7, o8, o9, o10, o11⟩ := hSw.old.cells; obtain ⟨l0, l1, l2, l3, l4, l5, l6, l7, l8, l9, l10, l11⟩ := hSw.less.cells; obtain ⟨m0, m1, m2, m3, m4, m5, m6, m7, m8, m9, m10, m11⟩ := hSw.more.cells; clear hSw; simp only [List.getElem?_toArray, List.getElem?_cons_succ, List.getElem?_cons_zero, Option.some.injEq] at ho; subst ho; go_simp; with_reducible rfl) (by assumption) ?_
  try simp only [Act.put, List.setIfInBounds_toArray, List.set_cons_zero, List.set_cons_succ]
  refine rgl_take 19 (some 31) _ (by kernel_rfl) (by kernel_rfl) (by kernel_rfl) (by kernel_rfl) (fun _ _ _ h => h) (by kernel_rfl) (by kernel_rfl) (by intro w' hSw op_ ho; obtain ⟨o0, o1, o2, o3, o4, o5, o6, o7, o8, o9, o10, o11⟩ := hSw.old.cells; obtain ⟨l0, l1, l2, l3, l4, l5, l6, l7, l8, l9, l10, l11⟩ := hSw.less.cells; obtain ⟨m0, m1, m2, m3, m4, m5, m6, m7, m8, m9, m10, m11⟩ := hSw.more.cells; clear hSw; simp only [List.getElem?_toArray, List.getElem?_cons_succ, List.getElem?_cons_zero, Option.some.injEq] at ho; subst ho; go_simp; with_reducible rfl) (by assumption) ?_
  try simp only [Act.put, List.setIfInBounds_toArray, List.set_cons_zero, List.set_cons_succ]
  refine rgl_one 6 (by kernel_rfl) (by kernel_rfl) (by decide) (fun op_ ho K hK => ?_)
  simp only [List.getElem?_toArray, List.getElem?_cons_succ, List.getElem?_cons_zero, Option.some.injEq] at ho
  subst ho
  go_simp
  go_at_call 41
  refine (HCF.out _ (by assumption)).mono ?_
  rintro e wa ⟨rfl, ra⟩
  go_wp2_with fail
  refine hK.out _ _ (by assumption) (fun hHeld => ?_)
  clear hK
  try simp only [Act.put, List.setIfInBounds_toArray, List.set_cons_zero, List.set_cons_succ]
  refine rgl_one 13 (by kernel_rfl) (by kernel_rfl) (by decide) (fun op_ ho K hK => ?_)
  simp only [List.getElem?_toArray, List.getElem?_cons_succ, List.getElem?_cons_zero, Option.some.injEq] at ho
  subst ho
  go_simp
  go_at_call 41
  refine (HCC.out _ (by assumption)).mono ?_
  rintro e wa ⟨rfl, ra⟩
  go_wp2_with fail
  refine hK.out _ _ (by assumption) (fun hHeld => ?_)
  clear hK
  try simp only [Act.put, List.setIfInBounds_toArray, List.set_cons_zero, List.set_cons_succ]
  refine rgl_one 20 (by kernel_rfl) (by kernel_rfl) (by decide) (fun op_ ho K hK => ?_)
  simp only [List.getElem?_toArray, List.getElem?_cons_succ, List.getElem?_cons_zero, Option.some.injEq] at ho
  subst ho
  go_simp
  go_at_call 41
  refine (HCH.out _ (by assumption)).mono ?_
  rintro e wa ⟨rfl, ra⟩
  go_wp2_with fail
  refine hK.out _ _ (by assumption) (fun hHeld => ?_)
  clear hK
  try simp only [Act.put, List.setIfInBounds_toArray, List.set_cons_zero, List.set_cons_succ]
  refine rgl_take 21 (some 33) _ (by kernel_rfl) (by kernel_rfl) (by kernel_rfl) (by kernel_rfl) (fun _ _ _ h => h) (by kernel_rfl) (by kernel_rfl) (by intro w' hSw op_ ho; obtain ⟨o0, o1, o2, o3, o4, o5, o6, o7, o8, o9, o10, o11⟩ := hSw.old.cells; obtain ⟨l0, l1, l2, l3, l4, l5, l6, l7, l8, l9, l10, l11⟩ := hSw.less.cells; obtain ⟨m0, m1, m2, m3, m4, m5, m6, m7, m8, m9, m10, m11⟩ := hSw.more.cells; clear hSw; simp only [List.getElem?_toArray, List.getElem?_cons_succ, List.getElem?_cons_zero, Option.some.injEq] at ho; subst ho; go_simp; with_reducible rfl) (by assumption) ?_
  try simp only [Act.put, List.setIfInBounds_toArray, List.set_cons_zero, List.set_cons_succ]
  refine rgl_last (by kernel_rfl) (by kernel_rfl) (by kernel_rfl) (fun op_ ho K hK => ?_)
  simp only [List.getElem?_toArray, List.getElem?_cons_succ, List.getElem?_cons_zero, Option.some.injEq] at ho
  subst ho
  obtain ⟨o0, o1, o2, o3, o4, o5, o6, o7, o8, o9, o10, o11⟩ := hHeld.old.cells
  have of := hHeld.old.frozen
  have ol := hHeld.old.lt
  have HHE := Lib.hid hHeld
  clear hHeld
  go_simp
  refine hK.out _ _ ?_
  clear hK
  try simp only [Act.put, List.setIfInBounds_toArray, List.set_cons_zero, List.set_cons_succ]
  obtain ⟨W4, hW4⟩ : ∃ W4, (((((((((((wa.setCell ⟨X + 1 + 1 + 1, 0, none⟩ (.int .i64 n.f.a)).setCell ⟨X + 1 + 1 + 1, 1, none⟩ (.int .i64 n.f.b)).setCell ⟨X + 1 + 1 + 1, 2, none⟩ (.int .i64 n.f.c)).setCell ⟨X + 1 + 1 + 1, 3, none⟩ (.int .i64 n.f.d)).setCell ⟨X + 1 + 1 + 1, 4, none⟩ (.int .i64 n.c.a)).setCell ⟨X + 1 + 1 + 1, 5, none⟩ (.int .i64 n.c.b)).setCell ⟨X + 1 + 1 + 1, 6, none⟩ (.int .i64 n.c.c)).setCell ⟨X + 1 + 1 + 1, 7, none⟩ (.int .i64 n.c.d)).setCell ⟨X + 1 + 1 + 1, 8, none⟩ (.int .i64 n.h.a)).setCell ⟨X + 1 + 1 + 1, 9, none⟩ (.int .i64 n.h.b)).setCell ⟨X + 1 + 1 + 1, 10, none⟩ (.int .i64 n.h.c)).setCell ⟨X + 1 + 1 + 1, 11, none⟩ (.int .i64 n.h.d) = W4 := ⟨_, rfl⟩
  have HA4 : Hid (AcB W4 (X + 1 + 1 + 1) n) := Lib.hid (by rw [← hW4]; exact HHE.out.old.set n)
  have hc4 : Chg (X + 1 + 1 + 1) (X + 1 + 1 + 1) wa W4 := by rw [← hW4]; exact chg_set12 wa _ n
  have HK4 : Hid (KyB W4 X k) := Lib.hid (HHE.out.key.chg hc4 (by omega) (by omega))
  have HB4 : Hid (Below X w W4) := Lib.hid (by
    have h1 := HHE.out.below
    rw [HX.out] at h1
    exact h1.trans (hc4.below (by omega) (by omega) (by have := HHE.out.key.lt; omega)))
  rw [hW4]
  clear o0 o1 o2 o3 o4 o5 o6 o7 o8 o9 o10 o11 of ol hW4 hc4
  have hE : ∀ W, (Op.equalIn 10000 37 (.agg #[.int .i64 n.f.a, .int .i64 n.f.b, .int .i64 n.f.c, .int .i64 n.f.d, .int .i64 n.c.a, .int .i64 n.c.b, .int .i64 n.c.c, .int .i64 n.c.d, .int .i64 n.h.a, .int .i64 n.h.b, .int .i64 n.h.c, .int .i64 n.h.d]) (.agg #[.int .i64 0, .int .i64 0, .int .i64 0, .int .i64 0, .int .i64 0, .int .i64 0, .int .i64 0, .int .i64 0, .int .i64 0, .int .i64 0, .int .i64 0, .int .i64 0])).run Tryd.prog W = .ok (decide (n = zA)) W := fun W => eqAc n zA W
  have HMW : Hid (GrsAt W4 b T) := Lib.hid (HM.out.on HB4.out (by rw [HX.out]; exact Nat.le_refl _))
  obtain ⟨a0, a1, a2, a3, a4, a5, a6, a7, a8, a9, a10, a11⟩ := HA4.out.cells
  obtain ⟨k0, k1, k2, k3⟩ := HK4.out.cells
  have HBL2 : Hid (Chg b b w W4) := Lib.hid ⟨HB4.out.os, HB4.out.tape, HB4.out.output, HB4.out.size, fun i hi _ _ => HB4.out.block i (by rw [HX.out] at hi; exact hi)⟩
  by_cases hz : n = zA
  · rw [decide_eq_true hz] at hE
    have hT : Hid (chT T k l m = strike T k) := Lib.hid (by rw [HT.out, if_pos hz])
    clear hz
    go_wp2_with (at_delete; refine wpList_delG _ kitV rfl _ _ 52 rfl 37 Tryd.underlying52 encA b T rfl HMW.out k rfl hk ?_; intro w5 hown5 hg5)
    (try simp only [Exit.inBlock, Exit.then])
    refine bodyPost_ret (results_none rfl _ _ _) rfl ?_
    refine ⟨rfl, ?_, HBL2.out.grown hg5 (fun k e => .inl (by cases e; rfl))⟩
    rw [hT.out]; exact hown5
  · rw [decide_eq_false hz] at hE
    have hT : Hid (chT T k l m = enter T k n) := Lib.hid (by rw [HT.out, if_neg hz])
    clear hz
    go_wp2_with (at_mapUpdate; refine wpList_putG _ kitV rfl _ _ _ 52 rfl 37 Tryd.underlying52 encA b T rfl HMW.out hml k rfl hk n rfl ?_; intro w5 hown5 hg5)
    go_end0
    refine ⟨rfl, ?_, HBL2.out.grown hg5 (fun k e => .inl (by cases e; rfl))⟩
    rw [hT.out]; exact hown5
end Go.Proofs.YtpgioihmaodlcaaDoor
