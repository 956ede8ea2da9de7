/- A book in a law's own world: its methods by contract. Conditions: the sentinels lie where the program's text lays them. -/
import Derived.Test.YtogmlbjbjgkdcaaDoorBkF
import Derived.Test.YtogmlbjbjgkdcaaDoorBkL
import Derived.Test.YtogmlbjbjgkdcaaDoorBkM
import Derived.Laws.StructEq
namespace Go.Proofs.YtogmlbjbjgkdcaaDoor
open Go Go.RowKit

/-- Two orders are the same if all their fields are. -/
theorem eqBO (x y : Od) (w : World) : (Op.equalIn 10000 36 (.agg #[.int .i64 x.id, .int .i64 x.tn, .bool x.sell, .int .i64 x.price, .int .i64 x.lots, .int .i64 x.seq]) (.agg #[.int .i64 y.id, .int .i64 y.tn, .bool y.sell, .int .i64 y.price, .int .i64 y.lots, .int .i64 y.seq])).run Tryd.prog w = .ok (decide (x = y)) w := by
  have hs : Tryd.prog.stoodInHeld 36 = false := by kernel_rfl
  have ht : Tryd.prog.underlying 36 = some (.struct (Tryd.prog.fieldsOf 36)) := by kernel_rfl
  have hf : ∃ fs, Tryd.prog.fieldsOf 36 = fs ∧ Tryd.prog.underlying 36 = some (.struct fs) := ⟨_, rfl, ht⟩
  obtain ⟨fs, h1, h2⟩ := hf
  rw [Tryd.underlying36] at h2
  simp only [Option.some.injEq, TypeDesc.struct.injEq] at h2
  subst h2
  rw [run_equalIn_agg w 9999 36 _ _ ht hs, h1]
  have q0 : ∀ (W : World) (a0 a1 a2 a3 a4 a5 : Value), (part 3 #[a0, a1, a2, a3, a4, a5] 0).run Tryd.prog W = .ok a0 W := fun _ _ _ _ _ _ _ => by kernel_rfl
  have q1 : ∀ (W : World) (a0 a1 a2 a3 a4 a5 : Value), (part 3 #[a0, a1, a2, a3, a4, a5] 1).run Tryd.prog W = .ok a1 W := fun _ _ _ _ _ _ _ => by kernel_rfl
  have q2 : ∀ (W : World) (a0 a1 a2 a3 a4 a5 : Value), (part 4 #[a0, a1, a2, a3, a4, a5] 2).run Tryd.prog W = .ok a2 W := fun _ _ _ _ _ _ _ => by kernel_rfl
  have q3 : ∀ (W : World) (a0 a1 a2 a3 a4 a5 : Value), (part 3 #[a0, a1, a2, a3, a4, a5] 3).run Tryd.prog W = .ok a3 W := fun _ _ _ _ _ _ _ => by kernel_rfl
  have q4 : ∀ (W : World) (a0 a1 a2 a3 a4 a5 : Value), (part 3 #[a0, a1, a2, a3, a4, a5] 4).run Tryd.prog W = .ok a4 W := fun _ _ _ _ _ _ _ => by kernel_rfl
  have q5 : ∀ (W : World) (a0 a1 a2 a3 a4 a5 : Value), (part 3 #[a0, a1, a2, a3, a4, a5] 5).run Tryd.prog W = .ok a5 W := fun _ _ _ _ _ _ _ => by kernel_rfl
  have qb : ∀ (W : World) (a b : Bool), (Op.equalIn 9999 4 (.bool a) (.bool b)).run Tryd.prog W = .ok (a == b) W := fun W a b => by cases a <;> cases b <;> kernel_rfl
  obtain ⟨x0, x1, x2, x3, x4, x5⟩ := x
  obtain ⟨y0, y1, y2, y3, y4, y5⟩ := y
  by_cases e0 : x0 = y0
  · by_cases e1 : x1 = y1
    · by_cases e2 : x2 = y2
      · by_cases e3 : x3 = y3
        · by_cases e4 : x4 = y4 <;> by_cases e5 : x5 = y5 <;>
            simp [Op.eqFields, q0, q1, q2, q3, q4, q5, qb, run_equalIn_int _ _ _ _ _ _ _ Tryd.underlying3, e0, e1, e2, e3, e4, e5]
        · simp [Op.eqFields, q0, q1, q2, q3, qb, run_equalIn_int _ _ _ _ _ _ _ Tryd.underlying3, e0, e1, e2, e3]
      · simp [Op.eqFields, q0, q1, q2, qb, run_equalIn_int _ _ _ _ _ _ _ Tryd.underlying3, e0, e1, e2]
    · simp [Op.eqFields, q0, q1, run_equalIn_int _ _ _ _ _ _ _ Tryd.underlying3, e0, e1]
  · simp [Op.eqFields, q0, run_equalIn_int _ _ _ _ _ _ _ Tryd.underlying3, e0]


theorem new_c (w : World) : Calls Tryd.prog 7 #[] w fun e w' => e = .returned (.pointer (some ⟨w.heap.size, 0, none⟩)) ∧ BBk w' w.heap.size w.heap.size ⟨[], 0⟩ ∧ Below w.heap.size w w' := by
  go_enter Tryd.func7, Tryd.ntmps7
  go_wp2_with fail
  go_ret
  exact ⟨rfl, ⟨.slice none 0 0, heap_alloc_new _ _, OwnE.nil _ _ _, rfl⟩, by (repeat' (first | (with_reducible exact Below.refl _ _) | (with_reducible refine below_drewN ?_ _) | (with_reducible refine Below.drew ?_) | (with_reducible refine Below.alloc ?_ ?_ _) | (with_reducible refine Below.setCell ?_ ?_ _) | (with_reducible refine Below.trans ?_ (Below.mono (by with_reducible assumption) ?_)) | omega | (simp only [World.size_alloc, World.size_setCell, World.size_drew, Go.Proofs.YtogmlbjbjgkdcaaDoor.World.size_drewN] at *; omega) | (with_reducible refine Below.size (B := 0) ?_)))⟩

/-- A book that the law has made, in a world that has come of the law's first. -/
structure BkAt (w0 w : World) (q R : Nat) (b : RB) : Prop where
  book : BBk w q R b
  below : Below w0.heap.size w0 w
  lowq : w0.heap.size ≤ q
theorem BkAt.on {w0 w w' : World} {q R : Nat} {b : RB} (h : BkAt w0 w q R b) (hb : Below w.heap.size w w') : BkAt w0 w' q R b :=
  ⟨h.book.on hb, h.below.trans (hb.mono h.below.size), h.lowq⟩
theorem BkAt.chg {w0 w w' : World} {q R R' : Nat} {b b' : RB} (h : BkAt w0 w q R b) (t : BBk w' q R' b') (hg : Chg q R w w') : BkAt w0 w' q R' b' :=
  ⟨t, h.below.trans (hg.below h.lowq (Nat.le_trans h.lowq h.book.lt.2.2) h.below.size), h.lowq⟩
theorem BBk.same {w w' : World} {q R : Nat} {b : RB} (h : BBk w q R b) (hs : ∀ k, k = q ∨ k = R → w'.heap[k]? = w.heap[k]?) : BBk w' q R b := by
  obtain ⟨v, h1, h2, h3⟩ := h
  exact ⟨v, (hs q (.inl rfl)).trans h1, h2.same fun k hk => hs k (.inr (by rw [hk] at h3; exact h3)), h3⟩
theorem BkAt.grown {w0 w w' : World} {q R : Nat} {b : RB} {row : Option Nat} (h : BkAt w0 w q R b) (hg : w.grownBy w' row) (hr : ∀ k, row = some k → k ≠ q ∧ k ≠ R ∧ w0.heap.size ≤ k) : BkAt w0 w' q R b :=
  ⟨h.book.same fun k hk => hg.block k (by rcases hk with rfl | rfl; exact h.book.lt.1; exact h.book.lt.2.1) (fun e => by
      obtain ⟨h1, h2, _⟩ := hr k e.symm
      rcases hk with rfl | rfl
      · exact h1 rfl
      · exact h2 rfl), h.below.grown hg h.below.size (fun k hk => (hr k hk).2.2), h.lowq⟩
theorem BkAt.sent {s : Nat → Addr} {w0 w : World} {q R : Nat} {b : RB} (h : BkAt w0 w q R b) (hs : Sent s w0) : Sent s w := hs.below h.below (Nat.le_refl _)
theorem BkAt.alloc {w0 w : World} {q R : Nat} {b : RB} (h : BkAt w0 w q R b) (o : Obj) : BkAt w0 (w.alloc o) q R b := h.on ((Below.refl _ _).alloc (Nat.le_refl _) _)
theorem BkAt.drewN {w0 w : World} {q R : Nat} {b : RB} (h : BkAt w0 w q R b) (n : Nat) : BkAt w0 (w.drewN n) q R b := h.on (below_drewN (Below.refl _ _) n)
theorem BkAt.drew {w0 w : World} {q R : Nat} {b : RB} (h : BkAt w0 w q R b) : BkAt w0 w.drew q R b := h.on ((Below.refl _ _).drew)
/-- Add, at the law's book. -/
theorem BkAt.add {s : Nat → Addr} {w0 w : World} {q R : Nat} {b : RB} (h : BkAt w0 w q R b) (hs : Sent s w0) (hG : GB b) (hc : b.came ≤ 1000) (o : Od) :
    Calls Tryd.prog 20 #[.pointer (some ⟨q, 0, none⟩), .agg #[.int .i64 o.id, .int .i64 o.tn, .bool o.sell, .int .i64 o.price, .int .i64 o.lots, .int .i64 o.seq]] w fun e w' => e = .returned (errV s (addR13 b o).2) ∧ ∃ R', BkAt w0 w' q R' (addR13 b o).1 ∧ Chg q R w w' :=
  (add_c s q R b o w (h.sent hs) h.book (Nat.le_trans hG.len (by omega)) hc).mono fun _ _ ⟨he, ⟨R', hR, _⟩, hC⟩ => ⟨he, R', h.chg hR hC, hC⟩
theorem BkAt.cut {s : Nat → Addr} {w0 w : World} {q R : Nat} {b : RB} (h : BkAt w0 w q R b) (hs : Sent s w0) (hG : GB b) (id n : Int) :
    Calls Tryd.prog 25 #[.pointer (some ⟨q, 0, none⟩), .int .i64 id, .int .i64 n] w fun e w' => e = .returned (errV s (cutR13 b id n).2) ∧ BkAt w0 w' q R (cutR13 b id n).1 ∧ Chg q R w w' :=
  (cut_c s q R b id n w (h.sent hs) h.book (Nat.le_trans hG.len (by omega)) (fun x hx => (hG.lots x hx).2)).mono fun _ _ ⟨he, hR, hC⟩ => ⟨he, h.chg hR hC, hC⟩
theorem BkAt.best {w0 w : World} {q R : Nat} {b : RB} (h : BkAt w0 w q R b) (hG : GB b) (sell : Bool) :
    Calls Tryd.prog 18 #[.pointer (some ⟨q, 0, none⟩), .bool sell] w fun e w' => e = .returned (.tuple #[.agg #[.int .i64 ((listR13 b.L sell).headD od0).id, .int .i64 ((listR13 b.L sell).headD od0).tn, .bool ((listR13 b.L sell).headD od0).sell, .int .i64 ((listR13 b.L sell).headD od0).price, .int .i64 ((listR13 b.L sell).headD od0).lots, .int .i64 ((listR13 b.L sell).headD od0).seq], .bool (decide (0 < (listR13 b.L sell).length))]) ∧ BkAt w0 w' q R b ∧ Below w.heap.size w w' :=
  (best_c q R b sell w h.book hG.len hG.seq).mono fun _ _ ⟨he, hb⟩ => ⟨he, h.on hb, hb⟩
theorem BkAt.list {w0 w : World} {q R : Nat} {b : RB} (h : BkAt w0 w q R b) (hG : GB b) (sell : Bool) :
    Calls Tryd.prog 13 #[.pointer (some ⟨q, 0, none⟩), .bool sell] w fun e w' => ∃ v, e = .returned v ∧ OwnE encOd 36 w' w.heap.size v (listR13 b.L sell) ∧ BkAt w0 w' q R b ∧ Below w.heap.size w w' :=
  (list_c q R b sell w h.book hG.len hG.seq).mono fun _ _ ⟨v, he, hO, hb⟩ => ⟨v, he, hO, h.on hb, hb⟩
theorem BkAt.of {w0 w : World} {q R : Nat} {b : RB} (h : BkAt w0 w q R b) (hG : GB b) (id : Int) :
    Calls Tryd.prog 35 #[.pointer (some ⟨q, 0, none⟩), .int .i64 id] w fun e w' => e = .returned (.tuple #[.agg #[.int .i64 ((b.L[pos b.L id]?).getD od0).id, .int .i64 ((b.L[pos b.L id]?).getD od0).tn, .bool ((b.L[pos b.L id]?).getD od0).sell, .int .i64 ((b.L[pos b.L id]?).getD od0).price, .int .i64 ((b.L[pos b.L id]?).getD od0).lots, .int .i64 ((b.L[pos b.L id]?).getD od0).seq], .bool (decide (pos b.L id < b.L.length))]) ∧ BkAt w0 w' q R b ∧ Below w.heap.size w w' :=
  (of_c q R b id w h.book (Nat.le_trans hG.len (by omega))).mono fun _ _ ⟨he, hb⟩ => ⟨he, h.on hb, hb⟩
theorem BkAt.size {w0 w : World} {q R : Nat} {b : RB} (h : BkAt w0 w q R b) :
    Calls Tryd.prog 21 #[.pointer (some ⟨q, 0, none⟩)] w fun e w' => e = .returned (.int .i64 (b.L.length : Int)) ∧ w' = w := len_c q R b w h.book
end Go.Proofs.YtogmlbjbjgkdcaaDoor
