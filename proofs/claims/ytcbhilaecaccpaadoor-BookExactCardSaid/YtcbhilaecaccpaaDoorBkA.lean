/- Book's law: a book in the law's own world, the document's example. Conditions: the sentinels lie where the program's text lays them. -/
import Derived.Test.YtcbhilaecaccpaaDoorBkF
import Derived.Test.YtcbhilaecaccpaaDoorBkL
import Derived.Test.YtcbhilaecaccpaaDoorBkM
import Derived.Test.YtcbhilaecaccpaaDoorKd
import Derived.Laws.StructEq
namespace Go.Proofs.YtcbhilaecaccpaaDoor
open Go Go.RowKit

/-- Two orders are the same if all their fields are. -/
theorem eqBO (x y : Od) (w : World) : (Op.equalIn 10000 31 (.agg #[.int .i64 x.id, .int .i64 x.tn, .bool x.sell, .int .i64 x.price, .int .i64 x.lots, .int .i64 x.seq]) (.agg #[.int .i64 y.id, .int .i64 y.tn, .bool y.sell, .int .i64 y.price, .int .i64 y.lots, .int .i64 y.seq])).run Tryd.prog w = .ok (decide (x = y)) w := by
  have hs : Tryd.prog.stoodInHeld 31 = false := by kernel_rfl
  have ht : Tryd.prog.underlying 31 = some (.struct (Tryd.prog.fieldsOf 31)) := by kernel_rfl
  have hf : ∃ fs, Tryd.prog.fieldsOf 31 = fs ∧ Tryd.prog.underlying 31 = some (.struct fs) := ⟨_, rfl, ht⟩
  obtain ⟨fs, h1, h2⟩ := hf
  rw [Tryd.underlying31] at h2
  simp only [Option.some.injEq, TypeDesc.struct.injEq] at h2
  subst h2
  rw [run_equalIn_agg w 9999 31 _ _ ht hs, h1]
  have q0 : ∀ (W : World) (a0 a1 a2 a3 a4 a5 : Value), (part 3 #[a0, a1, a2, a3, a4, a5] 0).run Tryd.prog W = .ok a0 W := fun _ _ _ _ _ _ _ => by kernel_rfl
  have q1 : ∀ (W : World) (a0 a1 a2 a3 a4 a5 : Value), (part 3 #[a0, a1, a2, a3, a4, a5] 1).run Tryd.prog W = .ok a1 W := fun _ _ _ _ _ _ _ => by kernel_rfl
  have q2 : ∀ (W : World) (a0 a1 a2 a3 a4 a5 : Value), (part 4 #[a0, a1, a2, a3, a4, a5] 2).run Tryd.prog W = .ok a2 W := fun _ _ _ _ _ _ _ => by kernel_rfl
  have q3 : ∀ (W : World) (a0 a1 a2 a3 a4 a5 : Value), (part 3 #[a0, a1, a2, a3, a4, a5] 3).run Tryd.prog W = .ok a3 W := fun _ _ _ _ _ _ _ => by kernel_rfl
  have q4 : ∀ (W : World) (a0 a1 a2 a3 a4 a5 : Value), (part 3 #[a0, a1, a2, a3, a4, a5] 4).run Tryd.prog W = .ok a4 W := fun _ _ _ _ _ _ _ => by kernel_rfl
  have q5 : ∀ (W : World) (a0 a1 a2 a3 a4 a5 : Value), (part 3 #[a0, a1, a2, a3, a4, a5] 5).run Tryd.prog W = .ok a5 W := fun _ _ _ _ _ _ _ => by kernel_rfl
  have qb : ∀ (W : World) (a b : Bool), (Op.equalIn 9999 4 (.bool a) (.bool b)).run Tryd.prog W = .ok (a == b) W := fun W a b => by cases a <;> cases b <;> kernel_rfl
  obtain ⟨x0, x1, x2, x3, x4, x5⟩ := x
  obtain ⟨y0, y1, y2, y3, y4, y5⟩ := y
  by_cases e0 : x0 = y0
  · by_cases e1 : x1 = y1
    · by_cases e2 : x2 = y2
      · by_cases e3 : x3 = y3
        · by_cases e4 : x4 = y4 <;> by_cases e5 : x5 = y5 <;>
            simp [Op.eqFields, q0, q1, q2, q3, q4, q5, qb, run_equalIn_int _ _ _ _ _ _ _ Tryd.underlying3, e0, e1, e2, e3, e4, e5]
        · simp [Op.eqFields, q0, q1, q2, q3, qb, run_equalIn_int _ _ _ _ _ _ _ Tryd.underlying3, e0, e1, e2, e3]
      · simp [Op.eqFields, q0, q1, q2, qb, run_equalIn_int _ _ _ _ _ _ _ Tryd.underlying3, e0, e1, e2]
    · simp [Op.eqFields, q0, q1, run_equalIn_int _ _ _ _ _ _ _ Tryd.underlying3, e0, e1]
  · simp [Op.eqFields, q0, run_equalIn_int _ _ _ _ _ _ _ Tryd.underlying3, e0]


theorem new_c (w : World) : Calls Tryd.prog 7 #[] w fun e w' => e = .returned (.pointer (some ⟨w.heap.size, 0, none⟩)) ∧ BBk w' w.heap.size w.heap.size ⟨[], 0⟩ ∧ Below w.heap.size w w' := by
  go_enter Tryd.func7, Tryd.ntmps7
  go_wp2_with fail
  go_ret
  exact ⟨rfl, ⟨.slice none 0 0, heap_alloc_new _ _, OwnE.nil _ _ _, rfl⟩, by (repeat' (first | (with_reducible exact Below.refl _ _) | (with_reducible refine below_drewN ?_ _) | (with_reducible refine Below.drew ?_) | (with_reducible refine Below.alloc ?_ ?_ _) | (with_reducible refine Below.setCell ?_ ?_ _) | (with_reducible refine Below.trans ?_ (Below.mono (by with_reducible assumption) ?_)) | omega | (simp only [World.size_alloc, World.size_setCell, World.size_drew, Go.Proofs.YtcbhilaecaccpaaDoor.World.size_drewN] at *; omega) | (with_reducible refine Below.size (B := 0) ?_)))⟩

/-- A book that the law has made, in a world that has come of the law's first. -/
structure BkAt (w0 w : World) (q R : Nat) (b : RB) : Prop where
  book : BBk w q R b
  below : Below w0.heap.size w0 w
  lowq : w0.heap.size ≤ q
theorem BkAt.on {w0 w w' : World} {q R : Nat} {b : RB} (h : BkAt w0 w q R b) (hb : Below w.heap.size w w') : BkAt w0 w' q R b :=
  ⟨h.book.on hb, h.below.trans (hb.mono h.below.size), h.lowq⟩
theorem BkAt.chg {w0 w w' : World} {q R R' : Nat} {b b' : RB} (h : BkAt w0 w q R b) (t : BBk w' q R' b') (hg : Chg q R w w') : BkAt w0 w' q R' b' :=
  ⟨t, h.below.trans (hg.below h.lowq (Nat.le_trans h.lowq h.book.lt.2.2) h.below.size), h.lowq⟩
theorem BBk.same {w w' : World} {q R : Nat} {b : RB} (h : BBk w q R b) (hs : ∀ k, k = q ∨ k = R → w'.heap[k]? = w.heap[k]?) : BBk w' q R b := by
  obtain ⟨v, h1, h2, h3⟩ := h
  exact ⟨v, (hs q (.inl rfl)).trans h1, h2.same fun k hk => hs k (.inr (by rw [hk] at h3; exact h3)), h3⟩
theorem BkAt.grown {w0 w w' : World} {q R : Nat} {b : RB} {row : Option Nat} (h : BkAt w0 w q R b) (hg : w.grownBy w' row) (hr : ∀ k, row = some k → k ≠ q ∧ k ≠ R ∧ w0.heap.size ≤ k) : BkAt w0 w' q R b :=
  ⟨h.book.same fun k hk => hg.block k (by rcases hk with rfl | rfl; exact h.book.lt.1; exact h.book.lt.2.1) (fun e => by
      obtain ⟨h1, h2, _⟩ := hr k e.symm
      rcases hk with rfl | rfl
      · exact h1 rfl
      · exact h2 rfl), h.below.grown hg h.below.size (fun k hk => (hr k hk).2.2), h.lowq⟩
theorem BkAt.sent {s : Nat → Addr} {w0 w : World} {q R : Nat} {b : RB} (h : BkAt w0 w q R b) (hs : Sent s w0) : Sent s w := hs.below h.below (Nat.le_refl _)
theorem BkAt.alloc {w0 w : World} {q R : Nat} {b : RB} (h : BkAt w0 w q R b) (o : Obj) : BkAt w0 (w.alloc o) q R b := h.on ((Below.refl _ _).alloc (Nat.le_refl _) _)
theorem BkAt.drewN {w0 w : World} {q R : Nat} {b : RB} (h : BkAt w0 w q R b) (n : Nat) : BkAt w0 (w.drewN n) q R b := h.on (below_drewN (Below.refl _ _) n)
theorem BkAt.drew {w0 w : World} {q R : Nat} {b : RB} (h : BkAt w0 w q R b) : BkAt w0 w.drew q R b := h.on ((Below.refl _ _).drew)
/-- Add, at the law's book. -/
theorem BkAt.add {s : Nat → Addr} {w0 w : World} {q R : Nat} {b : RB} (h : BkAt w0 w q R b) (hs : Sent s w0) (hG : GB b) (hc : b.came ≤ 1000) (o : Od) :
    Calls Tryd.prog 14 #[.pointer (some ⟨q, 0, none⟩), .agg #[.int .i64 o.id, .int .i64 o.tn, .bool o.sell, .int .i64 o.price, .int .i64 o.lots, .int .i64 o.seq]] w fun e w' => e = .returned (errV s (addR13 b o).2) ∧ ∃ R', BkAt w0 w' q R' (addR13 b o).1 ∧ Chg q R w w' :=
  (add_c s q R b o w (h.sent hs) h.book (Nat.le_trans hG.len (by omega)) hc).mono fun _ _ ⟨he, ⟨R', hR, _⟩, hC⟩ => ⟨he, R', h.chg hR hC, hC⟩
theorem BkAt.cut {s : Nat → Addr} {w0 w : World} {q R : Nat} {b : RB} (h : BkAt w0 w q R b) (hs : Sent s w0) (hG : GB b) (id n : Int) :
    Calls Tryd.prog 12 #[.pointer (some ⟨q, 0, none⟩), .int .i64 id, .int .i64 n] w fun e w' => e = .returned (errV s (cutR13 b id n).2) ∧ BkAt w0 w' q R (cutR13 b id n).1 ∧ Chg q R w w' :=
  (cut_c s q R b id n w (h.sent hs) h.book (Nat.le_trans hG.len (by omega)) (fun x hx => (hG.lots x hx).2)).mono fun _ _ ⟨he, hR, hC⟩ => ⟨he, h.chg hR hC, hC⟩
theorem BkAt.drop {s : Nat → Addr} {w0 w : World} {q R : Nat} {b : RB} (h : BkAt w0 w q R b) (hs : Sent s w0) (hG : GB b) (id : Int) :
    Calls Tryd.prog 8 #[.pointer (some ⟨q, 0, none⟩), .int .i64 id] w fun e w' => e = .returned (.tuple #[.agg #[.int .i64 ((dropR13 b id).2.1).id, .int .i64 ((dropR13 b id).2.1).tn, .bool ((dropR13 b id).2.1).sell, .int .i64 ((dropR13 b id).2.1).price, .int .i64 ((dropR13 b id).2.1).lots, .int .i64 ((dropR13 b id).2.1).seq], errV s (dropR13 b id).2.2]) ∧ BkAt w0 w' q R (dropR13 b id).1 ∧ Chg q R w w' :=
  (drop_c s q R b id w (h.sent hs) h.book (Nat.le_trans hG.len (by omega))).mono fun _ _ ⟨he, hR, hC⟩ => ⟨he, h.chg hR hC, hC⟩
theorem BkAt.best {w0 w : World} {q R : Nat} {b : RB} (h : BkAt w0 w q R b) (hG : GB b) (sell : Bool) :
    Calls Tryd.prog 24 #[.pointer (some ⟨q, 0, none⟩), .bool sell] w fun e w' => e = .returned (.tuple #[.agg #[.int .i64 ((listR13 b.L sell).headD od0).id, .int .i64 ((listR13 b.L sell).headD od0).tn, .bool ((listR13 b.L sell).headD od0).sell, .int .i64 ((listR13 b.L sell).headD od0).price, .int .i64 ((listR13 b.L sell).headD od0).lots, .int .i64 ((listR13 b.L sell).headD od0).seq], .bool (decide (0 < (listR13 b.L sell).length))]) ∧ BkAt w0 w' q R b ∧ Below w.heap.size w w' :=
  (best_c q R b sell w h.book hG.len hG.seq).mono fun _ _ ⟨he, hb⟩ => ⟨he, h.on hb, hb⟩
theorem BkAt.list {w0 w : World} {q R : Nat} {b : RB} (h : BkAt w0 w q R b) (hG : GB b) (sell : Bool) :
    Calls Tryd.prog 22 #[.pointer (some ⟨q, 0, none⟩), .bool sell] w fun e w' => ∃ v, e = .returned v ∧ OwnE encOd 31 w' w.heap.size v (listR13 b.L sell) ∧ BkAt w0 w' q R b ∧ Below w.heap.size w w' :=
  (list_c q R b sell w h.book hG.len hG.seq).mono fun _ _ ⟨v, he, hO, hb⟩ => ⟨v, he, hO, h.on hb, hb⟩
theorem BkAt.of {w0 w : World} {q R : Nat} {b : RB} (h : BkAt w0 w q R b) (hG : GB b) (id : Int) :
    Calls Tryd.prog 16 #[.pointer (some ⟨q, 0, none⟩), .int .i64 id] w fun e w' => e = .returned (.tuple #[.agg #[.int .i64 ((b.L[pos b.L id]?).getD od0).id, .int .i64 ((b.L[pos b.L id]?).getD od0).tn, .bool ((b.L[pos b.L id]?).getD od0).sell, .int .i64 ((b.L[pos b.L id]?).getD od0).price, .int .i64 ((b.L[pos b.L id]?).getD od0).lots, .int .i64 ((b.L[pos b.L id]?).getD od0).seq], .bool (decide (pos b.L id < b.L.length))]) ∧ BkAt w0 w' q R b ∧ Below w.heap.size w w' :=
  (of_c q R b id w h.book (Nat.le_trans hG.len (by omega))).mono fun _ _ ⟨he, hb⟩ => ⟨he, h.on hb, hb⟩
theorem BkAt.size {w0 w : World} {q R : Nat} {b : RB} (h : BkAt w0 w q R b) :
    Calls Tryd.prog 20 #[.pointer (some ⟨q, 0, none⟩)] w fun e w' => e = .returned (.int .i64 (b.L.length : Int)) ∧ w' = w := len_c q R b w h.book

def X1 : Od := ⟨1, 0, false, 5, 1, 0⟩
def X2 : Od := ⟨2, 0, false, 7, 2, 0⟩
def X3 : Od := ⟨3, 0, false, 7, 3, 0⟩
def Y1 : RB := ⟨[⟨1, 0, false, 5, 1, 1⟩], 1⟩
def Y2 : RB := ⟨[⟨1, 0, false, 5, 1, 1⟩, ⟨2, 0, false, 7, 2, 2⟩], 2⟩
def Y3 : RB := ⟨[⟨1, 0, false, 5, 1, 1⟩, ⟨2, 0, false, 7, 2, 2⟩, ⟨3, 0, false, 7, 3, 3⟩], 3⟩
def Y4 : RB := ⟨[⟨1, 0, false, 5, 1, 1⟩, ⟨3, 0, false, 7, 3, 3⟩], 3⟩
theorem y1 : addR13 ⟨[], 0⟩ X1 = (Y1, 0) := rfl
theorem y2 : addR13 Y1 X2 = (Y2, 0) := rfl
theorem y3 : addR13 Y2 X3 = (Y3, 0) := rfl
theorem y4 : cutR13 Y3 2 2 = (Y4, 0) := rfl
theorem y5 : cutR13 Y4 2 1 = (Y4, 5) := rfl
theorem gy1 : GB Y1 := by have := (GB.empty.add X1).1; rwa [y1] at this
theorem gy2 : GB Y2 := by have := (gy1.add X2).1; rwa [y2] at this
theorem gy3 : GB Y3 := by have := (gy2.add X3).1; rwa [y3] at this
theorem gy4 : GB Y4 := by have := (gy3.cut 2 2).1; rwa [y4] at this

set_option maxHeartbeats 3200000 in
set_option maxRecDepth 100000 in
/-- What the law asks of the document's example. -/
theorem awake_c (s : Nat → Addr) (w : World) (hs : Sent s w) : Calls Tryd.prog 6 #[] w fun e w' => e = .returned (.bool true) ∧ Below w.heap.size w w' := by
  have HS := Lib.hid hs; clear hs
  obtain ⟨q, hq⟩ : ∃ q, w.heap.size = q := ⟨_, rfl⟩
  have HQ := Lib.hid hq
  have HN := Lib.hid (new_c w)
  rw [hq] at HN
  clear hq
  go_enter Tryd.func6, Tryd.ntmps6
  go_wp2_with fail
  refine HN.out.mono ?_
  rintro e w1 ⟨rfl, t1, b1⟩
  have K1 : Hid (BkAt w w1 q q ⟨[], 0⟩) := Lib.hid ⟨t1, by rw [HQ.out]; exact b1, Nat.le_of_eq HQ.out⟩
  clear t1 b1
  go_wp2_with fail
  refine (K1.out.add HS.out GB.empty (by decide) X1).mono ?_
  rw [y1]
  rintro e w2 ⟨rfl, R2, t2, g2⟩
  have K2 := Lib.hid t2
  clear K1 t2 g2
  rw [show errV s (Y1, 0).2 = .nilIface from rfl]
  go_wp2_with fail
  refine (K2.out.add HS.out gy1 (by decide) X2).mono ?_
  rw [y2]
  rintro e w3 ⟨rfl, R3, t3, g3⟩
  have K3 := Lib.hid t3
  clear K2 t3 g3
  rw [show errV s (Y2, 0).2 = .nilIface from rfl]
  go_wp2_with fail
  refine (K3.out.add HS.out gy2 (by decide) X3).mono ?_
  rw [y3]
  rintro e w4 ⟨rfl, R, t4, g4⟩
  have K4 := Lib.hid t4
  clear K3 t4 g4
  rw [show errV s (Y3, 0).2 = .nilIface from rfl]
  go_wp2_with fail
  refine (K4.out.best gy3 false).mono ?_
  rintro e w5 ⟨he, t5, b5⟩
  replace he := he.trans (show _ = Ending.returned (.tuple #[.agg #[.int .i64 2, .int .i64 0, .bool false, .int .i64 7, .int .i64 2, .int .i64 2], .bool true]) from rfl)
  subst he
  have K5 := Lib.hid t5
  clear K4 t5 b5
  go_wp2_with fail
  refine (BkAt.best (K5.out.alloc _) gy3 true).mono ?_
  rintro e w6 ⟨he, t6, b6⟩
  replace he := he.trans (show _ = Ending.returned (.tuple #[.agg #[.int .i64 0, .int .i64 0, .bool false, .int .i64 0, .int .i64 0, .int .i64 0], .bool false]) from rfl)
  subst he
  have ob : BOdBlk w6 w5.heap.size ⟨2, 0, false, 7, 2, 2⟩ := (BOdBlk.new w5 ⟨2, 0, false, 7, 2, 2⟩).on b6
  obtain ⟨p0, p1, p2, p3, p4, p5, pl⟩ := ob.cells
  simp only at p0 p1 p2 p3 p4 p5
  have K6 := Lib.hid t6
  have hE : ∀ W : World, (Op.equalIn 10000 31 (.agg #[.int .i64 2, .int .i64 0, .bool false, .int .i64 7, .int .i64 2, .int .i64 2]) (.agg #[.int .i64 2, .int .i64 0, .bool false, .int .i64 7, .int .i64 2, .int .i64 2])).run Tryd.prog W = .ok true W := fun W => (eqBO ⟨2, 0, false, 7, 2, 2⟩ ⟨2, 0, false, 7, 2, 2⟩ W).trans (by rw [decide_eq_true rfl])
  clear K5 t6 b6 ob
  go_wp2_with fail
  refine (BkAt.size (K6.out.alloc _)).mono ?_
  rintro e w7 ⟨he, rfl⟩
  replace he := he.trans (show _ = Ending.returned (.int .i64 3) from rfl)
  subst he
  clear p0 p1 p2 p3 p4 p5 pl hE
  go_wp2_with fail
  refine (BkAt.cut (K6.out.alloc _) HS.out gy3 2 2).mono ?_
  rw [y4]
  rintro e w8 ⟨rfl, t8, g8⟩
  have K8 := Lib.hid t8
  rw [show errV s (Y4, 0).2 = .nilIface from rfl]
  clear K6 t8 g8
  go_wp2_with fail
  refine (K8.out.list gy4 false).mono ?_
  rintro e w9 ⟨v, rfl, ho, t9, b9⟩
  have K9 := Lib.hid t9
  obtain ⟨A, c, rfl⟩ := ho.form
  rw [show (listR13 Y4.L false).length = 2 from by decide]
  clear K8 t9 b9 ho
  go_wp2_with fail
  refine (K9.out.cut HS.out gy4 2 1).mono ?_
  rw [y5]
  rintro e w10 ⟨rfl, t10, g10⟩
  have K10 := Lib.hid t10
  clear K9 t10 g10
  go_wp2_with fail
  refine (kind_errV s 5 _ (K10.out.sent HS.out) (by omega)).mono ?_
  rintro e w11 ⟨rfl, b11⟩
  have K11 := Lib.hid (K10.out.on b11)
  clear K10 b11
  go_wp2_with fail
  go_ret
  exact ⟨rfl, K11.out.below⟩
end Go.Proofs.YtcbhilaecaccpaaDoor
