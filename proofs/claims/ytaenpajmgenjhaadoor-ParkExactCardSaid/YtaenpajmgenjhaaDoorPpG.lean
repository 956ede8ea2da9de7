/- The park that a law has made; equality of machines; the document's example. Condition: the sentinels lie where the program's text lays them. -/
import Derived.Test.YtaenpajmgenjhaaDoorPpF
import Derived.Test.YtaenpajmgenjhaaDoorKd
namespace Go.Proofs.YtaenpajmgenjhaaDoor
open Go Go.RowKit Go.Shelf

theorem eqV9 (x0 x1 x2 x3 y0 y1 y2 y3 : Int) (w : World) : (Op.equalIn 9999 28 (.agg #[.int .i64 x0, .int .i64 x1, .int .i64 x2, .int .i64 x3]) (.agg #[.int .i64 y0, .int .i64 y1, .int .i64 y2, .int .i64 y3])).run Tryd.prog w
    = .ok (x0 == y0 && (x1 == y1 && (x2 == y2 && x3 == y3))) w := by
  have hi : (Tryd.prog.info? 3).isSome = true := by kernel_rfl
  obtain ⟨i, hi⟩ := Option.isSome_iff_exists.1 hi
  have hc : Tryd.prog.cellsOf 3 = 1 := by kernel_rfl
  have hu : Tryd.prog.underlying 28 = some (.array 4 3) := by kernel_rfl
  have q0 : ∀ (W : World) (a0 a1 a2 a3 : Value), (part 3 #[a0, a1, a2, a3] 0).run Tryd.prog W = .ok a0 W := fun _ _ _ _ _ => by kernel_rfl
  have q1 : ∀ (W : World) (a0 a1 a2 a3 : Value), (part 3 #[a0, a1, a2, a3] 1).run Tryd.prog W = .ok a1 W := fun _ _ _ _ _ => by kernel_rfl
  have q2 : ∀ (W : World) (a0 a1 a2 a3 : Value), (part 3 #[a0, a1, a2, a3] 2).run Tryd.prog W = .ok a2 W := fun _ _ _ _ _ => by kernel_rfl
  have q3 : ∀ (W : World) (a0 a1 a2 a3 : Value), (part 3 #[a0, a1, a2, a3] 3).run Tryd.prog W = .ok a3 W := fun _ _ _ _ _ => by kernel_rfl
  rw [run_equalIn_array w 9998 _ _ hu hi, hc]
  simp only [Op.eqItems, List.range, List.range.loop, Nat.mul_one, Sem.run_bind, q0, run_equalIn_int _ _ _ _ _ _ _ Tryd.underlying3, Result.andThen_ok]
  cases e0 : x0 == y0 <;> cases e1 : x1 == y1 <;> cases e2 : x2 == y2 <;> cases e3 : x3 == y3 <;>
    simp [q1, q2, q3, run_equalIn_int _ _ _ _ _ _ _ Tryd.underlying3, e1, e2, e3]
theorem beqV (x y : V4) : (x.a == y.a && (x.b == y.b && (x.c == y.c && x.d == y.d))) = decide (x = y) := by
  rw [Bool.eq_iff_iff]
  simp only [Bool.and_eq_true, beq_iff_eq, decide_eq_true_eq]
  exact ⟨fun h => V4.eq h.1 h.2.1 h.2.2.1 h.2.2.2, fun h => by rw [h]; exact ⟨rfl, rfl, rfl, rfl⟩⟩
/-- Equality of vectors as values. -/
theorem eqVd (x y : V4) (w : World) : (Op.equalIn 10000 28 (.agg #[.int .i64 x.a, .int .i64 x.b, .int .i64 x.c, .int .i64 x.d]) (.agg #[.int .i64 y.a, .int .i64 y.b, .int .i64 y.c, .int .i64 y.d])).run Tryd.prog w = .ok (decide (x = y)) w := by rw [eqV, beqV]
theorem eqV9d (x y : V4) (w : World) : (Op.equalIn 9999 28 (.agg #[.int .i64 x.a, .int .i64 x.b, .int .i64 x.c, .int .i64 x.d]) (.agg #[.int .i64 y.a, .int .i64 y.b, .int .i64 y.c, .int .i64 y.d])).run Tryd.prog w = .ok (decide (x = y)) w := by rw [eqV9, beqV]
theorem beqM (x y : Mc) : (x.id == y.id && (x.cell == y.cell && (decide (x.has = y.has) && x.st == y.st))) = decide (x = y) := by
  rw [Bool.eq_iff_iff]
  simp only [Bool.and_eq_true, beq_iff_eq, decide_eq_true_eq]
  exact ⟨fun h => by cases x; cases y; simp only at h; rw [h.1, h.2.1, h.2.2.1, h.2.2.2], fun h => by rw [h]; exact ⟨rfl, rfl, rfl, rfl⟩⟩
theorem eqM (x y : Mc) (w : World) : (Op.equalIn 10000 45 (.agg #[.int .i64 x.id, .int .i64 x.cell, .int .i64 x.has.a, .int .i64 x.has.b, .int .i64 x.has.c, .int .i64 x.has.d, .int .i64 x.st]) (.agg #[.int .i64 y.id, .int .i64 y.cell, .int .i64 y.has.a, .int .i64 y.has.b, .int .i64 y.has.c, .int .i64 y.has.d, .int .i64 y.st])).run Tryd.prog w = .ok (decide (x = y)) w := by
  have hs : Tryd.prog.stoodInHeld 45 = false := by kernel_rfl
  have ht : Tryd.prog.underlying 45 = some (.struct (Tryd.prog.fieldsOf 45)) := by kernel_rfl
  have hf : ∃ fs, Tryd.prog.fieldsOf 45 = fs ∧ Tryd.prog.underlying 45 = some (.struct fs) := ⟨_, rfl, ht⟩
  obtain ⟨fs, h1, h2⟩ := hf
  rw [Tryd.underlying45] at h2
  simp only [Option.some.injEq, TypeDesc.struct.injEq] at h2
  subst h2
  rw [run_equalIn_agg w 9999 45 _ _ ht hs, h1]
  have q0 : ∀ (W : World) (a0 a1 a2 a3 a4 a5 a6 : Value), (part 3 #[a0, a1, a2, a3, a4, a5, a6] 0).run Tryd.prog W = .ok a0 W := fun _ _ _ _ _ _ _ _ => by kernel_rfl
  have q1 : ∀ (W : World) (a0 a1 a2 a3 a4 a5 a6 : Value), (part 3 #[a0, a1, a2, a3, a4, a5, a6] 1).run Tryd.prog W = .ok a1 W := fun _ _ _ _ _ _ _ _ => by kernel_rfl
  have q2 : ∀ (W : World) (a0 a1 a2 a3 a4 a5 a6 : Value), (part 28 #[a0, a1, a2, a3, a4, a5, a6] 2).run Tryd.prog W = .ok (.agg #[a2, a3, a4, a5]) W := fun _ _ _ _ _ _ _ _ => by kernel_rfl
  have q6 : ∀ (W : World) (a0 a1 a2 a3 a4 a5 a6 : Value), (part 3 #[a0, a1, a2, a3, a4, a5, a6] 6).run Tryd.prog W = .ok a6 W := fun _ _ _ _ _ _ _ _ => by kernel_rfl
  rw [← beqM]
  have n0 : ("Id" ≠ "_") = True := by simp
  have n1 : ("Cell" ≠ "_") = True := by simp
  have n2 : ("Has" ≠ "_") = True := by simp
  have n3 : ("State" ≠ "_") = True := by simp
  cases e0 : x.id == y.id <;> cases e1 : x.cell == y.cell <;> cases e2 : decide (x.has = y.has) <;> cases e3 : x.st == y.st <;>
    simp only [Op.eqFields, n0, n1, n2, n3, if_true, Sem.run_bind, q0, q1, q2, q6, eqV9d, run_equalIn_int _ _ _ _ _ _ _ Tryd.underlying3, e0, e1, e2, e3, Result.andThen_ok, Bool.not_true, Bool.not_false, Bool.false_eq_true, if_false, Sem.run_pure, Bool.and_true, Bool.and_false]

/-- A park that the law has made, in a world that has come of the law's first. -/
structure PkAt (w0 w : World) (q R : Nat) (P : List Mc) : Prop where
  mem : PPk w q R P
  below : Below w0.heap.size w0 w
  lowq : w0.heap.size ≤ q
  good : GP P
  sum : GS P
theorem PkAt.on {w0 w w' : World} {q R : Nat} {P : List Mc} (h : PkAt w0 w q R P) (hb : Below w.heap.size w w') : PkAt w0 w' q R P :=
  ⟨h.mem.on hb, h.below.trans (hb.mono h.below.size), h.lowq, h.good, h.sum⟩
theorem PPk.same {w w' : World} {q R : Nat} {P : List Mc} (h : PPk w q R P) (hs : ∀ k, k = q ∨ k = R → w'.heap[k]? = w.heap[k]?) : PPk w' q R P := by
  obtain ⟨v, h1, h2, h3⟩ := h
  exact ⟨v, (hs q (.inl rfl)).trans h1, h2.same fun k hk => hs k (.inr (by rw [hk] at h3; exact h3)), h3⟩
/-- A store or draw beside the park. -/
theorem PkAt.far {w0 w w' : World} {q R : Nat} {P : List Mc} (h : PkAt w0 w q R P) (hb : Below w0.heap.size w0 w') (hs : ∀ k, k = q ∨ k = R → w'.heap[k]? = w.heap[k]?) : PkAt w0 w' q R P :=
  ⟨h.mem.same hs, hb, h.lowq, h.good, h.sum⟩
theorem PkAt.set {w0 w : World} {q R : Nat} {P : List Mc} (h : PkAt w0 w q R P) {a : Addr} (h1 : a.block ≠ q) (h2 : a.block ≠ R) (hl : w0.heap.size ≤ a.block) (v : Value) : PkAt w0 (w.setCell a v) q R P :=
  h.far (h.below.setCell hl _) fun k hk => heap_setCell_other w a k v (by rcases hk with rfl | rfl; exact h1.symm; exact h2.symm)
theorem PkAt.alloc {w0 w : World} {q R : Nat} {P : List Mc} (h : PkAt w0 w q R P) (o : Obj) : PkAt w0 (w.alloc o) q R P := h.on ((Below.refl _ _).alloc (Nat.le_refl _) _)
theorem PkAt.drew {w0 w : World} {q R : Nat} {P : List Mc} (h : PkAt w0 w q R P) : PkAt w0 w.drew q R P := h.on ((Below.refl _ _).drew)
theorem PkAt.drewN {w0 w : World} {q R : Nat} {P : List Mc} (h : PkAt w0 w q R P) (n : Nat) : PkAt w0 (w.drewN n) q R P := h.on (below_drewN (Below.refl _ _) n)
theorem PkAt.chg {w0 w w' : World} {q R R' : Nat} {P P' : List Mc} (h : PkAt w0 w q R P) (t : PPk w' q R' P') (hg : Chg q R w w') (g : GP P') (s : GS P') : PkAt w0 w' q R' P' :=
  ⟨t, h.below.trans (hg.below h.lowq (Nat.le_trans h.lowq h.mem.lt.2.2) h.below.size), h.lowq, g, s⟩
theorem PkAt.new (w : World) : Calls Tryd.prog 7 #[] w fun e w' => e = .returned (.pointer (some ⟨w.heap.size, 0, none⟩)) ∧ PkAt w w' w.heap.size w.heap.size [] := by
  refine (new_c w).mono ?_
  rintro e w' ⟨he, hp, hb⟩
  exact ⟨he, hp, hb, Nat.le_refl _, ⟨List.Pairwise.nil, (fun m h => by cases h), (fun m h => by cases h), (fun m h => by cases h), (fun m h => by cases h), by simp⟩, GS.nil⟩
section
variable {w0 w : World} {q R : Nat} {P : List Mc} {s : Nat → Addr}
theorem PkAt.add (h : PkAt w0 w q R P) (hs : Sent s w0) (id cell : Int) (has : V4) :
    Calls Tryd.prog 13 #[.pointer (some ⟨q, 0, none⟩), .int .i64 id, .int .i64 cell, .agg #[.int .i64 has.a, .int .i64 has.b, .int .i64 has.c, .int .i64 has.d]] w fun e w' => e = .returned (errV s (addP P id cell has).2) ∧ ∃ R', PkAt w0 w' q R' (addP P id cell has).1 ∧ (R' = R ∨ w.heap.size ≤ R') ∧ Chg q R w w' := by
  refine (addN_c s q R P id cell has w (hs.below h.below (Nat.le_refl _)) h.mem h.good h.sum).mono ?_
  rintro e w' ⟨he, ⟨R', h1, h2⟩, h3⟩
  exact ⟨he, R', h.chg h1 h3 (h.good.add id cell has) (h.sum.add id cell has), h2, h3⟩
theorem PkAt.drop (h : PkAt w0 w q R P) (hs : Sent s w0) (id : Int) :
    Calls Tryd.prog 9 #[.pointer (some ⟨q, 0, none⟩), .int .i64 id] w fun e w' => e = .returned (errV s (dropP P id).2) ∧ PkAt w0 w' q R (dropP P id).1 ∧ Chg q R w w' := by
  refine (drop_c s q R P id w (hs.below h.below (Nat.le_refl _)) h.mem h.good).mono ?_
  rintro e w' ⟨he, h1, h3⟩
  exact ⟨he, h.chg h1 h3 (h.good.drop id) (h.sum.drop h.good id), h3⟩
theorem PkAt.sets (h : PkAt w0 w q R P) (hs : Sent s w0) (id st : Int) :
    Calls Tryd.prog 11 #[.pointer (some ⟨q, 0, none⟩), .int .i64 id, .int .i64 st] w fun e w' => e = .returned (errV s (setP P id st).2) ∧ PkAt w0 w' q R (setP P id st).1 ∧ Chg q R w w' := by
  refine (set_c s q R P id st w (hs.below h.below (Nat.le_refl _)) h.mem h.good).mono ?_
  rintro e w' ⟨he, h1, h3⟩
  exact ⟨he, h.chg h1 h3 (h.good.set id st) (h.sum.set id st), h3⟩
theorem PkAt.of (h : PkAt w0 w q R P) (id : Int) :
    Calls Tryd.prog 15 #[.pointer (some ⟨q, 0, none⟩), .int .i64 id] w fun e w' => e = .returned (.tuple #[.agg #[.int .i64 ((atP P id).getD mc0).id, .int .i64 ((atP P id).getD mc0).cell, .int .i64 ((atP P id).getD mc0).has.a, .int .i64 ((atP P id).getD mc0).has.b, .int .i64 ((atP P id).getD mc0).has.c, .int .i64 ((atP P id).getD mc0).has.d, .int .i64 ((atP P id).getD mc0).st], .bool (atP P id).isSome]) ∧ Below w.heap.size w w' :=
  of_c q R P id w h.mem h.good
theorem PkAt.live (h : PkAt w0 w q R P) (hs : Sent s w0) (c : Int) :
    Calls Tryd.prog 17 #[.pointer (some ⟨q, 0, none⟩), .int .i64 c] w fun e w' => e = .returned (.agg #[.int .i64 (liveP P c false).a, .int .i64 (liveP P c false).b, .int .i64 (liveP P c false).c, .int .i64 (liveP P c false).d]) ∧ Below w.heap.size w w' :=
  live_c s q R P c w (hs.below h.below (Nat.le_refl _)) h.mem h.good h.sum
theorem PkAt.list (h : PkAt w0 w q R P) (c : Int) :
    Calls Tryd.prog 19 #[.pointer (some ⟨q, 0, none⟩), .int .i64 c] w fun e w' => ∃ v', e = .returned v' ∧ OwnE encMc 45 w' w.heap.size v' (inP P c) ∧ Below w.heap.size w w' :=
  list_c q R P c w h.mem (by have := h.good.len; omega)
theorem PkAt.all (h : PkAt w0 w q R P) :
    Calls Tryd.prog 20 #[.pointer (some ⟨q, 0, none⟩)] w fun e w' => ∃ v', e = .returned v' ∧ OwnE encMc 45 w' w.heap.size v' P ∧ Below w.heap.size w w' :=
  all_c q R P w h.mem (by have := h.good.len; omega)
end

def Pa1 : List Mc := [⟨5, 1, ⟨4, 0, 0, 0⟩, 0⟩]
def Pa2 : List Mc := [⟨5, 1, ⟨4, 0, 0, 0⟩, 0⟩, ⟨6, 1, ⟨4, 0, 0, 0⟩, 0⟩]
def Pa3 : List Mc := [⟨5, 1, ⟨4, 0, 0, 0⟩, 0⟩, ⟨6, 1, ⟨4, 0, 0, 0⟩, 1⟩]
theorem pa1 : addP [] 5 1 ⟨4, 0, 0, 0⟩ = (Pa1, 0) := by decide
theorem pa2 : addP Pa1 6 1 ⟨4, 0, 0, 0⟩ = (Pa2, 0) := by decide
theorem pa3 : setP Pa2 6 1 = (Pa3, 0) := by decide
theorem pa4 : setP Pa3 6 1 = (Pa3, 13) := by decide
theorem pa5 : addP Pa3 5 1 ⟨0, 0, 0, 0⟩ = (Pa3, 6) := by decide
theorem pa6 : (atP Pa3 6).getD mc0 = ⟨6, 1, ⟨4, 0, 0, 0⟩, 1⟩ ∧ (atP Pa3 6).isSome = true := by decide
theorem pa7 : liveP Pa3 1 false = ⟨4, 0, 0, 0⟩ := by decide
theorem pa8 : (inP Pa3 1).length = 2 := by decide

set_option maxHeartbeats 3200000 in
set_option maxRecDepth 100000 in
/-- What the law asks of the document's example. -/
theorem awake_c (s : Nat → Addr) (w : World) (hs : Sent s w) : Calls Tryd.prog 6 #[] w fun e w' => e = .returned (.bool true) ∧ Below w.heap.size w w' := by
  have HS := Lib.hid hs; clear hs
  obtain ⟨q, hq⟩ : ∃ q, q = w.heap.size := ⟨_, rfl⟩
  have HN := Lib.hid (PkAt.new w)
  rw [← hq] at HN
  have HQ := Lib.hid hq
  clear hq
  have hE := eqV
  have hM := eqM ⟨6, 1, ⟨4, 0, 0, 0⟩, 1⟩ ⟨6, 1, ⟨4, 0, 0, 0⟩, 1⟩
  go_enter Tryd.func6, Tryd.ntmps6
  go_wp2_with fail
  refine HN.out.mono ?_
  rintro e w1 ⟨rfl, t1⟩
  have K1 := Lib.hid t1
  clear t1
  go_wp2_with fail
  refine (K1.out.add HS.out 5 1 ⟨4, 0, 0, 0⟩).mono ?_
  rw [pa1]
  rintro e w2 ⟨rfl, R2, t2, g2, _⟩
  have K2 := Lib.hid t2
  clear K1 t2 g2
  rw [show errV s (Pa1, 0).2 = .nilIface from rfl]
  go_wp2_with fail
  refine (K2.out.add HS.out 6 1 ⟨4, 0, 0, 0⟩).mono ?_
  rw [pa2]
  rintro e w3 ⟨rfl, R3, t3, g3, _⟩
  have K3 := Lib.hid t3
  clear K2 t3 g3
  rw [show errV s (Pa2, 0).2 = .nilIface from rfl]
  go_wp2_with fail
  refine (K3.out.sets HS.out 6 1).mono ?_
  rw [pa3]
  rintro e w4 ⟨rfl, t4, g4⟩
  have K4 := Lib.hid t4
  clear K3 t4 g4
  rw [show errV s (Pa3, 0).2 = .nilIface from rfl]
  go_wp2_with fail
  refine (K4.out.of 6).mono ?_
  rw [pa6.1, pa6.2]
  rintro e w5 ⟨rfl, b5⟩
  have K5 := Lib.hid ((K4.out.on b5).alloc (.cells #[.int .i64 6, .int .i64 1, .int .i64 4, .int .i64 0, .int .i64 0, .int .i64 0, .int .i64 1] 45))
  have M5 := Lib.hid (McB.new w5 ⟨6, 1, ⟨4, 0, 0, 0⟩, 1⟩)
  clear K4 b5
  go_wp2_with fail
  refine (K5.out.live HS.out 1).mono ?_
  rw [pa7]
  rintro e w6 ⟨rfl, b6⟩
  have K6 := Lib.hid (K5.out.on b6)
  have M6 := Lib.hid (McB.on b6 M5.out)
  obtain ⟨c0, c1, c2, c3, c4, c5, c6, cf, cl⟩ := M6.out.facts
  clear K5 M5 b6
  go_wp2_with fail
  refine (K6.out.list 1).mono ?_
  rintro e w7 ⟨v7, rfl, o7, b7⟩
  have K7 := Lib.hid (K6.out.on b7)
  obtain ⟨A7, n7, rfl⟩ := o7.form
  rw [pa8]
  clear K6 b7 o7 c0 c1 c2 c3 c4 c5 c6 cf cl
  go_wp2_with fail
  refine (K7.out.sets HS.out 6 1).mono ?_
  rw [pa4]
  rintro e w8 ⟨rfl, t8, g8⟩
  have K8 := Lib.hid t8
  have B8 := Lib.hid t8.below
  clear K7 t8 g8
  go_wp2_with fail
  refine (kind_errV s 13 w8 (HS.out.below B8.out (Nat.le_refl _)) (by omega)).mono ?_
  rintro e w9 ⟨rfl, b9⟩
  have K9 := Lib.hid (K8.out.on b9)
  clear K8 b9
  go_wp2_with fail
  refine (K9.out.add HS.out 5 1 ⟨0, 0, 0, 0⟩).mono ?_
  rw [pa5]
  rintro e w10 ⟨rfl, R10, t10, g10, _⟩
  have K10 := Lib.hid t10
  have B10 := Lib.hid t10.below
  clear K9 t10 g10
  go_wp2_with fail
  refine (kind_errV s 6 w10 (HS.out.below B10.out (Nat.le_refl _)) (by omega)).mono ?_
  rintro e w11 ⟨rfl, b11⟩
  have B11 := B10.out.trans (b11.mono B10.out.size)
  clear K10 b11
  go_wp2_with fail
  go_ret
  exact ⟨rfl, B11⟩
end Go.Proofs.YtaenpajmgenjhaaDoor
