/- Grant's law: a book in the law's own world, the document's example, a deed. Conditions: the sentinels lie where the program's text lays them. -/
import Derived.Test.YtpgioihmaodlcaaDoorGrK
import Derived.Test.YtpgioihmaodlcaaDoorKd
import Derived.Test.YtpgioihmaodlcaaDoorRowGAct
namespace Go.Proofs.YtpgioihmaodlcaaDoor
open Go Go.RowKit Go.Maps Go.Sort

/-- A book that the law has made, in a world that has come of the law's first. -/
structure GaAt (w0 w : World) (q b : Nat) (T : Grs) : Prop where
  book : BookAt w q b T
  below : Below w0.heap.size w0 w
  lowq : w0.heap.size ≤ q
  lowb : w0.heap.size ≤ b
theorem GaAt.on {w0 w w' : World} {q b : Nat} {T : Grs} (h : GaAt w0 w q b T) (hb : Below w.heap.size w w') : GaAt w0 w' q b T :=
  ⟨h.book.grow hb, h.below.trans (hb.mono h.below.size), h.lowq, h.lowb⟩
theorem GaAt.chg {w0 w w' : World} {q b : Nat} {T T' : Grs} (h : GaAt w0 w q b T) (t : BookAt w' q b T') (hg : Chg b b w w') : GaAt w0 w' q b T' :=
  ⟨t, h.below.trans (hg.below h.lowb h.lowb h.below.size), h.lowq, h.lowb⟩
theorem GaAt.sent {s : Nat → Addr} {w0 w : World} {q b : Nat} {T : Grs} (h : GaAt w0 w q b T) (hs : Sent s w0) : Sent s w := hs.below h.below (Nat.le_refl _)
theorem GaAt.nots {s : Nat → Addr} {w0 w : World} {q b : Nat} {T : Grs} (h : GaAt w0 w q b T) (hs : Sent s w0) : NotSent s b := fun i hi => by
  have h1 := lt_of_cell (hs.cell i hi)
  obtain ⟨cs, t, hr⟩ := hs.row i hi
  have h2 := lt_of_row hr
  have h3 := h.lowb
  exact ⟨by simp only at h1; omega, by omega⟩
theorem GaAt.alloc {w0 w : World} {q b : Nat} {T : Grs} (h : GaAt w0 w q b T) (o : Obj) : GaAt w0 (w.alloc o) q b T := h.on ((Below.refl _ _).alloc (Nat.le_refl _) _)
theorem GaAt.drewN {w0 w : World} {q b : Nat} {T : Grs} (h : GaAt w0 w q b T) (n : Nat) : GaAt w0 (w.drewN n) q b T := h.on (below_drewN (Below.refl _ _) n)
theorem GaAt.drew {w0 w : World} {q b : Nat} {T : Grs} (h : GaAt w0 w q b T) : GaAt w0 w.drew q b T := h.on (Below.drew (Below.refl _ _))

theorem eqPl9 (x0 x1 x2 y0 y1 y2 : Int) (w : World) : (Op.equalIn 9999 24 (.agg #[.int .i64 x0, .int .i64 x1, .int .i64 x2]) (.agg #[.int .i64 y0, .int .i64 y1, .int .i64 y2])).run Tryd.prog w = .ok (decide (x0 = y0 ∧ x1 = y1 ∧ x2 = y2)) w := by
  have hs : Tryd.prog.stoodInHeld 24 = false := by kernel_rfl
  have ht : Tryd.prog.underlying 24 = some (.struct (Tryd.prog.fieldsOf 24)) := by kernel_rfl
  have hf : ∃ fs, Tryd.prog.fieldsOf 24 = fs ∧ Tryd.prog.underlying 24 = some (.struct fs) := ⟨_, rfl, ht⟩
  obtain ⟨fs, h1, h2⟩ := hf
  rw [Tryd.underlying24] at h2
  simp only [Option.some.injEq, TypeDesc.struct.injEq] at h2
  subst h2
  rw [run_equalIn_agg w 9998 24 _ _ ht hs, h1]
  have q0 : ∀ (W : World) (a0 a1 a2 : Value), (part 3 #[a0, a1, a2] 0).run Tryd.prog W = .ok a0 W := fun _ _ _ _ => by kernel_rfl
  have q1 : ∀ (W : World) (a0 a1 a2 : Value), (part 3 #[a0, a1, a2] 1).run Tryd.prog W = .ok a1 W := fun _ _ _ _ => by kernel_rfl
  have q2 : ∀ (W : World) (a0 a1 a2 : Value), (part 3 #[a0, a1, a2] 2).run Tryd.prog W = .ok a2 W := fun _ _ _ _ => by kernel_rfl
  by_cases e0 : x0 = y0 <;> by_cases e1 : x1 = y1 <;> by_cases e2 : x2 = y2 <;>
    simp [Op.eqFields, q0, q1, q2, run_equalIn_int _ _ _ _ _ _ _ Tryd.underlying3, e0, e1, e2]
theorem part1K (a0 a1 a2 a3 : Value) (W : World) : (part 24 #[a0, a1, a2, a3] 1).run Tryd.prog W = .ok (.agg #[a1, a2, a3]) W := by kernel_rfl
theorem part0K (a0 a1 a2 a3 : Value) (W : World) : (part 3 #[a0, a1, a2, a3] 0).run Tryd.prog W = .ok a0 W := by kernel_rfl
/-- Keys are the same if their four numbers are. -/
theorem eqKy (x y : V4) (w : World) : (Op.equalIn 10000 31 (.agg #[.int .i64 x.a, .int .i64 x.b, .int .i64 x.c, .int .i64 x.d]) (.agg #[.int .i64 y.a, .int .i64 y.b, .int .i64 y.c, .int .i64 y.d])).run Tryd.prog w = .ok (decide (x = y)) w := by
  have hs : Tryd.prog.stoodInHeld 31 = false := by kernel_rfl
  have ht : Tryd.prog.underlying 31 = some (.struct (Tryd.prog.fieldsOf 31)) := by kernel_rfl
  have hf : ∃ fs, Tryd.prog.fieldsOf 31 = fs ∧ Tryd.prog.underlying 31 = some (.struct fs) := ⟨_, rfl, ht⟩
  obtain ⟨fs, h1, h2⟩ := hf
  rw [Tryd.underlying31] at h2
  simp only [Option.some.injEq, TypeDesc.struct.injEq] at h2
  subst h2
  rw [run_equalIn_agg w 9999 31 _ _ ht hs, h1]
  have e : decide (x = y) = (decide (x.a = y.a) && decide (x.b = y.b ∧ x.c = y.c ∧ x.d = y.d)) := by
    rw [Bool.eq_iff_iff]
    simp only [Bool.and_eq_true, decide_eq_true_eq]
    exact ⟨fun h => by rw [h]; exact ⟨rfl, rfl, rfl, rfl⟩, fun h => V4.eq h.1 h.2.1 h.2.2.1 h.2.2.2⟩
  rw [e]
  by_cases e0 : x.a = y.a <;> cases e1 : decide (x.b = y.b ∧ x.c = y.c ∧ x.d = y.d) <;>
    simp [Op.eqFields, part0K, part1K, run_equalIn_int _ _ _ _ _ _ _ Tryd.underlying3, eqPl9, e0, e1]

/-! ### the document's example -/
def Q1 : Grs := [(⟨2, 1, 0, 3⟩, ⟨⟨5, 0, 0, 0⟩, z4, z4⟩)]
def Q2 : Grs := [(⟨2, 1, 0, 3⟩, ⟨⟨2, 0, 0, 0⟩, ⟨3, 0, 0, 0⟩, z4⟩)]
def Q3 : Grs := [(⟨2, 1, 0, 3⟩, ⟨z4, ⟨3, 0, 0, 0⟩, ⟨2, 0, 0, 0⟩⟩)]
def Q4 : Grs := [(⟨7, 1, 0, 3⟩, ⟨⟨1, 0, 0, 0⟩, z4, z4⟩), (⟨2, 1, 0, 3⟩, ⟨z4, ⟨3, 0, 0, 0⟩, ⟨1, 0, 0, 0⟩⟩)]
theorem okA : okV ⟨2, 1, 0, 3⟩ := ⟨⟨by decide, by decide⟩, ⟨by decide, by decide⟩, ⟨by decide, by decide⟩, ⟨by decide, by decide⟩⟩
theorem two_sorted {L : List V4} (hp : L.Perm (Q4.map (·.1))) (hu : Up4 L) : L = [⟨2, 1, 0, 3⟩, ⟨7, 1, 0, 3⟩] := by
  have hl := hp.length_eq
  match L, hl with
  | [x, y], _ =>
    have hx : x ∈ Q4.map (·.1) := hp.mem_iff.1 (by simp)
    have hy : y ∈ Q4.map (·.1) := hp.mem_iff.1 (by simp)
    have h7 := hp.mem_iff (a := ⟨7, 1, 0, 3⟩) |>.2 (by simp [Q4])
    have h2 := hp.mem_iff (a := ⟨2, 1, 0, 3⟩) |>.2 (by simp [Q4])
    have hxy := (List.pairwise_cons.1 hu).1 y (by simp)
    simp only [Q4, List.map_cons, List.map_nil, List.mem_cons, List.not_mem_nil, or_false] at hx hy h7 h2
    rcases hx with rfl | rfl <;> rcases hy with rfl | rfl
    · simp at h2
    · exact absurd (.inl (by decide)) hxy
    · rfl
    · simp at h7
/-- The example's book, and its key in a block of its own. -/
structure AwS (w0 : World) (q b X : Nat) (T : Grs) (W : World) : Prop where
  ga : GaAt w0 W q b T
  key : KyB W X ⟨2, 1, 0, 3⟩
  nX : X ≠ b
theorem AwS.on {w0 : World} {q b X : Nat} {T : Grs} {W W' : World} (h : AwS w0 q b X T W) (hb : Below W.heap.size W W') : AwS w0 q b X T W' := ⟨h.ga.on hb, h.key.on hb, h.nX⟩
theorem AwS.chg {w0 : World} {q b X : Nat} {T T' : Grs} {W W' : World} (h : AwS w0 q b X T W) (t : BookAt W' q b T') (hg : Chg b b W W') : AwS w0 q b X T' W' := ⟨h.ga.chg t hg, h.key.chg hg h.nX h.nX, h.nX⟩
/-- .. and the row of its keys. -/
structure AwL (w0 : World) (q b X g cap : Nat) (T : Grs) (W : World) : Prop where
  aw : AwS w0 q b X T W
  row : ∃ B, VOwn 31 W B (.slice (some ⟨g, 0, none⟩) 2 cap) [⟨2, 1, 0, 3⟩, ⟨7, 1, 0, 3⟩] ∧ g ≠ b
theorem AwL.on {w0 : World} {q b X g cap : Nat} {T : Grs} {W W' : World} (h : AwL w0 q b X g cap T W) (hb : Below W.heap.size W W') : AwL w0 q b X g cap T W' := by
  obtain ⟨B, h1, h2⟩ := h.row
  exact ⟨h.aw.on hb, B, h1.on hb, h2⟩
theorem AwL.drew {w0 : World} {q b X g cap : Nat} {T : Grs} {W : World} (h : AwL w0 q b X g cap T W) : AwL w0 q b X g cap T W.drew := h.on (Below.drew (Below.refl _ _))
theorem AwL.chg {w0 : World} {q b X g cap : Nat} {T T' : Grs} {W W' : World} (h : AwL w0 q b X g cap T W) (t : BookAt W' q b T') (hg : Chg b b W W') : AwL w0 q b X g cap T' W' := by
  obtain ⟨B, h1, h2⟩ := h.row
  refine ⟨h.aw.chg t hg, B, h1.same fun k hk => hg.block k (h1.lt k hk).2 ?_ ?_, h2⟩ <;> (cases hk; exact h2)
theorem AwL.cells {w0 : World} {q b X g cap : Nat} {T : Grs} {W : World} (h : AwL w0 q b X g cap T W) : (W.cell? ⟨X, 0, none⟩ = some (.int .i64 2) ∧ W.cell? ⟨X, 1, none⟩ = some (.int .i64 1) ∧ W.cell? ⟨X, 2, none⟩ = some (.int .i64 0) ∧ W.cell? ⟨X, 3, none⟩ = some (.int .i64 3)) ∧
    W.cell? ⟨g, 0, none⟩ = some (.int .i64 2) ∧ W.cell? ⟨g, 1, none⟩ = some (.int .i64 1) ∧ W.cell? ⟨g, 2, none⟩ = some (.int .i64 0) ∧ W.cell? ⟨g, 3, none⟩ = some (.int .i64 3) := by
  obtain ⟨B, h1, _⟩ := h.row
  obtain ⟨ad, e, _, hc⟩ := h1.vrow (by simp)
  cases e
  exact ⟨h.aw.key.cells, hc 0 ⟨2, 1, 0, 3⟩ rfl⟩

set_option maxHeartbeats 6400000 in
set_option maxRecDepth 100000 in
/-- What the law asks of the document's example. -/
theorem awake_c (s : Nat → Addr) (w : World) (hs : Sent s w) : Calls Tryd.prog 5 #[] w fun e w' => e = .returned (.bool true) ∧ Below w.heap.size w w' := by
  have HS := Lib.hid hs; clear hs
  go_enter Tryd.func5, Tryd.ntmps5
  go_wp2_with fail
  refine (gnew_c _).mono ?_
  rintro e w1 ⟨q, b, rfl, t1, b1, lb, lq⟩
  have K0 : Hid (GaAt w w1 q b []) := Lib.hid ⟨t1, b1, lq, lb⟩
  clear t1 b1 lb lq
  go_wp2_with fail
  obtain ⟨X, hX⟩ : ∃ X, w1.heap.size = X := ⟨_, rfl⟩
  have K1 : Hid (AwS w q b X [] (w1.alloc (.cells #[.int .i64 2, .int .i64 1, .int .i64 0, .int .i64 3] 31))) := Lib.hid ⟨K0.out.alloc _, by rw [← hX]; exact KyB.new w1 ⟨2, 1, 0, 3⟩, by have := K0.out.book.map.lt; omega⟩
  rw [hX]
  clear hX K0
  refine (give_c s q b [] ⟨2, 1, 0, 3⟩ ⟨5, 0, 0, 0⟩ _ (K1.out.ga.sent HS.out) K1.out.ga.book okA (by decide)).mono ?_
  rw [show giveErr [] ⟨2, 1, 0, 3⟩ ⟨5, 0, 0, 0⟩ = 0 from by decide, show given [] ⟨2, 1, 0, 3⟩ ⟨5, 0, 0, 0⟩ = Q1 from by decide, errV_zero]
  rintro e w2 ⟨rfl, t2, g2⟩
  have K2 : Hid (AwS w q b X Q1 w2) := Lib.hid (K1.out.chg t2 g2)
  clear K1 t2 g2
  obtain ⟨c0, c1, c2, c3⟩ := K2.out.key.cells
  go_wp2_with fail
  clear c0 c1 c2 c3
  refine (charge_c s q b Q1 ⟨2, 1, 0, 3⟩ ⟨3, 0, 0, 0⟩ _ (K2.out.ga.sent HS.out) (K2.out.ga.nots HS.out) K2.out.ga.book okA (by decide)).mono ?_
  rw [show takeErr Q1 ⟨2, 1, 0, 3⟩ ⟨3, 0, 0, 0⟩ = 0 from by decide, show charged Q1 ⟨2, 1, 0, 3⟩ ⟨3, 0, 0, 0⟩ = Q2 from by decide, errV_zero]
  rintro e w3 ⟨rfl, t3, g3⟩
  have K3 : Hid (AwS w q b X Q2 w3) := Lib.hid (K2.out.chg t3 g3)
  clear K2 t3 g3
  obtain ⟨c0, c1, c2, c3⟩ := K3.out.key.cells
  go_wp2_with fail
  clear c0 c1 c2 c3
  refine (hold_c s q b Q2 ⟨2, 1, 0, 3⟩ ⟨2, 0, 0, 0⟩ _ (K3.out.ga.sent HS.out) (K3.out.ga.nots HS.out) K3.out.ga.book okA (by decide)).mono ?_
  rw [show takeErr Q2 ⟨2, 1, 0, 3⟩ ⟨2, 0, 0, 0⟩ = 0 from by decide, show holds Q2 ⟨2, 1, 0, 3⟩ ⟨2, 0, 0, 0⟩ = Q3 from by decide, errV_zero]
  rintro e w4 ⟨rfl, t4, g4⟩
  have K4 : Hid (AwS w q b X Q3 w4) := Lib.hid (K3.out.chg t4 g4)
  clear K3 t4 g4
  obtain ⟨c0, c1, c2, c3⟩ := K4.out.key.cells
  go_wp2_with fail
  clear c0 c1 c2 c3
  refine (pass_c s q b Q3 ⟨2, 1, 0, 3⟩ 7 ⟨1, 0, 0, 0⟩ _ (K4.out.ga.sent HS.out) (K4.out.ga.nots HS.out) K4.out.ga.book okA ⟨by decide, by decide⟩ (by decide)).mono ?_
  rw [show backErr (acc Q3 ⟨2, 1, 0, 3⟩).h ⟨1, 0, 0, 0⟩ = 0 from by decide, show passed Q3 ⟨2, 1, 0, 3⟩ 7 ⟨1, 0, 0, 0⟩ = Q4 from by decide, errV_zero]
  rintro e w5 ⟨rfl, t5, g5⟩
  have K5 : Hid (AwS w q b X Q4 w5) := Lib.hid (K4.out.chg t5 g5)
  clear K4 t5 g5
  obtain ⟨c0, c1, c2, c3⟩ := K5.out.key.cells
  go_wp2_with fail
  clear c0 c1 c2 c3
  refine (keys_c q b Q4 _ K5.out.ga.book (by decide)).mono ?_
  rintro e w6 ⟨v, L, rfl, hp, hup, _, hown, hb6⟩
  have hL : L = [⟨2, 1, 0, 3⟩, ⟨7, 1, 0, 3⟩] := two_sorted hp hup
  subst hL
  obtain ⟨g, cap, rfl⟩ := own_some hown
  have K6 : Hid (AwL w q b X g cap Q4 w6) := Lib.hid ⟨K5.out.on hb6, w5.heap.size, hown, by have := hown.lt g rfl; have := K5.out.ga.book.map.lt; omega⟩
  clear K5 hp hup hown hb6
  simp only [List.length_cons, List.length_nil, Nat.zero_add, Nat.reduceAdd]
  go_wp2_with fail
  have HOF : Hid (∀ W, AwL w q b X g cap Q4 W → Calls Tryd.prog 8 #[.pointer (some ⟨q, 0, none⟩), .agg #[.int .i64 2, .int .i64 1, .int .i64 0, .int .i64 3]] W fun e w' => e = .returned (.agg #[.int .i64 0, .int .i64 0, .int .i64 0, .int .i64 0, .int .i64 3, .int .i64 0, .int .i64 0, .int .i64 0, .int .i64 1, .int .i64 0, .int .i64 0, .int .i64 0]) ∧ AwL w q b X g cap Q4 w') := Lib.hid fun W h => (of_c q b Q4 ⟨2, 1, 0, 3⟩ W h.aw.ga.book okA).mono fun _ _ k => ⟨k.1, h.on k.2⟩
  have HIS : Hid (∀ W, AwL w q b X g cap Q4 W → Calls Tryd.prog 11 #[.pointer (some ⟨q, 0, none⟩), .agg #[.int .i64 1, .int .i64 0, .int .i64 3]] W fun e w' => e = .returned (.agg #[.int .i64 5, .int .i64 0, .int .i64 0, .int .i64 0]) ∧ AwL w q b X g cap Q4 w') := Lib.hid fun W h => (bissued_c s q b Q4 ⟨2, 1, 0, 3⟩ W (h.aw.ga.sent HS.out) h.aw.ga.book (by decide)).mono fun _ _ k => ⟨by have := k.1; rw [show issV Q4 ⟨2, 1, 0, 3⟩ = ⟨5, 0, 0, 0⟩ from by decide] at this; exact this, h.on k.2⟩
  have HTA : Hid (∀ W, AwL w q b X g cap Q4 W → Calls Tryd.prog 20 #[.pointer (some ⟨q, 0, none⟩), .agg #[.int .i64 2, .int .i64 1, .int .i64 0, .int .i64 3], .agg #[.int .i64 1, .int .i64 0, .int .i64 0, .int .i64 0]] W fun e w' => e = .returned (errV s 8) ∧ AwL w q b X g cap Q4 w') := Lib.hid fun W h => (take_c s q b Q4 ⟨2, 1, 0, 3⟩ ⟨1, 0, 0, 0⟩ W (h.aw.ga.sent HS.out) (h.aw.ga.nots HS.out) h.aw.ga.book okA (by decide)).mono fun _ _ k => ⟨k.1, h.chg k.2.1 k.2.2⟩
  have HUN : Hid (∀ W, AwL w q b X g cap Q4 W → Calls Tryd.prog 17 #[.pointer (some ⟨q, 0, none⟩), .agg #[.int .i64 2, .int .i64 1, .int .i64 0, .int .i64 3], .agg #[.int .i64 4, .int .i64 0, .int .i64 0, .int .i64 0]] W fun e w' => e = .returned (errV s 13) ∧ AwL w q b X g cap Q4 w') := Lib.hid fun W h => (uncharge_c s q b Q4 ⟨2, 1, 0, 3⟩ ⟨4, 0, 0, 0⟩ W (h.aw.ga.sent HS.out) (h.aw.ga.nots HS.out) h.aw.ga.book okA (by decide)).mono fun _ _ k => ⟨k.1, h.chg k.2.1 k.2.2⟩
  have HK8 : Hid (∀ W, AwL w q b X g cap Q4 W → Calls Tryd.prog 15 #[errV s 8] W fun e w' => e = .returned (.int .i64 8) ∧ AwL w q b X g cap Q4 w') := Lib.hid fun W h => (kind_errV s 8 W (h.aw.ga.sent HS.out) (by omega)).mono fun _ _ k => ⟨k.1, h.on k.2⟩
  have HK13 : Hid (∀ W, AwL w q b X g cap Q4 W → Calls Tryd.prog 15 #[errV s 13] W fun e w' => e = .returned (.int .i64 13) ∧ AwL w q b X g cap Q4 w') := Lib.hid fun W h => (kind_errV s 13 W (h.aw.ga.sent HS.out) (by omega)).mono fun _ _ k => ⟨k.1, h.on k.2⟩
  have hE1 := fun W => (eqAc ⟨⟨0, 0, 0, 0⟩, ⟨3, 0, 0, 0⟩, ⟨1, 0, 0, 0⟩⟩ ⟨⟨0, 0, 0, 0⟩, ⟨3, 0, 0, 0⟩, ⟨1, 0, 0, 0⟩⟩ W).trans (by rw [decide_eq_true rfl])
  have hE2 := fun W => (eqVd ⟨5, 0, 0, 0⟩ ⟨5, 0, 0, 0⟩ W).trans (by rw [decide_eq_true rfl])
  have hE3 := fun W => (eqKy ⟨2, 1, 0, 3⟩ ⟨2, 1, 0, 3⟩ W).trans (by rw [decide_eq_true rfl])
  unfold encA at hE1
  simp only at hE1 hE2 hE3
  refine wp_region_held_drew (S := fun W => AwL w q b X g cap Q4 W) (by kernel_rfl) ?_ (fun hHeld => ?_)
  · exact K6.out.drew
  refine rg_take 0 (some 31) _ (by kernel_rfl) (by kernel_rfl) (by kernel_rfl) (fun _ _ _ h => h) (by kernel_rfl) (by kernel_rfl) (by intro w' hSw op_ ho; obtain ⟨⟨k0, k1, k2, k3⟩, l0, l1, l2, l3⟩ := hSw.cells; clear hSw; simp only [List.getElem?_toArray, List.getElem?_cons_zero, Option.some.injEq] at ho; subst ho; go_simp; with_reducible rfl) (by assumption) ?_
  try simp only [Act.put, List.setIfInBounds_toArray, List.set_cons_zero, List.set_cons_succ]
  refine rg_take 1 (some 32) _ (by kernel_rfl) (by kernel_rfl) (by kernel_rfl) (fun _ _ _ h => h) (by kernel_rfl) (by kernel_rfl) (by intro w' hSw op_ ho; obtain ⟨⟨k0, k1, k2, k3⟩, l0, l1, l2, l3⟩ := hSw.cells; clear hSw; simp only [List.getElem?_toArray, List.getElem?_cons_succ, List.getElem?_cons_zero, Option.some.injEq] at ho; subst ho; go_simp; with_reducible rfl) (by assumption) ?_
  try simp only [Act.put, List.setIfInBounds_toArray, List.set_cons_zero, List.set_cons_succ]
  refine rg_take 2 (some 33) _ (by kernel_rfl) (by kernel_rfl) (by kernel_rfl) (fun _ _ _ h => h) (by kernel_rfl) (by kernel_rfl) (by intro w' hSw op_ ho; obtain ⟨⟨k0, k1, k2, k3⟩, l0, l1, l2, l3⟩ := hSw.cells; clear hSw; simp only [List.getElem?_toArray, List.getElem?_cons_succ, List.getElem?_cons_zero, Option.some.injEq] at ho; subst ho; go_simp; with_reducible rfl) (by assumption) ?_
  try simp only [Act.put, List.setIfInBounds_toArray, List.set_cons_zero, List.set_cons_succ]
  refine rg_take 3 (some 34) _ (by kernel_rfl) (by kernel_rfl) (by kernel_rfl) (fun _ _ _ h => h) (by kernel_rfl) (by kernel_rfl) (by intro w' hSw op_ ho; obtain ⟨⟨k0, k1, k2, k3⟩, l0, l1, l2, l3⟩ := hSw.cells; clear hSw; simp only [List.getElem?_toArray, List.getElem?_cons_succ, List.getElem?_cons_zero, Option.some.injEq] at ho; subst ho; go_simp; with_reducible rfl) (by assumption) ?_
  try simp only [Act.put, List.setIfInBounds_toArray, List.set_cons_zero, List.set_cons_succ]
  refine rg_take 4 (some 35) _ (by kernel_rfl) (by kernel_rfl) (by kernel_rfl) (fun _ _ _ h => h) (by kernel_rfl) (by kernel_rfl) (by intro w' hSw op_ ho; obtain ⟨⟨k0, k1, k2, k3⟩, l0, l1, l2, l3⟩ := hSw.cells; clear hSw; simp only [List.getElem?_toArray, List.getElem?_cons_succ, List.getElem?_cons_zero, Option.some.injEq] at ho; subst ho; go_simp; with_reducible rfl) (by assumption) ?_
  try simp only [Act.put, List.setIfInBounds_toArray, List.set_cons_zero, List.set_cons_succ]
  refine rg_take 5 (some 36) _ (by kernel_rfl) (by kernel_rfl) (by kernel_rfl) (fun _ _ _ h => h) (by kernel_rfl) (by kernel_rfl) (by intro w' hSw op_ ho; obtain ⟨⟨k0, k1, k2, k3⟩, l0, l1, l2, l3⟩ := hSw.cells; clear hSw; simp only [List.getElem?_toArray, List.getElem?_cons_succ, List.getElem?_cons_zero, Option.some.injEq] at ho; subst ho; go_simp; with_reducible rfl) (by assumption) ?_
  try simp only [Act.put, List.setIfInBounds_toArray, List.set_cons_zero, List.set_cons_succ]
  refine rg_take 6 (some 37) _ (by kernel_rfl) (by kernel_rfl) (by kernel_rfl) (fun _ _ _ h => h) (by kernel_rfl) (by kernel_rfl) (by intro w' hSw op_ ho; obtain ⟨⟨k0, k1, k2, k3⟩, l0, l1, l2, l3⟩ := hSw.cells; clear hSw; simp only [List.getElem?_toArray, List.getElem?_cons_succ, List.getElem?_cons_zero, Option.some.injEq] at ho; subst ho; go_simp; with_reducible rfl) (by assumption) ?_
  try simp only [Act.put, List.setIfInBounds_toArray, List.set_cons_zero, List.set_cons_succ]
  refine rg_take 7 (some 38) _ (by kernel_rfl) (by kernel_rfl) (by kernel_rfl) (fun _ _ _ h => h) (by kernel_rfl) (by kernel_rfl) (by intro w' hSw op_ ho; obtain ⟨⟨k0, k1, k2, k3⟩, l0, l1, l2, l3⟩ := hSw.cells; clear hSw; simp only [List.getElem?_toArray, List.getElem?_cons_succ, List.getElem?_cons_zero, Option.some.injEq] at ho; subst ho; go_simp; with_reducible rfl) (by assumption) ?_
  try simp only [Act.put, List.setIfInBounds_toArray, List.set_cons_zero, List.set_cons_succ]
  refine rg_take 8 (some 39) _ (by kernel_rfl) (by kernel_rfl) (by kernel_rfl) (fun _ _ _ h => h) (by kernel_rfl) (by kernel_rfl) (by intro w' hSw op_ ho; obtain ⟨⟨k0, k1, k2, k3⟩, l0, l1, l2, l3⟩ := hSw.cells; clear hSw; simp only [List.getElem?_toArray, List.getElem?_cons_succ, List.getElem?_cons_zero, Option.some.injEq] at ho; subst ho; go_simp; with_reducible rfl) (by assumption) ?_
  try simp only [Act.put, List.setIfInBounds_toArray, List.set_cons_zero, List.set_cons_succ]
  refine rg_take 9 (some 40) _ (by kernel_rfl) (by kernel_rfl) (by kernel_rfl) (fun _ _ _ h => h) (by kernel_rfl) (by kernel_rfl) (by intro w' hSw op_ ho; obtain ⟨⟨k0, k1, k2, k3⟩, l0, l1, l2, l3⟩ := hSw.cells; clear hSw; simp only [List.getElem?_toArray, List.getElem?_cons_succ, List.getElem?_cons_zero, Option.some.injEq] at ho; subst ho; go_simp; with_reducible rfl) (by assumption) ?_
  try simp only [Act.put, List.setIfInBounds_toArray, List.set_cons_zero, List.set_cons_succ]
  refine rg_take 10 (some 41) _ (by kernel_rfl) (by kernel_rfl) (by kernel_rfl) (fun _ _ _ h => h) (by kernel_rfl) (by kernel_rfl) (by intro w' hSw op_ ho; obtain ⟨⟨k0, k1, k2, k3⟩, l0, l1, l2, l3⟩ := hSw.cells; clear hSw; simp only [List.getElem?_toArray, List.getElem?_cons_succ, List.getElem?_cons_zero, Option.some.injEq] at ho; subst ho; go_simp; with_reducible rfl) (by assumption) ?_
  try simp only [Act.put, List.setIfInBounds_toArray, List.set_cons_zero, List.set_cons_succ]
  refine rg_take 11 (some 42) _ (by kernel_rfl) (by kernel_rfl) (by kernel_rfl) (fun _ _ _ h => h) (by kernel_rfl) (by kernel_rfl) (by intro w' hSw op_ ho; obtain ⟨⟨k0, k1, k2, k3⟩, l0, l1, l2, l3⟩ := hSw.cells; clear hSw; simp only [List.getElem?_toArray, List.getElem?_cons_succ, List.getElem?_cons_zero, Option.some.injEq] at ho; subst ho; go_simp; with_reducible rfl) (by assumption) ?_
  try simp only [Act.put, List.setIfInBounds_toArray, List.set_cons_zero, List.set_cons_succ]
  refine rg_take 12 (some 43) _ (by kernel_rfl) (by kernel_rfl) (by kernel_rfl) (fun _ _ _ h => h) (by kernel_rfl) (by kernel_rfl) (by intro w' hSw op_ ho; obtain ⟨⟨k0, k1, k2, k3⟩, l0, l1, l2, l3⟩ := hSw.cells; clear hSw; simp only [List.getElem?_toArray, List.getElem?_cons_succ, List.getElem?_cons_zero, Option.some.injEq] at ho; subst ho; go_simp; with_reducible rfl) (by assumption) ?_
  try simp only [Act.put, List.setIfInBounds_toArray, List.set_cons_zero, List.set_cons_succ]
  refine rg_take 13 (some 44) _ (by kernel_rfl) (by kernel_rfl) (by kernel_rfl) (fun _ _ _ h => h) (by kernel_rfl) (by kernel_rfl) (by intro w' hSw op_ ho; obtain ⟨⟨k0, k1, k2, k3⟩, l0, l1, l2, l3⟩ := hSw.cells; clear hSw; simp only [List.getElem?_toArray, List.getElem?_cons_succ, List.getElem?_cons_zero, Option.some.injEq] at ho; subst ho; go_simp; with_reducible rfl) (by assumption) ?_
  try simp only [Act.put, List.setIfInBounds_toArray, List.set_cons_zero, List.set_cons_succ]
  refine rg_take 14 (some 45) _ (by kernel_rfl) (by kernel_rfl) (by kernel_rfl) (fun _ _ _ h => h) (by kernel_rfl) (by kernel_rfl) (by intro w' hSw op_ ho; obtain ⟨⟨k0, k1, k2, k3⟩, l0, l1, l2, l3⟩ := hSw.cells; clear hSw; simp only [List.getElem?_toArray, List.getElem?_cons_succ, List.getElem?_cons_zero, Option.some.injEq] at ho; subst ho; go_simp; with_reducible rfl) (by assumption) ?_
  try simp only [Act.put, List.setIfInBounds_toArray, List.set_cons_zero, List.set_cons_succ]
  refine rg_take 15 (some 46) _ (by kernel_rfl) (by kernel_rfl) (by kernel_rfl) (fun _ _ _ h => h) (by kernel_rfl) (by kernel_rfl) (by intro w' hSw op_ ho; obtain ⟨⟨k0, k1, k2, k3⟩, l0, l1, l2, l3⟩ := hSw.cells; clear hSw; simp only [List.getElem?_toArray, List.getElem?_cons_succ, List.getElem?_cons_zero, Option.some.injEq] at ho; subst ho; go_simp; with_reducible rfl) (by assumption) ?_
  try simp only [Act.put, List.setIfInBounds_toArray, List.set_cons_zero, List.set_cons_succ]
  refine rg_take 16 (some 47) _ (by kernel_rfl) (by kernel_rfl) (by kernel_rfl) (fun _ _ _ h => h) (by kernel_rfl) (by kernel_rfl) (by intro w' hSw op_ ho; obtain ⟨⟨k0, k1, k2, k3⟩, l0, l1, l2, l3⟩ := hSw.cells; clear hSw; simp only [List.getElem?_toArray, List.getElem?_cons_succ, List.getElem?_cons_zero, Option.some.injEq] at ho; subst ho; go_simp; with_reducible rfl) (by assumption) ?_
  try simp only [Act.put, List.setIfInBounds_toArray, List.set_cons_zero, List.set_cons_succ]
  refine rg_take 18 (some 49) _ (by kernel_rfl) (by kernel_rfl) (by kernel_rfl) (fun _ _ _ h => h) (by kernel_rfl) (by kernel_rfl) (by intro w' hSw op_ ho; obtain ⟨⟨k0, k1, k2, k3⟩, l0, l1, l2, l3⟩ := hSw.cells; clear hSw; simp only [List.getElem?_toArray, List.getElem?_cons_succ, List.getElem?_cons_zero, Option.some.injEq] at ho; subst ho; go_simp; with_reducible rfl) (by assumption) ?_
  try simp only [Act.put, List.setIfInBounds_toArray, List.set_cons_zero, List.set_cons_succ]
  refine rg_take 19 (some 50) _ (by kernel_rfl) (by kernel_rfl) (by kernel_rfl) (fun _ _ _ h => h) (by kernel_rfl) (by kernel_rfl) (by intro w' hSw op_ ho; obtain ⟨⟨k0, k1, k2, k3⟩, l0, l1, l2, l3⟩ := hSw.cells; clear hSw; simp only [List.getElem?_toArray, List.getElem?_cons_succ, List.getElem?_cons_zero, Option.some.injEq] at ho; subst ho; go_simp; with_reducible rfl) (by assumption) ?_
  try simp only [Act.put, List.setIfInBounds_toArray, List.set_cons_zero, List.set_cons_succ]
  refine rg_take 20 (some 51) _ (by kernel_rfl) (by kernel_rfl) (by kernel_rfl) (fun _ _ _ h => h) (by kernel_rfl) (by kernel_rfl) (by intro w' hSw op_ ho; obtain ⟨⟨k0, k1, k2, k3⟩, l0, l1, l2, l3⟩ := hSw.cells; clear hSw; simp only [List.getElem?_toArray, List.getElem?_cons_succ, List.getElem?_cons_zero, Option.some.injEq] at ho; subst ho; go_simp; with_reducible rfl) (by assumption) ?_
  try simp only [Act.put, List.setIfInBounds_toArray, List.set_cons_zero, List.set_cons_succ]
  refine rg_one 17 (by kernel_rfl) (by kernel_rfl) (fun op_ ho K hK => ?_)
  simp only [List.getElem?_toArray, List.getElem?_cons_succ, List.getElem?_cons_zero, Option.some.injEq] at ho
  subst ho
  go_simp
  go_at_call 8
  refine (HOF.out _ (by assumption)).mono ?_
  rintro e y17 ⟨rfl, r17⟩
  go_wp2_with fail
  refine hK.out _ _ (by assumption) (fun hHeld => ?_)
  clear hK
  try simp only [Act.put, List.setIfInBounds_toArray, List.set_cons_zero, List.set_cons_succ]
  refine rg_take 21 (some 52) _ (by kernel_rfl) (by kernel_rfl) (by kernel_rfl) (fun _ _ _ h => h) (by kernel_rfl) (by kernel_rfl) (by intro w' hSw op_ ho; obtain ⟨⟨k0, k1, k2, k3⟩, l0, l1, l2, l3⟩ := hSw.cells; clear hSw; simp only [List.getElem?_toArray, List.getElem?_cons_succ, List.getElem?_cons_zero, Option.some.injEq] at ho; subst ho; go_simp; with_reducible rfl) (by assumption) ?_
  try simp only [Act.put, List.setIfInBounds_toArray, List.set_cons_zero, List.set_cons_succ]
  refine rg_take 22 (some 53) _ (by kernel_rfl) (by kernel_rfl) (by kernel_rfl) (fun _ _ _ h => h) (by kernel_rfl) (by kernel_rfl) (by intro w' hSw op_ ho; obtain ⟨⟨k0, k1, k2, k3⟩, l0, l1, l2, l3⟩ := hSw.cells; clear hSw; simp only [List.getElem?_toArray, List.getElem?_cons_succ, List.getElem?_cons_zero, Option.some.injEq] at ho; subst ho; go_simp; with_reducible rfl) (by assumption) ?_
  try simp only [Act.put, List.setIfInBounds_toArray, List.set_cons_zero, List.set_cons_succ]
  refine rg_take 23 (some 54) _ (by kernel_rfl) (by kernel_rfl) (by kernel_rfl) (fun _ _ _ h => h) (by kernel_rfl) (by kernel_rfl) (by intro w' hSw op_ ho; obtain ⟨⟨k0, k1, k2, k3⟩, l0, l1, l2, l3⟩ := hSw.cells; clear hSw; simp only [List.getElem?_toArray, List.getElem?_cons_succ, List.getElem?_cons_zero, Option.some.injEq] at ho; subst ho; go_simp; with_reducible rfl) (by assumption) ?_
  try simp only [Act.put, List.setIfInBounds_toArray, List.set_cons_zero, List.set_cons_succ]
  refine rg_take 24 (some 55) _ (by kernel_rfl) (by kernel_rfl) (by kernel_rfl) (fun _ _ _ h => h) (by kernel_rfl) (by kernel_rfl) (by intro w' hSw op_ ho; obtain ⟨⟨k0, k1, k2, k3⟩, l0, l1, l2, l3⟩ := hSw.cells; clear hSw; simp only [List.getElem?_toArray, List.getElem?_cons_succ, List.getElem?_cons_zero, Option.some.injEq] at ho; subst ho; go_simp; with_reducible rfl) (by assumption) ?_
  try simp only [Act.put, List.setIfInBounds_toArray, List.set_cons_zero, List.set_cons_succ]
  refine rg_take 25 (some 56) _ (by kernel_rfl) (by kernel_rfl) (by kernel_rfl) (fun _ _ _ h => h) (by kernel_rfl) (by kernel_rfl) (by intro w' hSw op_ ho; obtain ⟨⟨k0, k1, k2, k3⟩, l0, l1, l2, l3⟩ := hSw.cells; clear hSw; simp only [List.getElem?_toArray, List.getElem?_cons_succ, List.getElem?_cons_zero, Option.some.injEq] at ho; subst ho; go_simp; with_reducible rfl) (by assumption) ?_
  try simp only [Act.put, List.setIfInBounds_toArray, List.set_cons_zero, List.set_cons_succ]
  refine rg_take 26 (some 57) _ (by kernel_rfl) (by kernel_rfl) (by kernel_rfl) (fun _ _ _ h => h) (by kernel_rfl) (by kernel_rfl) (by intro w' hSw op_ ho; obtain ⟨⟨k0, k1, k2, k3⟩, l0, l1, l2, l3⟩ := hSw.cells; clear hSw; simp only [List.getElem?_toArray, List.getElem?_cons_succ, List.getElem?_cons_zero, Option.some.injEq] at ho; subst ho; go_simp; with_reducible rfl) (by assumption) ?_
  try simp only [Act.put, List.setIfInBounds_toArray, List.set_cons_zero, List.set_cons_succ]
  refine rg_take 28 (some 59) _ (by kernel_rfl) (by kernel_rfl) (by kernel_rfl) (fun _ _ _ h => h) (by kernel_rfl) (by kernel_rfl) (by intro w' hSw op_ ho; obtain ⟨⟨k0, k1, k2, k3⟩, l0, l1, l2, l3⟩ := hSw.cells; clear hSw; simp only [List.getElem?_toArray, List.getElem?_cons_succ, List.getElem?_cons_zero, Option.some.injEq] at ho; subst ho; go_simp; with_reducible rfl) (by assumption) ?_
  try simp only [Act.put, List.setIfInBounds_toArray, List.set_cons_zero, List.set_cons_succ]
  refine rg_one 27 (by kernel_rfl) (by kernel_rfl) (fun op_ ho K hK => ?_)
  simp only [List.getElem?_toArray, List.getElem?_cons_succ, List.getElem?_cons_zero, Option.some.injEq] at ho
  subst ho
  go_simp
  go_at_call 11
  refine (HIS.out _ (by assumption)).mono ?_
  rintro e y27 ⟨rfl, r27⟩
  go_wp2_with fail
  refine hK.out _ _ (by assumption) (fun hHeld => ?_)
  clear hK
  try simp only [Act.put, List.setIfInBounds_toArray, List.set_cons_zero, List.set_cons_succ]
  refine rg_take 29 (some 60) _ (by kernel_rfl) (by kernel_rfl) (by kernel_rfl) (fun _ _ _ h => h) (by kernel_rfl) (by kernel_rfl) (by intro w' hSw op_ ho; obtain ⟨⟨k0, k1, k2, k3⟩, l0, l1, l2, l3⟩ := hSw.cells; clear hSw; simp only [List.getElem?_toArray, List.getElem?_cons_succ, List.getElem?_cons_zero, Option.some.injEq] at ho; subst ho; go_simp; with_reducible rfl) (by assumption) ?_
  try simp only [Act.put, List.setIfInBounds_toArray, List.set_cons_zero, List.set_cons_succ]
  refine rg_take 30 (some 61) _ (by kernel_rfl) (by kernel_rfl) (by kernel_rfl) (fun _ _ _ h => h) (by kernel_rfl) (by kernel_rfl) (by intro w' hSw op_ ho; obtain ⟨⟨k0, k1, k2, k3⟩, l0, l1, l2, l3⟩ := hSw.cells; clear hSw; simp only [List.getElem?_toArray, List.getElem?_cons_succ, List.getElem?_cons_zero, Option.some.injEq] at ho; subst ho; go_simp; with_reducible rfl) (by assumption) ?_
  try simp only [Act.put, List.setIfInBounds_toArray, List.set_cons_zero, List.set_cons_succ]
  refine rg_take 31 (some 62) _ (by kernel_rfl) (by kernel_rfl) (by kernel_rfl) (fun _ _ _ h => h) (by kernel_rfl) (by kernel_rfl) (by intro w' hSw op_ ho; obtain ⟨⟨k0, k1, k2, k3⟩, l0, l1, l2, l3⟩ := hSw.cells; clear hSw; simp only [List.getElem?_toArray, List.getElem?_cons_succ, List.getElem?_cons_zero, Option.some.injEq] at ho; subst ho; go_simp; with_reducible rfl) (by assumption) ?_
  try simp only [Act.put, List.setIfInBounds_toArray, List.set_cons_zero, List.set_cons_succ]
  refine rg_take 32 (some 63) _ (by kernel_rfl) (by kernel_rfl) (by kernel_rfl) (fun _ _ _ h => h) (by kernel_rfl) (by kernel_rfl) (by intro w' hSw op_ ho; obtain ⟨⟨k0, k1, k2, k3⟩, l0, l1, l2, l3⟩ := hSw.cells; clear hSw; simp only [List.getElem?_toArray, List.getElem?_cons_succ, List.getElem?_cons_zero, Option.some.injEq] at ho; subst ho; go_simp; with_reducible rfl) (by assumption) ?_
  try simp only [Act.put, List.setIfInBounds_toArray, List.set_cons_zero, List.set_cons_succ]
  refine rg_take 33 (some 64) _ (by kernel_rfl) (by kernel_rfl) (by kernel_rfl) (fun _ _ _ h => h) (by kernel_rfl) (by kernel_rfl) (by intro w' hSw op_ ho; obtain ⟨⟨k0, k1, k2, k3⟩, l0, l1, l2, l3⟩ := hSw.cells; clear hSw; simp only [List.getElem?_toArray, List.getElem?_cons_succ, List.getElem?_cons_zero, Option.some.injEq] at ho; subst ho; go_simp; with_reducible rfl) (by assumption) ?_
  try simp only [Act.put, List.setIfInBounds_toArray, List.set_cons_zero, List.set_cons_succ]
  refine rg_take 34 (some 65) _ (by kernel_rfl) (by kernel_rfl) (by kernel_rfl) (fun _ _ _ h => h) (by kernel_rfl) (by kernel_rfl) (by intro w' hSw op_ ho; obtain ⟨⟨k0, k1, k2, k3⟩, l0, l1, l2, l3⟩ := hSw.cells; clear hSw; simp only [List.getElem?_toArray, List.getElem?_cons_succ, List.getElem?_cons_zero, Option.some.injEq] at ho; subst ho; go_simp; with_reducible rfl) (by assumption) ?_
  try simp only [Act.put, List.setIfInBounds_toArray, List.set_cons_zero, List.set_cons_succ]
  refine rg_take 35 (some 66) _ (by kernel_rfl) (by kernel_rfl) (by kernel_rfl) (fun _ _ _ h => h) (by kernel_rfl) (by kernel_rfl) (by intro w' hSw op_ ho; obtain ⟨⟨k0, k1, k2, k3⟩, l0, l1, l2, l3⟩ := hSw.cells; clear hSw; simp only [List.getElem?_toArray, List.getElem?_cons_succ, List.getElem?_cons_zero, Option.some.injEq] at ho; subst ho; go_simp; with_reducible rfl) (by assumption) ?_
  try simp only [Act.put, List.setIfInBounds_toArray, List.set_cons_zero, List.set_cons_succ]
  refine rg_take 36 (some 67) _ (by kernel_rfl) (by kernel_rfl) (by kernel_rfl) (fun _ _ _ h => h) (by kernel_rfl) (by kernel_rfl) (by intro w' hSw op_ ho; obtain ⟨⟨k0, k1, k2, k3⟩, l0, l1, l2, l3⟩ := hSw.cells; clear hSw; simp only [List.getElem?_toArray, List.getElem?_cons_succ, List.getElem?_cons_zero, Option.some.injEq] at ho; subst ho; go_simp; with_reducible rfl) (by assumption) ?_
  try simp only [Act.put, List.setIfInBounds_toArray, List.set_cons_zero, List.set_cons_succ]
  refine rg_take 37 (some 68) _ (by kernel_rfl) (by kernel_rfl) (by kernel_rfl) (fun _ _ _ h => h) (by kernel_rfl) (by kernel_rfl) (by intro w' hSw op_ ho; obtain ⟨⟨k0, k1, k2, k3⟩, l0, l1, l2, l3⟩ := hSw.cells; clear hSw; simp only [List.getElem?_toArray, List.getElem?_cons_succ, List.getElem?_cons_zero, Option.some.injEq] at ho; subst ho; go_simp; with_reducible rfl) (by assumption) ?_
  try simp only [Act.put, List.setIfInBounds_toArray, List.set_cons_zero, List.set_cons_succ]
  refine rg_take 38 (some 69) _ (by kernel_rfl) (by kernel_rfl) (by kernel_rfl) (fun _ _ _ h => h) (by kernel_rfl) (by kernel_rfl) (by intro w' hSw op_ ho; obtain ⟨⟨k0, k1, k2, k3⟩, l0, l1, l2, l3⟩ := hSw.cells; clear hSw; simp only [List.getElem?_toArray, List.getElem?_cons_succ, List.getElem?_cons_zero, Option.some.injEq] at ho; subst ho; go_simp; with_reducible rfl) (by assumption) ?_
  try simp only [Act.put, List.setIfInBounds_toArray, List.set_cons_zero, List.set_cons_succ]
  refine rg_take 39 (some 70) _ (by kernel_rfl) (by kernel_rfl) (by kernel_rfl) (fun _ _ _ h => h) (by kernel_rfl) (by kernel_rfl) (by intro w' hSw op_ ho; obtain ⟨⟨k0, k1, k2, k3⟩, l0, l1, l2, l3⟩ := hSw.cells; clear hSw; simp only [List.getElem?_toArray, List.getElem?_cons_succ, List.getElem?_cons_zero, Option.some.injEq] at ho; subst ho; go_simp; with_reducible rfl) (by assumption) ?_
  try simp only [Act.put, List.setIfInBounds_toArray, List.set_cons_zero, List.set_cons_succ]
  refine rg_take 40 (some 71) _ (by kernel_rfl) (by kernel_rfl) (by kernel_rfl) (fun _ _ _ h => h) (by kernel_rfl) (by kernel_rfl) (by intro w' hSw op_ ho; obtain ⟨⟨k0, k1, k2, k3⟩, l0, l1, l2, l3⟩ := hSw.cells; clear hSw; simp only [List.getElem?_toArray, List.getElem?_cons_succ, List.getElem?_cons_zero, Option.some.injEq] at ho; subst ho; go_simp; with_reducible rfl) (by assumption) ?_
  try simp only [Act.put, List.setIfInBounds_toArray, List.set_cons_zero, List.set_cons_succ]
  refine rg_take 41 (some 72) _ (by kernel_rfl) (by kernel_rfl) (by kernel_rfl) (fun _ _ _ h => h) (by kernel_rfl) (by kernel_rfl) (by intro w' hSw op_ ho; obtain ⟨⟨k0, k1, k2, k3⟩, l0, l1, l2, l3⟩ := hSw.cells; clear hSw; simp only [List.getElem?_toArray, List.getElem?_cons_succ, List.getElem?_cons_zero, Option.some.injEq] at ho; subst ho; go_simp; with_reducible rfl) (by assumption) ?_
  try simp only [Act.put, List.setIfInBounds_toArray, List.set_cons_zero, List.set_cons_succ]
  refine rg_take 42 (some 73) _ (by kernel_rfl) (by kernel_rfl) (by kernel_rfl) (fun _ _ _ h => h) (by kernel_rfl) (by kernel_rfl) (by intro w' hSw op_ ho; obtain ⟨⟨k0, k1, k2, k3⟩, l0, l1, l2, l3⟩ := hSw.cells; clear hSw; simp only [List.getElem?_toArray, List.getElem?_cons_succ, List.getElem?_cons_zero, Option.some.injEq] at ho; subst ho; go_simp; with_reducible rfl) (by assumption) ?_
  try simp only [Act.put, List.setIfInBounds_toArray, List.set_cons_zero, List.set_cons_succ]
  refine rg_take 43 (some 74) _ (by kernel_rfl) (by kernel_rfl) (by kernel_rfl) (fun _ _ _ h => h) (by kernel_rfl) (by kernel_rfl) (by intro w' hSw op_ ho; obtain ⟨⟨k0, k1, k2, k3⟩, l0, l1, l2, l3⟩ := hSw.cells; clear hSw; simp only [List.getElem?_toArray, List.getElem?_cons_succ, List.getElem?_cons_zero, Option.some.injEq] at ho; subst ho; go_simp; with_reducible rfl) (by assumption) ?_
  try simp only [Act.put, List.setIfInBounds_toArray, List.set_cons_zero, List.set_cons_succ]
  refine rg_take 44 (some 75) _ (by kernel_rfl) (by kernel_rfl) (by kernel_rfl) (fun _ _ _ h => h) (by kernel_rfl) (by kernel_rfl) (by intro w' hSw op_ ho; obtain ⟨⟨k0, k1, k2, k3⟩, l0, l1, l2, l3⟩ := hSw.cells; clear hSw; simp only [List.getElem?_toArray, List.getElem?_cons_succ, List.getElem?_cons_zero, Option.some.injEq] at ho; subst ho; go_simp; with_reducible rfl) (by assumption) ?_
  try simp only [Act.put, List.setIfInBounds_toArray, List.set_cons_zero, List.set_cons_succ]
  refine rg_take 45 (some 76) _ (by kernel_rfl) (by kernel_rfl) (by kernel_rfl) (fun _ _ _ h => h) (by kernel_rfl) (by kernel_rfl) (by intro w' hSw op_ ho; obtain ⟨⟨k0, k1, k2, k3⟩, l0, l1, l2, l3⟩ := hSw.cells; clear hSw; simp only [List.getElem?_toArray, List.getElem?_cons_succ, List.getElem?_cons_zero, Option.some.injEq] at ho; subst ho; go_simp; with_reducible rfl) (by assumption) ?_
  try simp only [Act.put, List.setIfInBounds_toArray, List.set_cons_zero, List.set_cons_succ]
  refine rg_take 46 (some 77) _ (by kernel_rfl) (by kernel_rfl) (by kernel_rfl) (fun _ _ _ h => h) (by kernel_rfl) (by kernel_rfl) (by intro w' hSw op_ ho; obtain ⟨⟨k0, k1, k2, k3⟩, l0, l1, l2, l3⟩ := hSw.cells; clear hSw; simp only [List.getElem?_toArray, List.getElem?_cons_succ, List.getElem?_cons_zero, Option.some.injEq] at ho; subst ho; go_simp; with_reducible rfl) (by assumption) ?_
  try simp only [Act.put, List.setIfInBounds_toArray, List.set_cons_zero, List.set_cons_succ]
  refine rg_one 47 (by kernel_rfl) (by kernel_rfl) (fun op_ ho K hK => ?_)
  simp only [List.getElem?_toArray, List.getElem?_cons_succ, List.getElem?_cons_zero, Option.some.injEq] at ho
  subst ho
  go_simp
  go_at_call 20
  refine (HTA.out _ (by assumption)).mono ?_
  rintro e y47 ⟨rfl, r47⟩
  go_wp2_with fail
  refine hK.out _ _ (by assumption) (fun hHeld => ?_)
  clear hK
  try simp only [Act.put, List.setIfInBounds_toArray, List.set_cons_zero, List.set_cons_succ]
  refine rg_one 48 (by kernel_rfl) (by kernel_rfl) (fun op_ ho K hK => ?_)
  simp only [List.getElem?_toArray, List.getElem?_cons_succ, List.getElem?_cons_zero, Option.some.injEq] at ho
  subst ho
  go_simp
  go_at_call 15
  refine (HK8.out _ (by assumption)).mono ?_
  rintro e y48 ⟨rfl, r48⟩
  go_wp2_with fail
  refine hK.out _ _ (by assumption) (fun hHeld => ?_)
  clear hK
  try simp only [Act.put, List.setIfInBounds_toArray, List.set_cons_zero, List.set_cons_succ]
  refine rg_take 49 (some 80) _ (by kernel_rfl) (by kernel_rfl) (by kernel_rfl) (fun _ _ _ h => h) (by kernel_rfl) (by kernel_rfl) (by intro w' hSw op_ ho; obtain ⟨⟨k0, k1, k2, k3⟩, l0, l1, l2, l3⟩ := hSw.cells; clear hSw; simp only [List.getElem?_toArray, List.getElem?_cons_succ, List.getElem?_cons_zero, Option.some.injEq] at ho; subst ho; go_simp; with_reducible rfl) (by assumption) ?_
  try simp only [Act.put, List.setIfInBounds_toArray, List.set_cons_zero, List.set_cons_succ]
  refine rg_take 50 (some 81) _ (by kernel_rfl) (by kernel_rfl) (by kernel_rfl) (fun _ _ _ h => h) (by kernel_rfl) (by kernel_rfl) (by intro w' hSw op_ ho; obtain ⟨⟨k0, k1, k2, k3⟩, l0, l1, l2, l3⟩ := hSw.cells; clear hSw; simp only [List.getElem?_toArray, List.getElem?_cons_succ, List.getElem?_cons_zero, Option.some.injEq] at ho; subst ho; go_simp; with_reducible rfl) (by assumption) ?_
  try simp only [Act.put, List.setIfInBounds_toArray, List.set_cons_zero, List.set_cons_succ]
  refine rg_take 51 (some 82) _ (by kernel_rfl) (by kernel_rfl) (by kernel_rfl) (fun _ _ _ h => h) (by kernel_rfl) (by kernel_rfl) (by intro w' hSw op_ ho; obtain ⟨⟨k0, k1, k2, k3⟩, l0, l1, l2, l3⟩ := hSw.cells; clear hSw; simp only [List.getElem?_toArray, List.getElem?_cons_succ, List.getElem?_cons_zero, Option.some.injEq] at ho; subst ho; go_simp; with_reducible rfl) (by assumption) ?_
  try simp only [Act.put, List.setIfInBounds_toArray, List.set_cons_zero, List.set_cons_succ]
  refine rg_take 52 (some 83) _ (by kernel_rfl) (by kernel_rfl) (by kernel_rfl) (fun _ _ _ h => h) (by kernel_rfl) (by kernel_rfl) (by intro w' hSw op_ ho; obtain ⟨⟨k0, k1, k2, k3⟩, l0, l1, l2, l3⟩ := hSw.cells; clear hSw; simp only [List.getElem?_toArray, List.getElem?_cons_succ, List.getElem?_cons_zero, Option.some.injEq] at ho; subst ho; go_simp; with_reducible rfl) (by assumption) ?_
  try simp only [Act.put, List.setIfInBounds_toArray, List.set_cons_zero, List.set_cons_succ]
  refine rg_take 53 (some 84) _ (by kernel_rfl) (by kernel_rfl) (by kernel_rfl) (fun _ _ _ h => h) (by kernel_rfl) (by kernel_rfl) (by intro w' hSw op_ ho; obtain ⟨⟨k0, k1, k2, k3⟩, l0, l1, l2, l3⟩ := hSw.cells; clear hSw; simp only [List.getElem?_toArray, List.getElem?_cons_succ, List.getElem?_cons_zero, Option.some.injEq] at ho; subst ho; go_simp; with_reducible rfl) (by assumption) ?_
  try simp only [Act.put, List.setIfInBounds_toArray, List.set_cons_zero, List.set_cons_succ]
  refine rg_take 54 (some 85) _ (by kernel_rfl) (by kernel_rfl) (by kernel_rfl) (fun _ _ _ h => h) (by kernel_rfl) (by kernel_rfl) (by intro w' hSw op_ ho; obtain ⟨⟨k0, k1, k2, k3⟩, l0, l1, l2, l3⟩ := hSw.cells; clear hSw; simp only [List.getElem?_toArray, List.getElem?_cons_succ, List.getElem?_cons_zero, Option.some.injEq] at ho; subst ho; go_simp; with_reducible rfl) (by assumption) ?_
  try simp only [Act.put, List.setIfInBounds_toArray, List.set_cons_zero, List.set_cons_succ]
  refine rg_one 55 (by kernel_rfl) (by kernel_rfl) (fun op_ ho K hK => ?_)
  simp only [List.getElem?_toArray, List.getElem?_cons_succ, List.getElem?_cons_zero, Option.some.injEq] at ho
  subst ho
  go_simp
  go_at_call 17
  refine (HUN.out _ (by assumption)).mono ?_
  rintro e y55 ⟨rfl, r55⟩
  go_wp2_with fail
  refine hK.out _ _ (by assumption) (fun hHeld => ?_)
  clear hK
  try simp only [Act.put, List.setIfInBounds_toArray, List.set_cons_zero, List.set_cons_succ]
  refine rg_one 56 (by kernel_rfl) (by kernel_rfl) (fun op_ ho K hK => ?_)
  simp only [List.getElem?_toArray, List.getElem?_cons_succ, List.getElem?_cons_zero, Option.some.injEq] at ho
  subst ho
  go_simp
  go_at_call 15
  refine (HK13.out _ (by assumption)).mono ?_
  rintro e y56 ⟨rfl, r56⟩
  go_wp2_with fail
  refine hK.out _ _ (by assumption) (fun hHeld => ?_)
  clear hK
  try simp only [Act.put, List.setIfInBounds_toArray, List.set_cons_zero, List.set_cons_succ]
  refine rg_take 57 (some 88) _ (by kernel_rfl) (by kernel_rfl) (by kernel_rfl) (fun _ _ _ h => h) (by kernel_rfl) (by kernel_rfl) (by intro w' hSw op_ ho; obtain ⟨⟨k0, k1, k2, k3⟩, l0, l1, l2, l3⟩ := hSw.cells; clear hSw; simp only [List.getElem?_toArray, List.getElem?_cons_succ, List.getElem?_cons_zero, Option.some.injEq] at ho; subst ho; go_simp; with_reducible rfl) (by assumption) ?_
  try simp only [Act.put, List.setIfInBounds_toArray, List.set_cons_zero, List.set_cons_succ]
  refine rg_take 58 (some 89) _ (by kernel_rfl) (by kernel_rfl) (by kernel_rfl) (fun _ _ _ h => h) (by kernel_rfl) (by kernel_rfl) (by intro w' hSw op_ ho; obtain ⟨⟨k0, k1, k2, k3⟩, l0, l1, l2, l3⟩ := hSw.cells; clear hSw; simp only [List.getElem?_toArray, List.getElem?_cons_succ, List.getElem?_cons_zero, Option.some.injEq] at ho; subst ho; go_simp; with_reducible rfl) (by assumption) ?_
  try simp only [Act.put, List.setIfInBounds_toArray, List.set_cons_zero, List.set_cons_succ]
  refine rg_take 59 (some 0) _ (by kernel_rfl) (by kernel_rfl) (by kernel_rfl) (fun _ _ _ h => h) (by kernel_rfl) (by kernel_rfl) (by intro w' hSw op_ ho; obtain ⟨⟨k0, k1, k2, k3⟩, l0, l1, l2, l3⟩ := hSw.cells; clear hSw; simp only [List.getElem?_toArray, List.getElem?_cons_succ, List.getElem?_cons_zero, Option.some.injEq] at ho; subst ho; go_simp; with_reducible rfl) (by assumption) ?_
  try simp only [Act.put, List.setIfInBounds_toArray, List.set_cons_zero]
  refine wpAnyH_done (by kernel_rfl) ?_ _
  have HE := Lib.hid hHeld
  clear hHeld
  go_wp2_with fail
  go_ret
  exact ⟨rfl, HE.out.aw.ga.below⟩

set_option maxRecDepth 100000 in
/-- A deed. -/
theorem do_c (s : Nat → Addr) (q b : Nat) (T : Grs) (x : GActD) (w : World) (hs : Sent s w) (hsb : NotSent s b) (h : BookAt w q b T) (hx : GoodGAct x) (hn : T.length + 1 < 1000000) :
    Calls Tryd.prog 9 #[.pointer (some ⟨q, 0, none⟩), .agg #[.int .i64 x.kind, .int .i64 x.key.a, .int .i64 x.key.b, .int .i64 x.key.c, .int .i64 x.key.d, .int .i64 x.dst, .int .i64 x.amt.a, .int .i64 x.amt.b, .int .i64 x.amt.c, .int .i64 x.amt.d]] w fun e w' => e = .returned (errV s (deedErr T x.kind x.key x.amt)) ∧ BookAt w' q b (deed T x.kind x.key x.dst x.amt) ∧ Chg b b w w' := by
  obtain ⟨kind, key, dst, amt⟩ := x
  obtain ⟨_, hk, hd, _⟩ := hx
  simp only at hk hd ⊢
  have hb : ∀ W, Below w.heap.size w W → Sent s W ∧ BookAt W q b T := fun W hW => ⟨hs.below hW (Nat.le_refl _), h.grow hW⟩
  have b1 : Below w.heap.size w (w.alloc (.cells #[.int .i64 kind, .int .i64 key.a, .int .i64 key.b, .int .i64 key.c, .int .i64 key.d, .int .i64 dst, .int .i64 amt.a, .int .i64 amt.b, .int .i64 amt.c, .int .i64 amt.d] 33)) := (Below.refl _ w).alloc (Nat.le_refl _) _
  obtain ⟨hs1, ht1⟩ := hb _ b1
  by_cases k1 : kind = 1
  · have hE : deedErr T kind key amt = giveErr T key amt := by unfold deedErr; rw [if_pos k1]
    have hD : deed T kind key dst amt = given T key amt := by unfold deed; rw [if_pos k1]
    have C := Lib.hid (give_c s q b T key amt _ hs1 ht1 hk (by omega))
    rw [hE, hD]
    subst k1
    clear hs hsb h hb hs1 ht1 hE hD hk hd hn
    obtain ⟨z, hz⟩ : ∃ z, errV s (giveErr T key amt) = z := ⟨_, rfl⟩
    rw [hz] at C ⊢; clear hz
    go_enter Tryd.func9, Tryd.ntmps9
    go_wp2_with (go_at_call 13; refine C.out.mono ?_; rintro e w2 ⟨rfl, t2, c2⟩)
    go_ret
    exact ⟨rfl, t2, (Chg.of_below b1).trans c2 (.inl rfl)⟩
  have g1 : (kind == 1) = false := by rw [beq_eq_false_iff_ne]; exact k1
  by_cases k2 : kind = 2
  · have hE : deedErr T kind key amt = takeErr T key amt := by unfold deedErr; rw [if_neg k1, if_pos k2]
    have hD : deed T kind key dst amt = taken T key amt := by unfold deed; rw [if_neg k1, if_pos k2]
    have C := Lib.hid (take_c s q b T key amt _ hs1 hsb ht1 hk (by omega))
    rw [hE, hD]
    subst k2
    clear hs hsb h hb hs1 ht1 hE hD k1 hk hd hn
    obtain ⟨z, hz⟩ : ∃ z, errV s (takeErr T key amt) = z := ⟨_, rfl⟩
    rw [hz] at C ⊢; clear hz
    go_enter Tryd.func9, Tryd.ntmps9
    go_wp2_with (go_at_call 20; refine C.out.mono ?_; rintro e w2 ⟨rfl, t2, c2⟩)
    go_ret
    exact ⟨rfl, t2, (Chg.of_below b1).trans c2 (.inl rfl)⟩
  have g2 : (kind == 2) = false := by rw [beq_eq_false_iff_ne]; exact k2
  by_cases k3 : kind = 3
  · have hE : deedErr T kind key amt = takeErr T key amt := by unfold deedErr; rw [if_neg k1, if_neg k2, if_pos k3]
    have hD : deed T kind key dst amt = charged T key amt := by unfold deed; rw [if_neg k1, if_neg k2, if_pos k3]
    have C := Lib.hid (charge_c s q b T key amt _ hs1 hsb ht1 hk (by omega))
    rw [hE, hD]
    subst k3
    clear hs hsb h hb hs1 ht1 hE hD k1 k2 hk hd hn
    obtain ⟨z, hz⟩ : ∃ z, errV s (takeErr T key amt) = z := ⟨_, rfl⟩
    rw [hz] at C ⊢; clear hz
    go_enter Tryd.func9, Tryd.ntmps9
    go_wp2_with (go_at_call 14; refine C.out.mono ?_; rintro e w2 ⟨rfl, t2, c2⟩)
    go_ret
    exact ⟨rfl, t2, (Chg.of_below b1).trans c2 (.inl rfl)⟩
  have g3 : (kind == 3) = false := by rw [beq_eq_false_iff_ne]; exact k3
  by_cases k4 : kind = 4
  · have hE : deedErr T kind key amt = backErr (acc T key).c amt := by unfold deedErr; rw [if_neg k1, if_neg k2, if_neg k3, if_pos k4]
    have hD : deed T kind key dst amt = uncharged T key amt := by unfold deed; rw [if_neg k1, if_neg k2, if_neg k3, if_pos k4]
    have C := Lib.hid (uncharge_c s q b T key amt _ hs1 hsb ht1 hk (by omega))
    rw [hE, hD]
    subst k4
    clear hs hsb h hb hs1 ht1 hE hD k1 k2 k3 hk hd hn
    obtain ⟨z, hz⟩ : ∃ z, errV s (backErr (acc T key).c amt) = z := ⟨_, rfl⟩
    rw [hz] at C ⊢; clear hz
    go_enter Tryd.func9, Tryd.ntmps9
    go_wp2_with (go_at_call 17; refine C.out.mono ?_; rintro e w2 ⟨rfl, t2, c2⟩)
    go_ret
    exact ⟨rfl, t2, (Chg.of_below b1).trans c2 (.inl rfl)⟩
  have g4 : (kind == 4) = false := by rw [beq_eq_false_iff_ne]; exact k4
  by_cases k5 : kind = 5
  · have hE : deedErr T kind key amt = takeErr T key amt := by unfold deedErr; rw [if_neg k1, if_neg k2, if_neg k3, if_neg k4, if_pos k5]
    have hD : deed T kind key dst amt = holds T key amt := by unfold deed; rw [if_neg k1, if_neg k2, if_neg k3, if_neg k4, if_pos k5]
    have C := Lib.hid (hold_c s q b T key amt _ hs1 hsb ht1 hk (by omega))
    rw [hE, hD]
    subst k5
    clear hs hsb h hb hs1 ht1 hE hD k1 k2 k3 k4 hk hd hn
    obtain ⟨z, hz⟩ : ∃ z, errV s (takeErr T key amt) = z := ⟨_, rfl⟩
    rw [hz] at C ⊢; clear hz
    go_enter Tryd.func9, Tryd.ntmps9
    go_wp2_with (go_at_call 16; refine C.out.mono ?_; rintro e w2 ⟨rfl, t2, c2⟩)
    go_ret
    exact ⟨rfl, t2, (Chg.of_below b1).trans c2 (.inl rfl)⟩
  have g5 : (kind == 5) = false := by rw [beq_eq_false_iff_ne]; exact k5
  by_cases k6 : kind = 6
  · have hE : deedErr T kind key amt = backErr (acc T key).h amt := by unfold deedErr; rw [if_neg k1, if_neg k2, if_neg k3, if_neg k4, if_neg k5, if_pos k6]
    have hD : deed T kind key dst amt = passed T key key.a amt := by unfold deed; rw [if_neg k1, if_neg k2, if_neg k3, if_neg k4, if_neg k5, if_pos k6]
    have C := Lib.hid (unhold_c s q b T key amt _ hs1 hsb ht1 hk (by omega))
    rw [hE, hD]
    subst k6
    clear hs hsb h hb hs1 ht1 hE hD k1 k2 k3 k4 k5 hk hd hn
    obtain ⟨z, hz⟩ : ∃ z, errV s (backErr (acc T key).h amt) = z := ⟨_, rfl⟩
    rw [hz] at C ⊢; clear hz
    go_enter Tryd.func9, Tryd.ntmps9
    go_wp2_with (go_at_call 22; refine C.out.mono ?_; rintro e w2 ⟨rfl, t2, c2⟩)
    go_ret
    exact ⟨rfl, t2, (Chg.of_below b1).trans c2 (.inl rfl)⟩
  have g6 : (kind == 6) = false := by rw [beq_eq_false_iff_ne]; exact k6
  by_cases k7 : kind = 7
  · have hE : deedErr T kind key amt = takeErr T key amt := by unfold deedErr; rw [if_neg k1, if_neg k2, if_neg k3, if_neg k4, if_neg k5, if_neg k6, if_pos k7]
    have hD : deed T kind key dst amt = moved T key dst amt := by unfold deed; rw [if_neg k1, if_neg k2, if_neg k3, if_neg k4, if_neg k5, if_neg k6, if_pos k7]
    have C := Lib.hid (move_c s q b T key dst amt _ hs1 hsb ht1 hk hd (by omega))
    rw [hE, hD]
    subst k7
    clear hs hsb h hb hs1 ht1 hE hD k1 k2 k3 k4 k5 k6 hk hd hn
    obtain ⟨z, hz⟩ : ∃ z, errV s (takeErr T key amt) = z := ⟨_, rfl⟩
    rw [hz] at C ⊢; clear hz
    go_enter Tryd.func9, Tryd.ntmps9
    go_wp2_with (go_at_call 19; refine C.out.mono ?_; rintro e w2 ⟨rfl, t2, c2⟩)
    go_ret
    exact ⟨rfl, t2, (Chg.of_below b1).trans c2 (.inl rfl)⟩
  have g7 : (kind == 7) = false := by rw [beq_eq_false_iff_ne]; exact k7
  have hE : deedErr T kind key amt = backErr (acc T key).h amt := by unfold deedErr; rw [if_neg k1, if_neg k2, if_neg k3, if_neg k4, if_neg k5, if_neg k6, if_neg k7]
  have hD : deed T kind key dst amt = passed T key dst amt := by unfold deed; rw [if_neg k1, if_neg k2, if_neg k3, if_neg k4, if_neg k5, if_neg k6, if_neg k7]
  have C := Lib.hid (pass_c s q b T key dst amt _ hs1 hsb ht1 hk hd (by omega))
  rw [hE, hD]
  clear hs hsb h hb hs1 ht1 hE hD k1 k2 k3 k4 k5 k6 k7 hk hd hn
  obtain ⟨z, hz⟩ : ∃ z, errV s (backErr (acc T key).h amt) = z := ⟨_, rfl⟩
  rw [hz] at C ⊢; clear hz
  go_enter Tryd.func9, Tryd.ntmps9
  go_wp2_with (go_at_call 18; refine C.out.mono ?_; rintro e w2 ⟨rfl, t2, c2⟩)
  go_ret
  exact ⟨rfl, t2, (Chg.of_below b1).trans c2 (.inl rfl)⟩
end Go.Proofs.YtpgioihmaodlcaaDoor
