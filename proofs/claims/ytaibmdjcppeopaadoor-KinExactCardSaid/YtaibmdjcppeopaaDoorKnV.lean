/- A tree and the document's answer side by side, and a deed in a block of its own. Conditions: they lie in memory; the sentinels lie where the program's text lays them. -/
import Derived.Test.YtaibmdjcppeopaaDoorKnU
import Derived.Test.YtaibmdjcppeopaaDoorRowKAct
import Derived.Deep.RegionHeld3
namespace Go.Proofs.YtaibmdjcppeopaaDoor
open Go Go.RowKit Go.Maps Go.Sort

/-- A tree of the tenants T, and the document's answer of the tenants R. -/
structure Duo (w0 w : World) (q b o : Nat) (T R : Kin) : Prop where
  kin : KinAt w0 w q b T
  ref : GrAt w o (refF R)
  low : w0.heap.size ≤ o
theorem Duo.ob {w0 w : World} {q b o : Nat} {T R : Kin} (h : Duo w0 w q b o T R) : o ≠ b := by
  intro e; subst e
  obtain ⟨D, ⟨es, c, hb, _⟩, _⟩ := h.kin.tree.map
  obtain ⟨cs, h2, _⟩ := h.ref
  rw [h2] at hb; cases hb
theorem Duo.oq {w0 w : World} {q b o : Nat} {T R : Kin} (h : Duo w0 w q b o T R) : o ≠ q := by
  intro e; subst e
  obtain ⟨cs, h2, _⟩ := h.ref
  have h1 := h.kin.tree.box
  rw [h2] at h1
  simp at h1
theorem Duo.on {w0 w w' : World} {q b o : Nat} {T R : Kin} (hb : Below w.heap.size w w') (h : Duo w0 w q b o T R) : Duo w0 w' q b o T R := ⟨h.kin.on hb, h.ref.on hb, h.low⟩
theorem Duo.stepT {w0 w w' : World} {q b o : Nat} {T T' R : Kin} (h : Duo w0 w q b o T R) (t : TreeAt w' q b T') (hc : Chg b b w w') : Duo w0 w' q b o T' R :=
  ⟨h.kin.chg t hc, h.ref.same (hc.block o h.ref.lt h.ob h.ob), h.low⟩
theorem Duo.stepR {w0 w w' : World} {q b o : Nat} {T R R' : Kin} (h : Duo w0 w q b o T R) (t : GrAt w' o (refF R')) (hc : Chg o o w w') : Duo w0 w' q b o T R' :=
  ⟨⟨h.kin.tree.kept (hc.block q h.kin.tree.lt (fun e => h.oq e.symm) (fun e => h.oq e.symm)) (hc.block b h.kin.tree.map.lt (fun e => h.ob e.symm) (fun e => h.ob e.symm)), h.kin.below.trans (hc.below h.low h.low h.kin.below.size), h.kin.lowq, h.kin.lowb⟩, t, h.low⟩
theorem Duo.sent {s : Nat → Addr} {w0 w : World} {q b o : Nat} {T R : Kin} (h : Duo w0 w q b o T R) (hs : Sent s w0) : Sent s w := h.kin.sent hs

/-- .. and a deed in a block of its own. -/
structure Rnd (w0 w : World) (q b o U : Nat) (x : KActD) (T R : Kin) : Prop where
  duo : Duo w0 w q b o T R
  blk : KActBlk w U x
  low : w0.heap.size ≤ U
theorem Rnd.on {w0 w w' : World} {q b o U : Nat} {x : KActD} {T R : Kin} (hb : Below w.heap.size w w') (h : Rnd w0 w q b o U x T R) : Rnd w0 w' q b o U x T R := ⟨h.duo.on hb, h.blk.on hb, h.low⟩
theorem Rnd.drewN {w0 w : World} {q b o U : Nat} {x : KActD} {T R : Kin} (h : Rnd w0 w q b o U x T R) (n : Nat) : Rnd w0 (w.drewN n) q b o U x T R := h.on (below_drewN (Below.refl _ _) n)
theorem Rnd.drew {w0 w : World} {q b o U : Nat} {x : KActD} {T R : Kin} (h : Rnd w0 w q b o U x T R) : Rnd w0 w.drew q b o U x T R := h.on ((Below.refl _ _).drew)
theorem Rnd.ub {w0 w : World} {q b o U : Nat} {x : KActD} {T R : Kin} (h : Rnd w0 w q b o U x T R) : U ≠ b := by
  intro e; subst e
  obtain ⟨D, ⟨es, c, hb, _⟩, _⟩ := h.duo.kin.tree.map
  have h2 := h.blk
  unfold KActBlk at h2
  rw [h2] at hb; cases hb
theorem Rnd.uo {w0 w : World} {q b o U : Nat} {x : KActD} {T R : Kin} (h : Rnd w0 w q b o U x T R) : U ≠ o := by
  intro e; subst e
  obtain ⟨cs, h2, _⟩ := h.duo.ref
  have h1 := h.blk
  unfold KActBlk at h1
  rw [h2] at h1
  simp at h1
theorem Rnd.cells {w0 w : World} {q b o U : Nat} {x : KActD} {T R : Kin} (h : Rnd w0 w q b o U x T R) : w.cell? ⟨U, 1, none⟩ = some (.int .i64 x.id) ∧ w.cell? ⟨U, 2, none⟩ = some (.int .i64 x.other) := ⟨h.blk.cells.2.1, h.blk.cells.2.2.1⟩
theorem Rnd.stepT {w0 w w' : World} {q b o U : Nat} {x : KActD} {T T' R : Kin} (h : Rnd w0 w q b o U x T R) (t : TreeAt w' q b T') (hc : Chg b b w w') : Rnd w0 w' q b o U x T' R :=
  ⟨h.duo.stepT t hc, h.blk.kept hc h.ub h.ub, h.low⟩
theorem Rnd.stepR {w0 w w' : World} {q b o U : Nat} {x : KActD} {T R R' : Kin} (h : Rnd w0 w q b o U x T R) (t : GrAt w' o (refF R')) (hc : Chg o o w w') : Rnd w0 w' q b o U x T R' :=
  ⟨h.duo.stepR t hc, h.blk.kept hc h.uo h.uo, h.low⟩

section
variable {w0 W : World} {q b o U : Nat} {x : KActD} {T R : Kin}
theorem Rnd.drop_c {s : Nat → Addr} (h : Rnd w0 W q b o U x T R) (hs : Sent s w0) (hg : GoodKAct x) :
    Calls Tryd.prog 10 #[.pointer (some ⟨q, 0, none⟩), .int .i64 x.id] W fun e w' => e = .returned (errV s (dropErr T x.id)) ∧ Rnd w0 w' q b o U x (dropped T x.id) R :=
  (Go.Proofs.YtaibmdjcppeopaaDoor.drop_c s q b T x.id W (h.duo.sent hs) h.duo.kin.tree hg.2.1.1 hg.2.1.2).mono fun _ _ k => ⟨k.1, h.stepT k.2.1 k.2.2⟩
theorem Rnd.add_c {s : Nat → Addr} (h : Rnd w0 W q b o U x T R) (hs : Sent s w0) (hg : GoodKAct x) :
    Calls Tryd.prog 12 #[.pointer (some ⟨q, 0, none⟩), .int .i64 x.id, .int .i64 x.other] W fun e w' => e = .returned (errV s (addErr T x.id x.other)) ∧ Rnd w0 w' q b o U x (added T x.id x.other) R :=
  (Go.Proofs.YtaibmdjcppeopaaDoor.add_c s q b T x.id x.other W (h.duo.sent hs) h.duo.kin.tree hg.2.1.1 hg.2.1.2 hg.2.2.1 hg.2.2.2).mono fun _ _ k => ⟨k.1, h.stepT k.2.1 ((Chg.refl b b W).grown k.2.2 (fun j e => by cases e; exact .inl rfl))⟩
theorem Rnd.kind_c {s : Nat → Addr} (h : Rnd w0 W q b o U x T R) (hs : Sent s w0) (m : Nat) (hm : m ≤ 14) :
    Calls Tryd.prog 9 #[errV s m] W fun e w' => e = .returned (.int .i64 m) ∧ Rnd w0 w' q b o U x T R :=
  (kind_errV s m W (h.duo.sent hs) hm).mono fun _ _ k => ⟨k.1, h.on k.2⟩
theorem Rnd.rdrop_c (h : Rnd w0 W q b o U x T R) (g : Good R) (hf : R.length ≤ 16) :
    Calls Tryd.prog 11 #[.pointer (some ⟨o, 0, none⟩), .int .i64 x.id] W fun e w' => e = .returned (.int .i64 (dropErr R x.id : Nat)) ∧ Rnd w0 w' q b o U x T (dropped R x.id) :=
  (Go.Proofs.YtaibmdjcppeopaaDoor.rdrop_c o R x.id W h.duo.ref g hf).mono fun _ _ k => ⟨k.1, h.stepR k.2.1 k.2.2⟩
theorem Rnd.radd_c (h : Rnd w0 W q b o U x T R) (g : Good R) (hf : R.length ≤ 16) :
    Calls Tryd.prog 13 #[.pointer (some ⟨o, 0, none⟩), .int .i64 x.id, .int .i64 x.other] W fun e w' => e = .returned (.int .i64 (addErr R x.id x.other : Nat)) ∧ Rnd w0 w' q b o U x T (added R x.id x.other) :=
  (Go.Proofs.YtaibmdjcppeopaaDoor.radd_c o R x.id x.other W h.duo.ref g hf).mono fun _ _ k => ⟨k.1, h.stepR k.2.1 k.2.2⟩
theorem addErr_le (T : Kin) (x p : Int) : addErr T x p ≤ 14 := by unfold addErr; (repeat' split) <;> omega
theorem dropErr_le (T : Kin) (x : Int) : dropErr T x ≤ 14 := by unfold dropErr; (repeat' split) <;> omega
end
section
variable {P : Program} {md : Region.Mode} {ops : Array Oper} {Q : Exit → Act → World → Prop} {S : World → Prop}
theorem rg_take {fuel : Nat} {listed : Array Bool} {a : Act} {w : World} (i : Nat) (d : Option Tmp) (v : Value) (hs : Region.noSelect ops = true) (hf : Region.free md ops listed i = true) (hr : (Region.ready md ops listed).contains i = true)
    (hQ : ∀ c a w, Q (.panic c) (a.put d v) w → Q (.panic c) a w) (hd : (ops[i]?).map (·.dst) = some d) (hw : (ops[i]?).map (fun o => Region.wanted o (yielded ops a.tmps)) = some true)
    (hy : ∀ w, S w → ∀ o, ops[i]? = some o → (execOp a.eval o).run P w = .ok (.value v) w) (hS : S w) (h : wpAnyH P md ops Q S fuel (listed.setIfInBounds i true) (a.put d v) w) : wpAnyH P md ops Q S (fuel + 1) listed a w := by
  obtain ⟨o, ho, rfl⟩ := Option.map_eq_some_iff.1 hd
  obtain ⟨o', ho', hw'⟩ := Option.map_eq_some_iff.1 hw
  obtain rfl := Option.some.inj (ho.symm.trans ho')
  exact wpAnyH_take (i := i) (oi := o) (v := v) ho hs hf hr hQ (Or.inl ⟨hw', fun w hw => hy w hw o ho⟩) hS h
theorem rg_skip {fuel : Nat} {listed : Array Bool} {a : Act} {w : World} (i : Nat) (d : Option Tmp) (hs : Region.noSelect ops = true) (hf : Region.free md ops listed i = true) (hr : (Region.ready md ops listed).contains i = true)
    (hQ : ∀ c a w, Q (.panic c) (a.put d undef) w → Q (.panic c) a w) (hd : (ops[i]?).map (·.dst) = some d) (hw : (ops[i]?).map (fun o => Region.wanted o (yielded ops a.tmps)) = some false)
    (hS : S w) (h : wpAnyH P md ops Q S fuel (listed.setIfInBounds i true) (a.put d undef) w) : wpAnyH P md ops Q S (fuel + 1) listed a w := by
  obtain ⟨o, ho, rfl⟩ := Option.map_eq_some_iff.1 hd
  obtain ⟨o', ho', hw'⟩ := Option.map_eq_some_iff.1 hw
  obtain rfl := Option.some.inj (ho.symm.trans ho')
  exact wpAnyH_take (i := i) (oi := o) (v := undef) ho hs hf hr hQ (Or.inr ⟨hw', rfl⟩) hS h
theorem rg_one {fuel : Nat} {listed : Array Bool} {a : Act} {w : World} (i : Nat) (hr : Region.ready md ops listed = [i]) (hsome : (ops[i]?).isSome = true)
    (h : ∀ o, ops[i]? = some o → ∀ K' : Act → World → Prop, Shut (∀ a w, S w → (S w → wpAnyH P md ops Q S fuel (listed.setIfInBounds i true) a w) → K' a w) → if Region.wanted o (yielded ops a.tmps) = true then Oper.wp P o a w K' Q else K' (a.put o.dst undef) w) :
    wpAnyH P md ops Q S (fuel + 1) listed a w := by
  obtain ⟨o, ho⟩ := Option.isSome_iff_exists.1 hsome
  exact wpAnyH_ready (rs := [i]) hr (by simp) (AllReadyH.cons (o := o) ho (h o ho) AllReadyH.nil)
end
end Go.Proofs.YtaibmdjcppeopaaDoor
