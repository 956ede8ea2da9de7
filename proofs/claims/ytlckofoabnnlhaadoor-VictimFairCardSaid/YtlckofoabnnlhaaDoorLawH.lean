/- From a law's walk to its row: what the package variables hold when the call begins, and that the arguments read behind the call as before. Conditions: the row's own. -/
import Derived.Test.YtlckofoabnnlhaaDoorRows
import Derived.Test.YtlckofoabnnlhaaDoorErrs
import Derived.ProofKit
import Derived.LaidMore
import Derived.LaidLaws
import Derived.LaidHandle
import Derived.LaidSub
import Derived.OpenShut
import Derived.Stop.Joined
import Derived.Stop.LaidTwo
import Derived.ChangeSame
import Derived.ChangeVars
import Derived.JoinedOf
import Derived.Lay
import Derived.Lib.LaidIn
namespace Go.Proofs.YtlckofoabnnlhaaDoor
open Go Go.ChangeShapes Go.WideShapes Go.ChangeAt Go.WideMaps Go.WideElems Go.RowKit

/-- The datum of a sentinel with a text. -/
def sentD (text : List UInt8) : DataW Unit := .iface "*errors.errorString" (.ptr (.agg [.lit (.string text)]))

/-- Is it a sentinel's datum? -/
def isS (nm : String) (x : String × DataW Unit) : Bool := match x.2 with | .iface n (.ptr (.agg [.lit (.string _)])) => n == nm | _ => false
theorem isS_is {nm : String} {x : String × DataW Unit} (h : isS nm x = true) : ∃ text, x.2 = .iface nm (.ptr (.agg [.lit (.string text)])) := by
  unfold isS at h
  split at h
  · rename_i e
    exact ⟨_, by rw [e, beq_iff_eq.1 h]⟩
  · cases h
theorem laid_all {P : Program} {W : World} {nm : String} {ti tp te ts : TypeId} {ms : Array (String × TypeId)} {f : Field}
    (hi : P.underlying ti = some (.interface ms)) (hrow : ∀ u, P.typeName? 3 u = some nm → u = tp)
    (hp : P.underlying tp = some (.pointer te)) (he : P.underlying te = some (.struct #[f])) (hft : f.type = ts) (hfo : f.offset = 0) (hs : P.underlying ts = some .string) (hc : P.cellsOf te = 1) (hcs : P.cellsOf ts = 1) :
    ∀ (l : List (String × DataW Unit)) (ps : List MemPlace), DataW.LaidVars P W l ps →
      (∀ b off, MemPlace.cell b off ∈ ps → (∃ c t, W.heap[b]? = some (.cells c t (0, 0))) ∧ ∀ u v, W.cell? ⟨b, off, none⟩ = some (.iface u v) → Value.okWide P W .any 0 u v) →
      (∀ x ∈ l, isS nm x = true → ∀ g, P.globalNamed x.1 = some g → (P.globals[g]?).map (·.type) = some ti) →
      ∃ rs : List Addr, rs.length = (l.filter (isS nm)).length ∧ (rs.flatMap fun a => MemPlace.row a 1).Sublist ps ∧
        ∀ (i : Nat) (n : String) (d : DataW Unit), (l.filter (isS nm))[i]? = some (n, d) → ∃ a g, rs[i]? = some a ∧ P.globalNamed n = some g ∧ W.cell? ⟨g, 0, none⟩ = some (.iface tp (.pointer (some a))) ∧ ∃ c t, W.heap[a.block]? = some (.cells c t (0, 0))
  | [], ps, h, _, _ => ⟨[], rfl, by simp, fun i n d h => by simp at h⟩
  | (n0, d0) :: r, ps, h, hrows, hall => by
    obtain ⟨g0, t0, cs0, f0, p0, q0, hg0, ht0, hv0, hd0, hr, rfl⟩ := h
    obtain ⟨rs, hlen, hsub, hat⟩ := laid_all hi hrow hp he hft hfo hs hc hcs r q0 hr (fun b off hm => hrows b off (by simp [hm])) (fun x hx => hall x (by simp [hx]))
    by_cases hS : isS nm (n0, d0) = true
    · obtain ⟨text, hd⟩ := isS_is hS
      have hty := hall (n0, d0) (by simp) hS
      rw [List.filter_cons_of_pos hS]
      simp only at hd
      subst hd
      obtain rfl := Option.some.inj ((hty g0 hg0).symm.trans ht0)
      obtain ⟨l0⟩ := cs0
      have ok0 : ∀ u v, l0 = [.iface u v] → Value.okWide P W .any 0 u v := fun u v e => by
        subst e
        exact (hrows g0 0 (by simp [MemPlace.row])).2 u v (by simpa using World.var?_cell hg0 hv0 0)
      obtain ⟨a0, s0, rfl, hc0, hs0, hz0, rfl⟩ := errorString_of_trod hi hrow hp he hft hfo hs hc hcs hd0 ok0
      have hb0 := (hrows a0.block a0.off (by simp [MemPlace.row])).1
      refine ⟨a0 :: rs, by simp [hlen], ?_, fun i n d hin => ?_⟩
      · rw [List.flatMap_cons, List.append_assoc]
        exact (List.Sublist.append (List.Sublist.refl _) hsub).trans (List.sublist_append_right _ _)
      · match i, hin with
        | 0, hin =>
          simp only [List.getElem?_cons_zero, Option.some.injEq, Prod.mk.injEq] at hin
          obtain ⟨rfl, rfl⟩ := hin
          exact ⟨a0, g0, rfl, hg0, by simpa using World.var?_cell hg0 hv0 0, hb0⟩
        | i + 1, hin =>
          obtain ⟨a, g, h1, h2⟩ := hat i n d (by simpa using hin)
          exact ⟨a, g, by simpa using h1, h2⟩
    · rw [List.filter_cons_of_neg hS]
      exact ⟨rs, hlen, hsub.trans (by first | exact List.sublist_append_right _ _ | exact (List.sublist_append_right _ _).trans (List.sublist_append_right _ _)), hat⟩

theorem nodup_rows {rs : List Addr} (h : (rs.flatMap fun a => MemPlace.row a 1).Nodup) {i j : Nat} {a : Addr} (hi : rs[i]? = some a) (hj : rs[j]? = some a) : i = j := by
  have e : ∀ l : List Addr, (l.flatMap fun a => MemPlace.row a 1) = l.map fun a => MemPlace.cell a.block a.off := by
    intro l
    induction l with
    | nil => rfl
    | cons x xs ih => rw [List.flatMap_cons, ih]; rfl
  rw [e] at h
  have hi' : (rs.map fun a => MemPlace.cell a.block a.off)[i]? = some (.cell a.block a.off) := by simp [hi]
  have hj' : (rs.map fun a => MemPlace.cell a.block a.off)[j]? = some (.cell a.block a.off) := by simp [hj]
  obtain ⟨h1, e1⟩ := List.getElem?_eq_some_iff.1 hi'
  obtain ⟨h2, e2⟩ := List.getElem?_eq_some_iff.1 hj'
  have hpw := List.pairwise_iff_getElem.1 h
  rcases Nat.lt_trichotomy i j with h3 | h3 | h3
  · exact absurd (e1.trans e2.symm) (hpw i j h1 h2 h3)
  · exact h3
  · exact absurd (e2.trans e1.symm) (hpw j i h2 h1 h3)

/-- The sentinels' names, in the order of their places. -/
def sentName (i : Nat) : String := ["quitrent/api.ErrArg", "quitrent/api.ErrNil", "quitrent/api.ErrForm", "quitrent/api.ErrOver", "quitrent/api.ErrNone", "quitrent/api.ErrDup", "quitrent/api.ErrFull", "quitrent/api.ErrQuota", "quitrent/api.ErrCeil", "quitrent/api.ErrRoom", "quitrent/api.ErrBudget", "quitrent/api.ErrFunds", "quitrent/api.ErrState", "quitrent/api.ErrDown"].getD i "-"
/-- The places of the sentinels. -/
def places : List Nat := List.range 14
theorem mem_places {i : Nat} (h : i < 14) : i ∈ places := List.mem_range.2 h
theorem gnum_is : ∀ i, i < 14 → Tryd.prog.globalNamed (sentName i) = some (gnum i) := by
  have h : ((places).all fun i => decide (Tryd.prog.globalNamed (sentName i) = some (gnum i))) = true := by kernel_rfl
  intro i hi
  exact of_decide_eq_true (List.all_eq_true.1 h i (mem_places hi))

theorem Tryd.own : ownKnob Tryd.prog.godebug = none := by kernel_rfl
theorem Tryd.laidOut : laidOutB Tryd.prog = true := by kernel_rfl
theorem Tryd.size : Tryd.prog.types.size = 151 := by kernel_rfl
theorem Tryd.star : "*" ++ "errors.errorString" = "*errors.errorString" := by decide
theorem Tryd.oneSent (u : TypeId) (h : Tryd.prog.typeName? 3 u = some "*errors.errorString") : u = 113 :=
  typeName_ptr_named (nm := "errors.errorString") (by rw [Tryd.star]; kernel_rfl) (by kernel_rfl) (by decide) u (by rw [Tryd.star]; exact h)
theorem Tryd.cellsE : Tryd.prog.cellsOf 139 = 1 := by kernel_rfl
theorem Tryd.cellsS : Tryd.prog.cellsOf 9 = 1 := by kernel_rfl

/-- The program's laid list of this row, as the row has it. -/
def laidL : List (String × DataW Unit) := Rows.victimNoneRow.laid
/-- The sentinels among them. -/
def sentL : List (String × DataW Unit) := (laidL.filter fun x => x.2.handleName?.isNone).filter (isS "*errors.errorString")
def idx (i : Nat) : Nat := (sentL.map (·.1)).findIdx (· == sentName i)
theorem idx_is : ∀ i, i < 14 → (sentL[idx i]?).map (·.1) = some (sentName i) := by
  have h : ((places).all fun i => decide ((sentL[idx i]?).map (·.1) = some (sentName i))) = true := by kernel_rfl
  intro i hi
  exact of_decide_eq_true (List.all_eq_true.1 h i (mem_places hi))
theorem idx_inj : ∀ i j, i < 14 → j < 14 → idx i = idx j → i = j := by
  have h : ((places).all fun i => (places).all fun j => decide (idx i = idx j → i = j)) = true := by kernel_rfl
  intro i j hi hj
  exact of_decide_eq_true (List.all_eq_true.1 (List.all_eq_true.1 h i (mem_places hi)) j (mem_places hj))
theorem laid_kinds : ∀ x ∈ (laidL.filter fun x => x.2.handleName?.isNone), isS "*errors.errorString" x = true → ∀ g, Tryd.prog.globalNamed x.1 = some g → (Tryd.prog.globals[g]?).map (·.type) = some 40 := by
  have h2 : ((laidL.filter fun x => x.2.handleName?.isNone).all fun x => !(isS "*errors.errorString" x) || match Tryd.prog.globalNamed x.1 with | some g => decide ((Tryd.prog.globals[g]?).map (·.type) = some 40) | none => true) = true := by kernel_rfl
  intro x hx hS g hg
  have := List.all_eq_true.1 h2 x hx
  rw [hS, hg] at this
  exact of_decide_eq_true (by simpa using this)

/-- WHAT THE CONDITION GIVES THE WALKS. -/
theorem sent_of_laid {W : World} (h : laidMetH Tryd.prog laidL W) : ∃ s, Sent s W := by
  obtain ⟨⟨ps, hl, hnd, hrows⟩, hh⟩ := laidMetH_iff.1 h
  obtain ⟨rs, hlen, hsub, hat⟩ := laid_all Tryd.underlying40 Tryd.oneSent Tryd.underlying113 Tryd.underlying139 rfl rfl Tryd.underlying9 Tryd.cellsE Tryd.cellsS _ ps hl hrows laid_kinds
  have hnd' := hnd.sublist hsub
  have at_ : ∀ i, i < 14 → ∃ a, rs[idx i]? = some a ∧ W.cell? ⟨gnum i, 0, none⟩ = some (.iface 113 (.pointer (some a))) ∧ ∃ c t, W.heap[a.block]? = some (.cells c t (0, 0)) := by
    intro i hi
    obtain ⟨⟨n, d⟩, hx, hn⟩ := Option.map_eq_some_iff.1 (idx_is i hi)
    obtain ⟨a, g, h1, h2, h3, h4⟩ := hat (idx i) n d (show sentL[idx i]? = some (n, d) from hx)
    simp only at hn
    subst hn
    obtain rfl := Option.some.inj ((gnum_is i hi).symm.trans h2)
    exact ⟨a, h1, h3, h4⟩
  refine ⟨fun i => (rs[idx i]?).getD ⟨0, 0, none⟩, ⟨fun i hi => ?_, fun i hi => ?_, fun i j hi hj he => ?_⟩⟩
  · obtain ⟨a, h1, h2, h3⟩ := at_ i hi
    simp only [h1, Option.getD_some]
    exact h2
  · obtain ⟨a, h1, h2, h3⟩ := at_ i hi
    simp only [h1, Option.getD_some]
    exact h3
  · obtain ⟨a, h1, _, _⟩ := at_ i hi
    obtain ⟨b, k1, _, _⟩ := at_ j hj
    simp only [h1, k1, Option.getD_some] at he
    subst he
    exact idx_inj i j hi hj (nodup_rows hnd' h1 k1)


/-- A world that meets the condition. -/
noncomputable def wit (os : Os) : World := World.doorLaid Tryd.prog 275 os
theorem wit_os (os : Os) : (wit os).os = os := rfl
theorem door_met (os : Os) (args : Array Value) : laidMetH Tryd.prog laidL ((wit os).forCall (fun _ _ => 0) ⟨#[], args, []⟩).memory :=
  laidMetH_of_parts3 (fuel := 8) (laidMet_of_run' 8 (by kernel_rfl) (by kernel_rfl)) (by kernel_rfl) (by kernel_rfl)

theorem all_stays {H : Type} {enc : TypeId × Value → H} {W W' : World} (hb : Below W.heap.size W W') : ∀ (ts : List TypeId) (vs : List Value) (ds : List (DataW H)) (p : List MemPlace),
    (∀ t ∈ ts, Tryd.prog.readableRec t = true ∧ t < Tryd.prog.types.size) → (∀ x ∈ p, x.block < W.heap.size) → DataW.TrodAll enc Tryd.prog W 0 (fun _ => true) true ts vs ds p →
    DataW.TrodAll enc Tryd.prog W' 0 (fun b => decide (b < W.heap.size)) true ts vs ds p
  | [], vs, ds, p, _, _, h => by
    obtain ⟨rfl, rfl, rfl⟩ := trodAll_nil h
    exact trodAll_mk0
  | t :: ts, vs, ds, p, ht, hp, h => by
    obtain ⟨v, vs', d, ds', p1, q1, rfl, rfl, rfl, h1, h2⟩ := trodAll_cons h
    exact trodAll_cons_mk (Below.trod Tryd.laidOut (ht t (by simp)).1 (ht t (by simp)).2 h1 hb fun x hx => hp x (by simp [hx])) (all_stays hb ts vs' ds' q1 (fun t ht' => ht t (by simp [ht'])) (fun x hx => hp x (by simp [hx])) h2)

/-- BEHIND A LAW THAT RETURNED TRUE and turned nothing old. -/
theorem law_post {H : Type} {enc : TypeId × Value → H} {f : Func} {s : ChangeSpec} {W W' : World} {args : Array Value} {ds gs : List (DataW H)} {before : List MemPlace} (hv : s.vars = []) (hr : f.resultTypes = #[4])
    (hp : ∀ t ∈ f.params.toList, Tryd.prog.readableRec t = true ∧ t < Tryd.prog.types.size) (hW : DataW.Whole enc Tryd.prog f.params.toList s.vars false W args.toList ds gs before)
    (hs : s.fn H (ds ++ gs) = { results := [.lit (.bool true)], args := ds }) (hb : Below W.heap.size W W') : s.post enc Tryd.prog f false true false false W args (.bool true) W' := by
  have hW' := hW
  obtain ⟨p, q, hA, hV, rfl, hz, hn⟩ := hW
  rw [hv] at hV
  obtain ⟨rfl, rfl⟩ := trodVars_none hV
  refine ⟨ds, [], p ++ [], [], p, [], hW', ?_, ?_, ?_, hb.frame _, fun h => by cases h⟩
  · rw [hs, hr]
    exact trodAll_mk1 (shut_bool Tryd.underlying4 true)
  · rw [hs]
    exact all_stays hb _ _ _ _ hp (fun x hx => by simpa using hW'.lt x (by simp [hx])) hA
  · rw [hs, hv]
    rfl
end Go.Proofs.YtlckofoabnnlhaaDoor
