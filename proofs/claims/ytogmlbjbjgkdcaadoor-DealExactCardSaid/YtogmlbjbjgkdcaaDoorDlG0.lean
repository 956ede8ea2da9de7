/- What DealFair's walk holds, and what a match leaves, in plain words. No conditions. -/
import Derived.Test.YtogmlbjbjgkdcaaDoorDlZ
import Derived.Test.YtogmlbjbjgkdcaaDoorRowBOd
import Derived.Deep.DeepCutAuto
import Derived.Deep.CutBlock
import Derived.Deep.RegionHeld3
namespace Go.Proofs.YtogmlbjbjgkdcaaDoor
open Go Go.RowKit

/-- What a round holds behind the match: the book, the order, what stood, the fills. -/
structure DfS (w : World) (q R g : Nat) (b : RB) (o : Od) (vS : Value) (S : List Od) (vL : Value) (L : List Fl) (W : World) : Prop where
  bk : BkAt w W q R b
  box : BOdBlk W g o
  std : LiesE encOd W vS S
  fil : LiesE encFl W vL L
theorem DfS.on {w : World} {q R g : Nat} {b : RB} {o : Od} {vS : Value} {S : List Od} {vL : Value} {L : List Fl} {W W' : World} (h : DfS w q R g b o vS S vL L W) (hb : Below W.heap.size W W') : DfS w q R g b o vS S vL L W' :=
  ⟨h.bk.on hb, h.box.on hb, h.std.onB hb, h.fil.onB hb⟩
theorem sumF_snoc {L : List Fl} {k : Nat} {x : Fl} (h : L[k]? = some x) : sumF (L.take (k + 1)) = sumF (L.take k) + x.lots := by
  rw [List.take_add_one, h, Option.toList_some]
  unfold sumF
  simp
theorem sumF_nonneg {L : List Fl} (h : ∀ x ∈ L, 0 ≤ x.lots) : 0 ≤ sumF L := by
  induction L with
  | nil => exact Int.le_refl _
  | cons x L ih => rw [sumF_cons]; have := h x (List.mem_cons_self ..); have := ih fun y hy => h y (List.mem_cons_of_mem _ hy); omega
theorem sumF_take {L : List Fl} (h : ∀ x ∈ L, 0 ≤ x.lots) (k : Nat) : 0 ≤ sumF (L.take k) ∧ sumF (L.take k) ≤ sumF L := by
  have h1 := sumF_nonneg (L := L.take k) fun x hx => h x (List.take_subset _ _ hx)
  have h2 := sumF_nonneg (L := L.drop k) fun x hx => h x (List.drop_subset _ _ hx)
  have e : sumF L = sumF (L.take k) + sumF (L.drop k) := by
    conv => lhs; rw [← List.take_append_drop k L]
    unfold sumF
    rw [List.map_append, List.sum_append]
  omega

/-- What a match leaves, as the law asks of it. -/
structure FairF (b b' : RB) (o : Od) (S : List Od) (L : List Fl) (m : Nat) : Prop where
  gb : GB b'
  came : b'.came ≤ b.came + 1
  nm : NoMeet b'.L
  fill : ∀ k f, L[k]? = some f → ∃ x, S[k]? = some x ∧ meetO o x = true ∧ f = fillO o x f.lots ∧ 1 ≤ f.lots ∧ f.lots ≤ x.lots ∧ (k + 1 < L.length → f.lots = x.lots)
  sum : sumF L + (m : Int) = o.lots
  rest : sumO (listR13 b'.L (!o.sell)) = sumO S - sumF L
  lots : 1 ≤ o.lots ∧ o.lots ≤ 1000
  slots : ∀ x ∈ S, 1 ≤ x.lots ∧ x.lots ≤ 1000
  slen : S.length ≤ 32
  flots : ∀ f ∈ L, 0 ≤ f.lots
theorem fair_ok {b : RB} {o : Od} (h : GB b) (he : (addR13 b o).2 = 0) (hn : NoMeet b.L) : FairF b (matchO b o).1 o (listR13 b.L (!o.sell)) (matchO b o).2.1 (matchO b o).2.2.1 := by
  have hok := match_ok h he
  obtain ⟨hg, _, _⟩ := came_ok he
  have hl := good_lots hg
  have hS := list_lots h (!o.sell)
  have ht := take_sum o (listR13 b.L (!o.sell)) o.lots.toNat hS
  have hf : ∀ k f, (matchO b o).2.1[k]? = some f → _ := fun k f hk => by
    rw [hok.fills] at hk
    have := take_at o (listR13 b.L (!o.sell)) o.lots.toNat k f hS hk
    rw [← hok.fills] at this
    exact this
  refine ⟨hok.gb, hok.came, noMeet_match h he hn, hf, ?_, ?_, hl, fun x hx => h.lots x ((mem_side h _).1 hx).1, Nat.le_trans (listR13_le _ _) h.len, fun f hff => ?_⟩
  · rw [hok.fills, hok.left]; omega
  · rw [hok.fills, hok.other]; omega
  · obtain ⟨k, hk⟩ := List.getElem?_of_mem hff
    obtain ⟨x, _, _, _, h4, _⟩ := hf k f hk
    omega
theorem match_err {b : RB} {o : Od} (he : (addR13 b o).2 ≠ 0) : matchO b o = (b, [], 0, (addR13 b o).2) := by
  unfold matchO; rw [if_neg he]

end Go.Proofs.YtogmlbjbjgkdcaaDoor
