/- The law VecSum: for every list of vectors the call returns true, and the list reads afterwards as before. Conditions: the row's own; the package variables start as the program's text lays them (tied by the card). -/
import Derived.Test.YthhjdebpbkkpbaaDoorLaw
import Derived.Test.YthhjdebpbkkpbaaDoorSumW
import Derived.Test.YthhjdebpbkkpbaaDoorCards
import Derived.Test.YthhjdebpbkkpbaaDoorTie
import Derived.SevenTiedAt
import Derived.Deep.Slices
namespace Go.Proofs.YthhjdebpbkkpbaaDoor
open Go Go.ChangeShapes Go.WideShapes Go.ChangeAt Go.WideMaps Go.WideElems Go.RowKit

/-- A vector's four cells. -/
theorem vec_cells {H : Type} {enc : TypeId × Value → H} {w : World} {base : Nat} {spare : Nat → Bool} {held : Bool} {fuel : Nat} {cs : List Value} {x : DataW H × List MemPlace}
    (h : DataW.trod enc Tryd.prog w base spare held fuel 23 cs = some x) : ∃ z : V4, cs = [.int .i64 z.a, .int .i64 z.b, .int .i64 z.c, .int .i64 z.d] := by
  obtain ⟨xs, m, _, hx, hlen, hxl, hel⟩ := DataW.trod_array (show Tryd.prog.underlying 23 = some (.array 4 3) by kernel_rfl) h
  have c4 : Tryd.prog.cellsOf 23 = 4 := by kernel_rfl
  have c1 : Tryd.prog.cellsOf 3 = 1 := by kernel_rfl
  rw [c4] at hlen
  rw [c1] at hel
  have key : ∀ c : Value, (∃ z, DataW.trod enc Tryd.prog w base spare held m 3 [c] = some z) → ∃ n, c = .int .i64 n := by
    rintro c ⟨z, hz⟩
    obtain ⟨n, hn, _⟩ := DataW.trod_int Tryd.underlying3 hz
    exact ⟨n, by simpa using hn⟩
  have hsome : ∀ i, i < 4 → ∃ z, xs[i]? = some z := fun i hi => ⟨_, List.getElem?_eq_getElem (by omega)⟩
  obtain ⟨c0, c1', c2, c3, rfl⟩ : ∃ c0 c1 c2 c3, cs = [c0, c1, c2, c3] := by
    match cs, hlen with
    | [a, b, c, e], _ => exact ⟨a, b, c, e, rfl⟩
  obtain ⟨z0, e0⟩ := hsome 0 (by omega)
  obtain ⟨z1, e1⟩ := hsome 1 (by omega)
  obtain ⟨z2, e2⟩ := hsome 2 (by omega)
  obtain ⟨z3, e3⟩ := hsome 3 (by omega)
  obtain ⟨n0, rfl⟩ := key c0 ⟨z0, (hel 0 (by omega)).trans e0⟩
  obtain ⟨n1, rfl⟩ := key c1' ⟨z1, (hel 1 (by omega)).trans e1⟩
  obtain ⟨n2, rfl⟩ := key c2 ⟨z2, (hel 2 (by omega)).trans e2⟩
  obtain ⟨n3, rfl⟩ := key c3 ⟨z3, (hel 3 (by omega)).trans e3⟩
  exact ⟨⟨n0, n1, n2, n3⟩, rfl⟩

theorem list_of {n : Nat} {p : Nat → V4 → Prop} (h : ∀ i, i < n → ∃ z, p i z) : ∃ zs : List V4, zs.length = n ∧ ∀ i z, zs[i]? = some z → p i z := by
  induction n with
  | zero => exact ⟨[], rfl, fun i z hz => by simp at hz⟩
  | succ n ih =>
    obtain ⟨zs, hl, hz⟩ := ih fun i hi => h i (by omega)
    obtain ⟨z, hn⟩ := h n (by omega)
    refine ⟨zs ++ [z], by simp [hl], fun i z' hi => ?_⟩
    rw [List.getElem?_append] at hi
    split at hi
    · exact hz i z' hi
    · rename_i hge
      have : i = n := by
        obtain ⟨h1, _⟩ := List.getElem?_eq_some_iff.1 hi
        simp at h1; omega
      subst this
      rw [show i - zs.length = 0 from by omega] at hi
      obtain rfl := Option.some.inj hi
      exact hn

theorem add_add_ {a : Addr} {i j : Nat} (hj : 0 < j) : (a.add i).add j = ⟨(a.add i).block, (a.add i).off + j, none⟩ := by
  rw [Addr.add, if_neg (by omega)]

theorem open_vecs {H : Type} {enc : TypeId × Value → H} {w : World} {base : Nat} {spare : Nat → Bool} {held : Bool} {v : Value} {d : DataW H} {ps : List MemPlace} (hv : Value.okWide Tryd.prog w .any base 37 v)
    (h : DataW.Trod enc Tryd.prog w 0 spare held 37 v d ps) : ∃ A c zs, v = .slice A (zs : List V4).length c ∧ VRow w w.heap.size A zs ∧ zs.length ≤ 9223372036854775807 := by
  have hu : Tryd.prog.underlying 37 = some (.slice 23) := by kernel_rfl
  have c4 : Tryd.prog.cellsOf 23 = 4 := by kernel_rfl
  obtain ⟨a0, n0, c0, rfl⟩ := okWide_slice hu hv
  obtain ⟨fuel, hf⟩ := h
  rcases Go.Deep.open_slice hu hf with ⟨hcs, _⟩ | ⟨a, len, cap, m, n, D, Pl, hcs, hb, hl, hm, hmm, hx, hi⟩
  · have hcs' : [Value.slice a0 n0 c0] = [.slice none 0 0] := hcs
    simp only [List.cons.injEq, Value.slice.injEq, and_true] at hcs'
    obtain ⟨rfl, rfl, rfl⟩ := hcs'
    exact ⟨none, 0, [], rfl, fun h => absurd h (by simp), by simp⟩
  · have hcs' : [Value.slice a0 n0 c0] = [.slice (some a) len cap] := hcs
    simp only [List.cons.injEq, Value.slice.injEq, and_true] at hcs'
    obtain ⟨rfl, rfl, rfl⟩ := hcs'
    have hlm : n0 ≤ m := by rw [hmm]; split <;> omega
    obtain ⟨zs, hlen, hz⟩ := list_of (n := n0) (p := fun i z => w.cell? (a.add (i * 4)) = some (.int .i64 z.a) ∧ w.cell? ⟨(a.add (i * 4)).block, (a.add (i * 4)).off + 1, none⟩ = some (.int .i64 z.b) ∧ w.cell? ⟨(a.add (i * 4)).block, (a.add (i * 4)).off + 2, none⟩ = some (.int .i64 z.c) ∧ w.cell? ⟨(a.add (i * 4)).block, (a.add (i * 4)).off + 3, none⟩ = some (.int .i64 z.d)) (fun i hin => by
      obtain ⟨cs', h1, h2⟩ := hi i (by omega)
      rw [c4] at h1
      obtain ⟨z, rfl⟩ := vec_cells h2
      obtain ⟨_, _, hat⟩ := World.cells?_some h1
      refine ⟨z, ?_, ?_, ?_, ?_⟩
      · have := hat 0 (by omega)
        rwa [show ∀ b : Addr, b.add 0 = b from fun b => rfl] at this
      · have := hat 1 (by omega)
        rwa [add_add_ (by omega)] at this
      · have := hat 2 (by omega)
        rwa [add_add_ (by omega)] at this
      · have := hat 3 (by omega)
        rwa [add_add_ (by omega)] at this)
    subst hlen
    refine ⟨some a, c0, zs, rfl, fun hpos => ⟨a, rfl, ?_, hz⟩, by unfold maxLen at hm; omega⟩
    have h0 := (hz 0 _ (List.getElem?_eq_getElem hpos)).1
    have := lt_of_cell h0
    rwa [block_of_add] at this

set_option maxRecDepth 100000 in
theorem vecSum_lifted (os : Os) (started : os.Started) (H : Type) (enc : TypeId × Value → H) :
    ReturnsInHanded {} Tryd.checked os 4 .any (fun w args => (Rows.vecSumSpec.pre enc Tryd.prog Tryd.f4 [] false w args ∧ laidMetH Tryd.prog laidL w) ∧ sizedMet enc Tryd.prog Tryd.f4 (OpenSpec.ofChange Rows.vecSumSpec) false w args)
      (Rows.vecSumSpec.post enc Tryd.prog Tryd.f4 false true false false) := by
  refine returnsInHanded_of_change_and (C := Tryd.checked) (X := fun w _ => laidMetH Tryd.prog laidL w) (fun _ _ _ hh h => h.of_heap hh) Tryd.own started (by kernel_rfl) Tryd.func4
    (ChangeSpec.witness_shaped (enc := enc) (C := Tryd.checked) (os := os) (X := fun w _ => laidMetH Tryd.prog laidL w) false (World.doorLaid Tryd.prog 282 os) #[.slice none 0 0] 8 rfl (World.shaped_of_RefB (by kernel_rfl) (by kernel_rfl)) (by kernel_rfl) (by kernel_rfl) (by kernel_rfl) (door_met os _)) ?_
  intro W base args ds gs before hval0 hW _ _ hL _
  have hval : ∀ (j : Nat) t v, Tryd.f4.params[j]? = some t → args[j]? = some v → Value.okWide Tryd.prog W .any base t v := hval0
  have hW' := hW
  obtain ⟨p, q, hA0, hV, rfl, hfz, hnd⟩ := hW
  have hA : DataW.TrodAll enc Tryd.prog W 0 (fun _ => true) true Tryd.f4.params.toList args.toList ds p := hA0
  rw [Tryd.params4] at hA hval
  obtain ⟨v0, d0, rfl, rfl, h0⟩ := trodAll_one hA
  obtain ⟨A, c, zs, rfl, hr, hl⟩ := open_vecs (hval 0 37 v0 rfl rfl) h0
  obtain ⟨rfl, rfl⟩ := trodVars_none hV
  obtain ⟨s, hs⟩ := sent_of_laid hL
  refine (sum_walk s A c zs W hs hr hl).mono fun e W' ⟨he, hb⟩ => ?_
  subst he
  exact ⟨_, rfl, law_post rfl rfl (by rw [Tryd.params4]; exact fun t ht => by revert t; decide +kernel) hW' rfl hb⟩

theorem vecSum_holds : Rows.VecSumSaid :=
  OpenClaim.holds_of_wide 4 Tryd.f4 rfl rfl rfl rfl rfl rfl rfl ⟨rfl, rfl, rfl, rfl, rfl⟩ rfl rfl rfl rfl rfl (by kernel_rfl) Tryd.func4 (by kernel_rfl)
    (of_decide_eq_true (by kernel_rfl)) (by unfold Func.isWrapper; first | (rw [if_pos (by decide +kernel)]; kernel_rfl) | (rw [if_neg (by decide +kernel)]; exact ⟨rfl, rfl⟩))
    (fun os started H enc _ => vecSum_lifted os started H enc)

theorem vecSum_card : Rows.VecSumCardSaid :=
  Claim7.holds_tied_plain_at .later [] Rows.vecSumCard.laidKinds true Rows.vecSumCard.stood.harness true
    vecSum_holds (fun _ h => by cases h) (by kernel_rfl) (fun _ h => by cases h) vecSum_row_tie rfl ⟨rfl, rfl⟩ (by kernel_rfl) rfl
    (fun f fn hf hfn => by
      obtain rfl : f = 4 := Option.some.inj ((show Tryd.prog.funcNamed "quitrent/quitrentlaw01.VecSum" = some 4 by kernel_rfl).symm.trans hf) |>.symm
      obtain rfl : fn = Tryd.f4 := (Option.some.inj (Tryd.func4.symm.trans hfn)).symm
      exact ⟨by kernel_rfl, fun j t ht => by
        rw [Tryd.params4] at ht
        have hm : t ∈ [37] := by simpa using Array.mem_of_getElem? ht
        have hall : ([37].all fun u => !Tryd.prog.wantsStandIn u) = true := by kernel_rfl
        exact (show Tryd.prog.wantsStandIn t = false by simpa using List.all_eq_true.1 hall t hm)⟩)
    (by kernel_rfl)
#print axioms vecSum_card
end Go.Proofs.YthhjdebpbkkpbaaDoor
