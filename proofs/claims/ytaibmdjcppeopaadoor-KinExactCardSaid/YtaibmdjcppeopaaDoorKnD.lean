/- The contracts of kin's tree that make rows of tenants: the way up, the children, all. Condition: the tree lies in memory as its map has it. -/
import Derived.Test.YtaibmdjcppeopaaDoorKnC
import Derived.Test.YtaibmdjcppeopaaDoorKnL
namespace Go.Proofs.YtaibmdjcppeopaaDoor
open Go Go.RowKit Go.Maps Go.Sort

theorem Tryd.infoI : (Tryd.prog.info? 3).map (fun i => (i.zero, i.size, i.bytes)) = some (some (.int .i64 0), 1, 8) := by kernel_rfl

theorem own_fit {w : World} {P : Program} {k : TypeId} {R : Value → Option (DataW Unit × List MemPlace)} {b n m : Nat} {D : DataW Unit} (h : w.ownsMap P k R b n D) (hm : Maps.size D ≤ m) : w.ownsMap P k R b m D := by
  obtain ⟨es, c, hb, F, hs, rfl⟩ := h
  refine ⟨es, c, hb, F, ?_, rfl⟩
  simpa [Maps.size, length_sorted] using hm
theorem Means.put {D : DataW Unit} {T : Kin} (h : Means D T) (t : Tidy D) {x p : Int} (hx : up T x = none) : Means (D.put (.int .i64 x) (.lit (.int .i64 p))) ((x, p) :: T) where
  has := fun y => by
    by_cases e : y = x
    · subst e; rw [has_put_same (k := .int .i64 y) t.isMap (show WideAt.IsKeyLit (.int .i64 y) from trivial), up_cons, if_pos rfl]; rfl
    · rw [has_put_other (by simp [e]), up_cons, if_neg e]; exact h.has y
  at_ := fun y => by
    by_cases e : y = x
    · subst e; rw [atKey_put_same (k := .int .i64 y) t.isMap (show WideAt.IsKeyLit (.int .i64 y) from trivial), up_cons, if_pos rfl]; rfl
    · rw [atKey_put_other (by simp [e]), up_cons, if_neg e]; exact h.at_ y
  size := by rw [size_put t, h.has, hx]; simp [h.size]
theorem Means.del {D : DataW Unit} {T : Kin} (h : Means D T) (t : Tidy D) (g : Good T) {x : Int} (hx : (up T x).isSome = true) : Means (D.del (.int .i64 x)) (rid T x) where
  has := fun y => by
    rw [up_rid]
    by_cases e : y = x
    · subst e; rw [has_del_same, if_pos rfl]; rfl
    · rw [has_del_other (by simp [e]), if_neg e]; exact h.has y
  at_ := fun y => by
    rw [up_rid]
    by_cases e : y = x
    · subst e; rw [atKey_del_same, if_pos rfl]; rfl
    · rw [atKey_del_other (by simp [e]), if_neg e]; exact h.at_ y
  size := by
    have h1 := size_del (k := .int .i64 x) t
    rw [h.has, hx] at h1
    have h2 := g.struck_len hx
    have h3 := h.size
    simp at h1
    omega

/-- An integer among the tenants is one of a machine. -/
theorem Good.lo {T : Kin} (g : Good T) {x p : Int} (h : up T x = some p) : -9223372036854775808 ≤ x := by have := g.bounds h; omega
theorem Good.hi {T : Kin} (g : Good T) {x p : Int} (h : up T x = some p) : x ≤ 9223372036854775807 := by have := g.bounds h; omega
theorem Good.pbounds {T : Kin} (g : Good T) {x p : Int} (h : up T x = some p) : 0 ≤ p ∧ p ≤ 999 := by
  rcases (g.way_some h).2 with ⟨_, rfl⟩ | ⟨_, k⟩
  · omega
  · obtain ⟨r, hr⟩ := Option.isSome_iff_exists.1 k
    have := g.bounds hr; omega

/-- 'append' at a place that a literal fills ('map{..}'). -/
theorem wpList_insert_own {H : Type} {P : Program} (w : World) {ops : Array Oper} {rest : List Oper} {o : Oper} {a : Act} {Q : Exit → Act → World → Prop}
    (hg : o.guard = none) (m x v : Operand) (t : TypeId) (hop : o.op = Op.insert t m x v)
    (k e : TypeId) (K : Keyed P k) (ht : P.underlying t = some (.map k e)) (R : Value → Option (DataW H × List MemPlace)) (b n : Nat) (D : DataW H)
    (hm : a.eval m = .map (some b)) (hown : w.ownsMap P k R b n D) (hn : n < maxLen) (key val : Value) (kl : Lit) (hx : a.eval x = key) (hv : a.eval v = val) (hkey : keyOf P k key = some kl)
    (d : DataW H) (ps : List MemPlace) (hval : R val = some (d, ps))
    (hK : ∀ w', w'.ownsMap P k R b (n + 1) (D.put kl d) → w.grownBy w' (some b) → wpList P ops Q rest (a.put o.dst undef) w') :
    wpList P ops Q (o :: rest) a w := by
  refine wpList_plain hg fun K' hK' => ?_
  obtain ⟨w', hrun, r1, r2⟩ := hown.update K ht hn hkey hval
  unfold Oper.wp
  simp [execOp, hop, hm, hx, hv, hrun, Result.andThen]
  exact hK' _ _ (hK w' r1 r2)

set_option maxRecDepth 100000 in
/-- kin.New. -/
theorem new_c (w : World) : Calls Tryd.prog 7 #[] w fun e w' => ∃ q b, e = .returned (.pointer (some ⟨q, 0, none⟩)) ∧ TreeAt w' q b [(1, 0)] ∧ Below w.heap.size w w' ∧ w.heap.size ≤ b ∧ w.heap.size ≤ q := by
  have hmm := @run_makeMap Tryd.prog
  have hmade : (w.alloc (.map #[] 0)).ownsMap Tryd.prog 3 (plainElem (H := Unit) Tryd.prog 3) w.heap.size 0 (.map []) := World.ownsMap_made _ _ _ _
  go_enter Tryd.func7, Tryd.ntmps7
  go_wp2_with (first
    | (refine wpList_insert_own _ rfl _ _ _ 49 rfl 3 3 lawI Tryd.underlying49 _ w.heap.size 0 _ rfl hmade (by decide) _ _ _ rfl rfl (keyOf_int_mk (P := Tryd.prog) Tryd.underlying3 (wf64 (x := 1) (by decide) (by decide))) _ [] (plainElem_int (P := Tryd.prog) Tryd.underlying3 (wf64 (x := 0) (by decide) (by decide))) ?_; intro w1 hown1 hgrow1)
    | go_in)
  go_ret
  have hb0 : Below w.heap.size w (w.alloc (.map #[] 0)) := (Below.refl _ _).alloc (Nat.le_refl _) _
  have hb1 : Below w.heap.size w w1 := hb0.grown hgrow1 hb0.size (fun k hk => by cases hk; exact Nat.le_refl _)
  refine ⟨_, w.heap.size, rfl, ⟨heap_alloc_new w1 _, ?_, .root, by simp⟩, hb1.alloc hb1.size _, Nat.le_refl _, hb1.size⟩
  refine ⟨_, own_fit (hown1.alloc _) (Nat.le_of_eq ?_), ?_⟩
  · rw [size_put tidy_empty]; rfl
  · have h0 : Means (.map [] : DataW Unit) [] := ⟨fun _ => rfl, fun _ => rfl, rfl⟩
    exact h0.put tidy_empty rfl

/-- A row of integers that the calls have built. -/
abbrev IOwn (w : World) (base : Nat) (v : Value) (L : List Int) : Prop := w.ownsRow base 3 1 v L.length (L.map encZ)
theorem put_grow (d : Array Int) (w : World) (g n : Nat) : putRow encZ (Sort.ahead w n) g 0 d = grow (putRow encZ (Sort.ahead w n) g 0 d) #[] := by unfold grow; rw [Array.append_empty]
theorem IOwn.shape {w : World} {base : Nat} {v : Value} {L : List Int} (h : IOwn w base v L) : (v = .slice none 0 0 ∧ L = []) ∨ ∃ g cap, v = .slice (some ⟨g, 0, none⟩) L.length cap ∧ base ≤ g ∧ g < w.heap.size ∧ Holds encZ w g 0 L.toArray ∧
    ∀ (n : Nat) (os : Array Obj) (M : List Int), M.length = L.length → IOwn (grow (putRow encZ (Sort.ahead w n) g 0 M.toArray) os) base v M := by
  rcases h.2 with ⟨e, h0⟩ | ⟨g, cap, cur, rfl, hbase, hg, r1, r2, r3, r4⟩
  · exact .inl ⟨e, List.eq_nil_of_length_eq_zero h0⟩
  · refine .inr ⟨g, cap, rfl, hbase, (Array.getElem?_eq_some_iff.1 hg).1, holds_of_block_i hg (by simpa using r4), fun n os M hM => ?_⟩
    have := ownsRow_sorted_i (n := n) (os := os) hM hbase hg r1 r2 r3
    unfold IOwn
    rw [hM]; exact this

/-- slices.Reverse. -/
theorem reverse_own (base : Nat) (v : Value) (L : List Int) (w : World) (h : IOwn w base v L) (hl : L.length ≤ 9223372036854775807) :
    Calls Tryd.prog 39 #[v] w fun e w' => e = .returned (.tuple #[]) ∧ IOwn w' base v L.reverse ∧ w.grownBy w' v.ownBlock := by
  rcases h.shape with ⟨rfl, rfl⟩ | ⟨g, cap, rfl, hb, hg, hH, hown⟩
  · refine (Any.slices_Reverse_int_empty lay112 none 0 w).mono ?_
    rintro e w' ⟨rfl, rfl⟩
    exact ⟨rfl, h, World.grownBy.refl _ _⟩
  · refine (Any.slices_Reverse_int lay112 g 0 cap L w hH hl).mono ?_
    rintro e w' ⟨rfl, n, rfl⟩
    refine ⟨rfl, ?_, ?_⟩
    · have := hown n #[] L.reverse (by simp)
      rw [← put_grow] at this; exact this
    · have := grownBy_sorted_i (w := w) (g := g) (n := n) (os := #[]) L.reverse.toArray
      rw [← put_grow] at this; exact this
/-- slices.Sort. -/
theorem sort_own (base : Nat) (v : Value) (L : List Int) (w : World) (h : IOwn w base v L) (hl : L.length ≤ 1000) :
    Calls Tryd.prog 37 #[v] w fun e w' => e = .returned (.tuple #[]) ∧ IOwn w' base v (L.mergeSort leI) ∧ w.grownBy w' v.ownBlock := by
  rcases h.shape with ⟨rfl, rfl⟩ | ⟨g, cap, rfl, hb, hg, hH, hown⟩
  · refine (Any.slices_Sort_int_none lay189 none 0 w).mono ?_
    rintro e w' ⟨rfl, rfl⟩
    exact ⟨rfl, by simpa using h, World.grownBy.refl _ _⟩
  · refine (Any.slices_Sort_int lay189 g 0 cap L w hH hg (by omega)).mono ?_
    rintro e w' ⟨rfl, n, os, rfl⟩
    exact ⟨rfl, hown n os (L.mergeSort leI) (by simp), grownBy_sorted_i _⟩
/-- slices.Contains. -/
theorem contains_own (base : Nat) (v : Value) (L : List Int) (x : Int) (w : World) (h : IOwn w base v L) (hl : L.length ≤ 9223372036854775807) :
    Calls Tryd.prog 31 #[v, .int .i64 x] w fun e w' => e = .returned (.bool (L.contains x)) ∧ w' = w := by
  rcases h.shape with ⟨rfl, rfl⟩ | ⟨g, cap, rfl, hb, hg, hH, hown⟩
  · exact (Any.slices_Contains_int_empty lay107 none 0 x w)
  · have := Any.slices_Contains_int lay107 g 0 L.length cap L x w (Nat.le_refl _) hl fun j hj => by
      rw [(hH j (by simpa using hj)).1]
      simp [hj]
    rw [List.take_length] at this
    exact this

/-- The rows that are made lie among the new blocks. -/
theorem IOwn.alloc {w : World} {base : Nat} {v : Value} {L : List Int} (h : IOwn w base v L) (o : Obj) : IOwn (w.alloc o) base v L := World.ownsRow.alloc h o

set_option maxHeartbeats 1000000 in
set_option maxRecDepth 100000 in
/-- The way up from one. -/
theorem path_c (b : Nat) (T : Kin) (x : Int) (w : World) (h : MapAt w b T) (g : Good T) (hf : T.length ≤ 16) (h0 : -9223372036854775808 ≤ x) (h1 : x ≤ 9223372036854775807) :
    Calls Tryd.prog 32 #[.map (some b), .int .i64 x] w fun e w' => ∃ v, e = .returned v ∧ IOwn w' w.heap.size v (way T x) ∧ Below w.heap.size w w' := by
  obtain ⟨i0, hi, hz0, hz1, hz2⟩ := info_parts Tryd.infoI
  have hbl := h.lt
  go_enter Tryd.func32, Tryd.ntmps32
  go_wp2_with fail
  go_loopw [5, 6] (fun V a wr => ∃ (v : Value) (y : Int) (ss : List Int), v = V ∧ a = .int .i64 y ∧ -9223372036854775808 ≤ y ∧ y ≤ 9223372036854775807 ∧ way T x = way T y ++ ss.reverse ∧ IOwn wr w.heap.size v ss ∧ MapAt wr b T ∧ Below w.heap.size w wr)
    (fun _ a _ => (way T (intOf a)).length)
  case atStart => exact ⟨_, x, [], rfl, rfl, h0, h1, by simp, World.ownsRow_nil _ _ _ _, h, Below.refl _ _⟩
  case round =>
    obtain ⟨v, y, ss, rfl, rfl, y0, y1, hw, hown, hm, hb⟩ := hrel
    have ch := has_c b T y wr hm y0 y1
    have hlen : ss.length ≤ 16 := by
      have := way_len T x
      rw [hw] at this
      simp at this; omega
    cases hu : up T y with
    | none =>
      rw [hu] at ch
      have hW : way T x = ss.reverse := by rw [hw, way_none hu, List.nil_append]
      have cr := reverse_own w.heap.size v ss wr hown (by omega)
      have hlow : ∀ k, v.ownBlock = some k → w.heap.size ≤ k := fun k e => (hown.lt k e).1
      clear hw hown hm hu
      go_wp2_with (first
        | (go_at_call 29; refine ch.mono ?_; rintro e w' ⟨rfl, rfl⟩)
        | (go_at_call 39; refine cr.mono ?_; rintro e w' ⟨rfl, ho, hg⟩))
      go_ret
      exact ⟨_, rfl, by rw [hW]; exact ho, hb.grown hg hb.size hlow⟩
    | some p =>
      rw [hu] at ch
      obtain ⟨hwy, _⟩ := g.way_some hu
      have hpb := g.pbounds hu
      have hk := keyOf_int_mk (P := Tryd.prog) Tryd.underlying3 (wf64 y0 y1)
      have hlow : ∀ k, v.ownBlock = some k → w.heap.size ≤ k := fun k e => (hown.lt k e).1
      have HB : Hid (∀ (o : Obj) (W : World), (wr.alloc o).grownBy W v.ownBlock → MapAt W b T ∧ Below w.heap.size w W) := Lib.hid fun o W hg =>
        have hs := hb.size
        ⟨hm.same ((hg.block b (by simp; omega) (fun e => by have := hlow b e.symm; omega)).trans (Below.heap_alloc wr o b (by omega))), (hb.alloc hs o).grown hg (by simp; omega) hlow⟩
      have HW : Hid (way T x = way T y ++ ss.reverse ∧ way T y = way T p ++ [y] ∧ up T y = some p) := Lib.hid ⟨hw, hwy, hu⟩
      have hs := hb.size
      clear hw hwy hu hm hb hlow h
      go_wp2_with (first
        | (go_at_call 29; refine ch.mono ?_; rintro e wr ⟨rfl, rfl⟩)
        | (at_builtin; refine wpList_append_own_at _ rfl _ _ 38 rfl w.heap.size 3 i0 (.int .i64 0) 1 8 Tryd.underlying38 hi hz0 hz1 hz2 rfl (by decide) _ _ _ rfl (hown.alloc _) ⟨wr.heap.size, 0, none⟩ 1 1 [.int .i64 y] rfl rfl (cell_one_new _ _ _) (ints_oneCell .i64 [y]) (by unfold maxLen; omega) (by omega) (by simp; omega) ?_; intro v' w1 hown' hgrow hnil hloc; obtain ⟨⟨D, hD, hme⟩, hb1⟩ := HB.out _ _ hgrow)
        | (at_lookup; refine wpList_lookup_own_int _ rfl _ _ 49 rfl 3 3 .i64 lawI Tryd.underlying49 Tryd.underlying3 (Tryd.zeroValue3 _) b T.length D rfl hD _ _ rfl hk ?_; intro c hat hwc))
      have hc : c = p := by
        have e := (hme.at_ y).symm.trans hat
        rw [HW.out.2.2] at e
        simp at e; exact e.symm
      subst hc
      go_roundw
      case rel =>
        refine ⟨v', c, ss ++ [y], rfl, rfl, by omega, by omega, ?_, ?_, ⟨D, hD, hme⟩, hb1⟩
        · rw [HW.out.1, HW.out.2.1]; simp
        · unfold IOwn; rw [List.length_append, List.map_append]; exact hown'
      case measure =>
        show (way T c).length < (way T y).length
        rw [HW.out.2.1]; simp
end Go.Proofs.YtaibmdjcppeopaaDoor
