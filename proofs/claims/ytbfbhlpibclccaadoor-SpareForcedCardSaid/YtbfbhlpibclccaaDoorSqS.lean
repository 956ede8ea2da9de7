/- The counts of a book in order: slices.SortedFunc over maps.Values, by contracts. Condition: the map is one that the calls have made. -/
import Derived.Test.YtbfbhlpibclccaaDoorSqSr
import Derived.Shelf.SlIterI.Nil
import Derived.RangeFuncNested
import Derived.RangeFuncLeaves
namespace Go.Proofs.YtbfbhlpibclccaaDoor
open Go Go.RowKit Go.Maps Go.Sort

section
variable {κ α : Type} [DecidableEq κ] {F : Fence} {n : Nat} {P : Program} (w : World) {ops : Array Oper} {rest : List Oper} {o : Oper} {a : Act} {Q : Exit → Act → World → Prop} {k : TypeId} {kv : κ → Value} {kl : κ → Lit} {ok : κ → Prop}
theorem wpListIn_rangeG (K : KeyKit P k kv kl ok) (hg : o.guard = none) (m : Operand) (t : TypeId) (hop : o.op = Op.range t m) (e : TypeId) (ht : P.underlying t = some (.map k e)) (enc : α → Value) (b : Nat) (T : List (κ × α))
    (hm : a.eval m = .map (some b)) (h : MapG P k kl ok enc w b T)
    (hK : ∀ w' left, RangeG P k kl ok enc w' b w.heap.size T left T.length → (∀ x, ok x → left x = (look T x).isSome) → w.grownBy w' none → w'.heap.size = w.heap.size + 1 → wpListIn F n P ops Q rest (a.put o.dst (.pointer (some ⟨w.heap.size, 0, none⟩))) w') :
    wpListIn F n P ops Q (o :: rest) a w := by
  obtain ⟨D, hown, hme⟩ := h
  refine wpListIn_range_own w hg m t hop k e K.keyed ht raw b T.length D hm hown fun w' hrg hgr hs => ?_
  rw [hme.size] at hrg
  exact hK w' (fun x => Maps.has D (kl x)) ⟨D, _, hrg, hme, fun _ _ => rfl⟩ hme.has hgr hs
theorem wpListIn_nextG (K : KeyKit P k kv kl ok) (hg : o.guard = none) (it : Operand) (hop : o.op = Op.next it false) (enc : α → Value) (b r : Nat) (T : List (κ × α)) (left : κ → Bool) (cnt : Nat)
    (hit : a.eval it = .pointer (some ⟨r, 0, none⟩)) (h : RangeG P k kl ok enc w b r T left cnt)
    (hDone : cnt = 0 → (∀ x, ok x → left x = false) → wpListIn F n P ops Q rest (a.put o.dst (.tuple #[.bool false])) w)
    (hMore : ∀ (x : κ) (v : α) (w' : World) (cnt' : Nat), ok x → left x = true → look T x = some v → RangeG P k kl ok enc w' b r T (fun z => left z && !decide (z = x)) cnt' → cnt' < cnt →
      w.grownBy w' (some r) → w'.heap.size = w.heap.size → (Instr.entry (.pointer (some ⟨r, 0, none⟩))).run P w' = .ok (.tuple #[kv x, enc v]) w' → wpListIn F n P ops Q rest (a.put o.dst (.tuple #[.bool true, kv x, enc v])) w') :
    wpListIn F n P ops Q (o :: rest) a w := by
  obtain ⟨D, lf, hrg, hme, hlf⟩ := h
  refine wpListIn_next_ranges w hg it hop k K.keyed raw kv id (fun key kl' hkey => by obtain ⟨x, _, hx⟩ := K.inv hkey; exact ⟨x, hx⟩) (fun v _ _ => ⟨v, rfl⟩)
    b r T.length D lf cnt hit hrg (fun hc hl => hDone hc fun x hx => by rw [← hlf x hx]; exact hl _) (fun x c kl' y w' cnt' hkey hlk hv hat hrg' hlt hgr hsz hen => ?_)
  obtain ⟨x', hx', ex, rfl⟩ := K.invl hkey
  obtain rfl := K.vinj ex
  have h1 := has_true_of_atKey hat
  rw [hme.has x hx'] at h1
  obtain ⟨v, hv'⟩ := Option.isSome_iff_exists.1 h1
  have h2 := (hme.at_ x hx' .nil).symm.trans (hat .nil)
  rw [hv'] at h2
  have h3 : y = (.held c, []) := (Option.some.inj hv).symm
  rw [h3] at h2
  have h4 : enc v = c := DataW.held.inj h2
  rw [id, ← h4] at hen ⊢
  exact hMore x v w' cnt' hx' (by rw [← hlf x hx']; exact hlk) hv' ⟨D, _, hrg', hme, fun z hz => by rw [hlf z hz, K.same hz hx']⟩ hlt hgr hsz hen
theorem RangeG.of_walks {w w' : World} {enc : α → Value} {b r cnt : Nat} {T : List (κ × α)} {left : κ → Bool} (h : RangeG P k kl ok enc w b r T left cnt) (hk : KeepsWalks w w') : RangeG P k kl ok enc w' b r T left cnt := by
  obtain ⟨D, lf, h, m⟩ := h
  exact ⟨D, lf, h.of_walks hk, m⟩
theorem RangeG.iter {w : World} {enc : α → Value} {b r cnt : Nat} {T : List (κ × α)} {left : κ → Bool} (h : RangeG P k kl ok enc w b r T left cnt) : ∃ o : Obj, w.heap[r]? = some o ∧ o.isWalk = true := by
  obtain ⟨D, lf, h, _⟩ := h
  exact h.iter_walk
end
theorem walks_of_below {w w' : World} (h : Below w.heap.size w w') : KeepsWalks w w' := ⟨h.size, fun k _ hk _ => (h.block k (lt_of_row hk)).trans hk⟩
theorem others_of_below {w w' : World} (h : Below w.heap.size w w') : KeepsOthers w w' := ⟨h.size, fun k _ hk _ => (h.block k (lt_of_row hk)).trans hk⟩

theorem valQ_at {T : List (K2 × Ct)} {x : K2} {y : Ct} (h : look T x = some y) : valQ T x = y := by unfold valQ; rw [h]; rfl
set_option maxRecDepth 100000 in
set_option maxHeartbeats 1600000 in
/-- The iterator of maps.Values: the entries come, each once, in some order. -/
theorem valsK_in (n : Nat) (hn : 1 ≤ n) (l Bm b : Nat) (T : List (K2 × Ct)) (J Jx : List Ct → World → Prop)
    (hY : ∀ pre x W, J pre W → pre.length < T.length → YieldAt Fence.wide (n - 1) Tryd.prog l #[encCv x] W fun e W' =>
      (e = .returned (.bool true) ∧ J (pre ++ [x]) W' ∧ KeepsWalks W W') ∨ (e = .returned (.bool false) ∧ Jx (pre ++ [x]) W'))
    (W : World) (hJ : AbidesFrom W.heap.size J) (hm : W.cell? ⟨Bm, 0, none⟩ = some (.map (some b))) (hown : MapG Tryd.prog 124 klQ okQ encCv W b T) (h0 : J [] W) :
    CallsIn Fence.wide n Tryd.prog 74 #[.func (.yield l) #[] #[], .pointer (some ⟨Bm, 0, none⟩)] W fun e W' => (∃ v, e = .returned v) ∧
      ((∃ ss : List Ct, (∃ ks : List K2, ks.Perm (T.map (·.1)) ∧ ss = ks.map (valQ T)) ∧ J ss W') ∨ (∃ pre : List Ct, True ∧ Jx pre W')) := by
  have hro : Fence.wide.round = none := rfl
  have HA := Lib.hid hown.apart
  have HK := Lib.hid hown.keys
  refine callsIn_of_wp Tryd.func74 rfl trivial ?_ hro
  simp only [Tryd.ntmps74, List.size_toArray, List.length_cons, List.length_nil, Nat.reduceAdd, Nat.reduceSub, Array.replicate_succ, Array.replicate_zero, List.push_toArray, List.append_toArray, List.nil_append, List.cons_append]
  gi_wp2_with (first
    | (gi_at_range; refine wpListIn_rangeG _ kitQ rfl _ 118 rfl 85 Tryd.underlying118 encCv b T rfl hown ?_; intro w0 left hrg0 hl0 hg0 hs0)
    | gi_in)
  go_frame
  gi_loopw [4] (fun _ wr => ∃ (left : K2 → Bool) (cnt : Nat) (ks : List K2), RangeG Tryd.prog 124 klQ okQ encCv wr b W.heap.size T left cnt ∧ ks.length + cnt ≤ T.length ∧ CameG T okQ left ks ∧ (∀ x ∈ ks, okQ x) ∧ J (ks.map (valQ T)) wr)
    (fun _ wr => wr.rangeLeft b W.heap.size)
  case atStart =>
    exact ⟨_, _, [], hrg0, by simp, CameG.start T hl0, fun x hx => (by cases hx), hJ [] W w0 none h0 hg0 (fun r e => by cases e)⟩
  case round =>
    obtain ⟨left, cnt, ks, hrg, hcs, hC, hok, hJs⟩ := hrel
    clear hrg0 hl0 hg0 hs0 hown
    have HC := Lib.hid hC; have HO := Lib.hid hok; have HJ := Lib.hid hJ; have HJS := Lib.hid hJs; have HRG := Lib.hid hrg; have HYY := Lib.hid hY; have HCS := Lib.hid hcs
    clear hC hok hJ hJs hY hcs
    gi_wp2_with (first
      | (gi_at_next; refine wpListIn_nextG _ kitQ rfl _ rfl encCv b W.heap.size T _ _ rfl hrg ?_ ?_)
      | gi_in)
    · intro hc0 hl0
      gi_wp2
      go_end0
      exact ⟨⟨_, rfl⟩, .inl ⟨ks.map (valQ T), ⟨ks, HC.out.perm HA.out HK.out HO.out hl0, rfl⟩, HJS.out⟩⟩
    · intro k x w2 cnt2 hxo hlk hat hrg2 hlt hg2 hs2 hen
      have hval : valQ T k = x := valQ_at hat
      have hJ2 : J (ks.map (valQ T)) w2 := HJ.out _ wr w2 (some W.heap.size) HJS.out hg2 (fun r e => by cases e; exact ⟨Nat.le_refl _, HRG.out.iter⟩)
      have HJ2 := Lib.hid hJ2; have HR2 := Lib.hid hrg2; have HLT := Lib.hid hlt; have HAT := Lib.hid hat; have HXO := Lib.hid hxo; have HLK := Lib.hid hlk; have HVAL := Lib.hid hval
      clear hJ2 hrg2 hlt hat hxo hlk hg2 hs2 hrg hval
      unfold encCv at hen ⊢
      obtain ⟨W3, hW3⟩ : ∃ W3, w2.alloc (.cells #[.int .i64 x.job, .int .i64 x.win, .int .i64 x.free, .int .i64 x.forced] 85) = W3 := ⟨_, rfl⟩
      have hg3 : w2.grownBy W3 none := by rw [← hW3]; exact World.grownBy_alloc w2 _ none
      have hk23 : KeepsWalks w2 W3 := by rw [← hW3]; exact KeepsWalks.alloc w2 _
      have HR3 := Lib.hid (HR2.out.of_walks hk23)
      have HJ3 : Hid (J (ks.map (valQ T)) W3) := Lib.hid (HJ.out _ w2 W3 none HJ2.out hg3 (fun r e => by cases e))
      have hlen : (ks.map (valQ T)).length < T.length := by have := HCS.out; have := HLT.out; rw [List.length_map]; omega
      obtain ⟨fn, tmps, assign, body, hy, hR⟩ := HYY.out _ x W3 HJ3.out hlen
      unfold encCv at hy
      have HRR := Lib.hid hR
      clear hR hg3 hk23 hlen
      subst hW3
      gi_wp2
      refine HRR.out.mono ?_
      rintro e W4 (⟨rfl, hJ4, hk4⟩ | ⟨rfl, hJx4⟩)
      · have HJ4 : Hid (J ((ks ++ [k]).map (valQ T)) W4) := Lib.hid (by rw [List.map_append, List.map_singleton, HVAL.out]; exact hJ4)
        have HR4 := Lib.hid (HR3.out.of_walks hk4)
        have HC4 := Lib.hid (HC.out.step HXO.out HLK.out HAT.out)
        clear hJ4 hk4 hy
        gi_wp2
        go_roundw
        case rel => exact ⟨_, cnt2, ks ++ [k], HR4.out, by have := HCS.out; have := HLT.out; simp; omega, HC4.out, fun y hy => by rcases List.mem_append.1 hy with h | h; exact HO.out y h; simp at h; rw [h]; exact HXO.out, HJ4.out⟩
        case measure => rw [HR4.out.left_eq, HRG.out.left_eq]; exact HLT.out
      · have HJX := Lib.hid hJx4
        clear hJx4 hy
        gi_wp2
        refine bodyPost_ret (results_none rfl _ _ _) rfl ?_
        exact ⟨⟨_, rfl⟩, .inr ⟨_, trivial, HJX.out⟩⟩
/-- .. as a contract of an iterator. -/
theorem valsK_stops (n : Nat) (hn : 1 ≤ n) (Bm b : Nat) (T : List (K2 × Ct)) (w : World) (hm : w.cell? ⟨Bm, 0, none⟩ = some (.map (some b))) (hown : MapG Tryd.prog 124 klQ okQ encCv w b T) :
    SeqStopsK Fence.wide n Tryd.prog 74 #[.pointer (some ⟨Bm, 0, none⟩)] (fun x => #[encCv x]) KeepsWalks (fun ss : List Ct => ∃ ks : List K2, ks.Perm (T.map (·.1)) ∧ ss = ks.map (valQ T)) (fun _ => True) T.length w := fun l J Jx W hW hJ _ hY h0 =>
  valsK_in n hn l Bm b T J Jx hY W hJ ((hW.cell (p := ⟨Bm, 0, none⟩) (lt_of_cell hm)).trans hm) (hown.on hW (Nat.le_refl _)) h0

set_option maxHeartbeats 1000000 in
/-- maps.Values. -/
theorem mvals_c (mb : Option Nat) (W : World) : Calls Tryd.prog 59 #[.map mb] W fun e w' => e = .returned (.func (.func 74) #[] #[.pointer (some ⟨W.heap.size, 0, none⟩)]) ∧ w' = W.alloc (.cells #[.map mb] 118) := by
  go_enter Tryd.func59, Tryd.ntmps59
  go_wp2
  go_ret
  exact ⟨rfl, rfl⟩

/-- The box of what has come, and its row. -/
structure CAt (w : World) (Bs : Nat) (ss : List Ct) (W : World) : Prop where
  box : ∃ v, W.heap[Bs]? = some (.cells #[v] 88 (0, 0)) ∧ OwnE encCt 85 W w.heap.size v ss
  below : Below w.heap.size w W
theorem cat_own (w : World) (Bs B : Nat) (hB : w.heap.size ≤ B) : OwnFrom B (CAt w Bs) := fun ss W W' row h hg hr => by
  obtain ⟨⟨v, hv, hown⟩, hb⟩ := h
  have hr' : ∀ r, row = some r → ∃ o : Obj, W.heap[r]? = some o ∧ o.isCells = false := fun r e => (hr r e).2
  refine ⟨⟨v, (grownBy_keeps_cells hg hr' hv rfl).trans hv, hown.same fun k hk => ?_⟩, hb.grown hg hb.size fun k e => Nat.le_trans hB (hr k e).1⟩
  rcases hown.2 with ⟨rfl, _⟩ | ⟨g, cap, cur, rfl, _, hgb, _⟩
  · simp [Value.ownBlock] at hk
  · simp [Value.ownBlock] at hk; subst hk; exact grownBy_keeps_cells hg hr' hgb rfl

theorem maxLen_isE : maxLen = 9223372036854775807 := by unfold maxLen; decide
theorem box_kept {W w3 : World} {v : Value} {B : Nat} {o o' : Obj} (hV : W.heap[B]? = some o) (hN : v.ownBlock = none ∨ v.ownBlock ≠ some B) (hg : (W.alloc o').grownBy w3 v.ownBlock) : w3.heap[B]? = some o := by
  refine (hg.block B (by have := lt_of_row hV; simp; omega) ?_).trans ((Below.heap_alloc W o' B (lt_of_row hV)).trans hV)
  rcases hN with e | e
  · rw [e]; simp
  · exact fun h => e h.symm
theorem own_some {w : World} {base : Nat} {e : TypeId} {size n : Nat} {v : Value} {xs : List Value} (h : w.ownsRow base e size v (n + 1) xs) : ∃ g cap, v = .slice (some ⟨g, 0, none⟩) (n + 1) cap := by
  rcases h.2 with ⟨_, h0⟩ | ⟨g, cap, _, rfl, _⟩
  · exact absurd h0 (by omega)
  · exact ⟨g, cap, rfl⟩
theorem cells_newC (W : World) (x : Ct) (t : TypeId) : ∀ j u, (encCt.enc x)[j]? = some u → (W.alloc (.cells #[.int .i64 x.job, .int .i64 x.win, .int .i64 x.free, .int .i64 x.forced] t)).cell? ((⟨W.heap.size, 0, none⟩ : Addr).add j) = some u := fun j u h => by
  rw [Addr.add_lit, Nat.zero_add, cell_of_heap (heap_alloc_new W _), ← h]
  unfold encCt
  simp
theorem cellsE_snoc (L : List Ct) (x : Ct) : cellsE encCt L ++ encCt.enc x = cellsE encCt (L ++ [x]) := by rw [← cellsE_one encCt x, cellsE_app]

set_option maxRecDepth 100000 in
set_option maxHeartbeats 3200000 in
/-- slices.AppendSeq(nil, seq). -/
theorem appendSeq_in (n : Nat) (hn : 2 ≤ n) (g : Nat) (lb : Array Value) (eg : ∀ args w, (callFunc g args).run Tryd.prog w = .ok (.enter g args) w)
    (S Sp : List Ct → Prop) (N : Nat) (hN : N ≤ 1000000) (w : World) (hseq : SeqStopsK Fence.wide (n - 1) Tryd.prog g lb (fun x => #[encCv x]) KeepsWalks S Sp N w) :
    CallsIn Fence.wide n Tryd.prog 82 #[.slice none 0 0, .func (.func g) #[] lb] w fun e w' => ∃ (v : Value) (ss : List Ct), e = .returned v ∧ S ss ∧ OwnE encCt 85 w' w.heap.size v ss ∧ Below w.heap.size w w' := by
  have h1 : 1 ≤ n := by omega
  have hro : Fence.wide.round = none := rfl
  have HSEQ := Lib.hid hseq
  clear hseq
  refine callsIn_of_wp_marks Tryd.func82 rfl trivial ?_ hro
  simp only [Tryd.ntmps82, List.size_toArray, List.length_cons, List.length_nil, Nat.reduceAdd, Nat.reduceSub, Array.replicate_succ, Array.replicate_zero, List.push_toArray, List.append_toArray, List.nil_append, List.cons_append]
  gi_wp2
  obtain ⟨W0, hW0⟩ : ∃ W0, w.alloc (.cells #[.slice none 0 0] 88) = W0 := ⟨_, rfl⟩
  have hs0 : W0.heap.size = w.heap.size + 1 := by rw [← hW0]; simp
  have hv0 : W0.heap[w.heap.size]? = some (.cells #[.slice none 0 0] 88 (0, 0)) := by rw [← hW0]; exact World.alloc_heap_new w _
  have hb0 : Below w.heap.size w W0 := by rw [← hW0]; exact (Below.refl _ w).alloc (Nat.le_refl _) _
  rw [hW0]
  clear hW0
  refine wpIn_rangeFunc_ownH hro h1 (gf := g) (lb := lb) rfl trivial eg HSEQ.out (fun h k => h.trans k) (fun W l o o' _ hl _ hw => KeepsWalks.putObj o' hl hw) hb0 (fun _ => rfl)
    (CAt w w.heap.size) (fun _ _ _ => False) (cat_own w w.heap.size _ (by omega)) (fun _ _ _ _ _ hs _ _ => hs)
    ⟨⟨_, hv0, OwnE.nil _ _ _⟩, hb0⟩
    (fun x a' W => ∃ Bx, W0.heap.size ≤ Bx ∧ W.heap[Bx]? = some (.cells #[.int .i64 x.job, .int .i64 x.win, .int .i64 x.free, .int .i64 x.forced] 85 (0, 0)) ∧ a' = { tmps := #[.slice none 0 0, .func (.func g) #[] lb, .pointer (some ⟨w.heap.size, 0, none⟩), undef, .slice none 0 0, .pointer (some ⟨Bx, 0, none⟩), .func (.func g) #[] lb, encCv x, undef, undef, undef, undef, undef], defers := [] })
    (fun x a' _ X Y row hs hg hr => by
      obtain ⟨Bx, h1, h2, h3⟩ := hs
      exact ⟨Bx, h1, (grownBy_keeps_cells hg (fun r e => (hr r e).2) h2 rfl).trans h2, h3⟩)
    ?assign ?body ?done ?stop
  case assign =>
    rintro l pre x W K hI hK
    have HK := Lib.hid hK; have HI := Lib.hid hI
    have hz := hI.below.size
    obtain ⟨v, hv, _⟩ := hI.box
    have hzl := lt_of_row hv
    clear hK hI hv
    unfold encCv
    gi_wp2_with gi_round_op_a
    have hb : Below W.heap.size W (W.alloc (.cells #[.int .i64 x.job, .int .i64 x.win, .int .i64 x.free, .int .i64 x.forced] 85)) := (Below.refl _ W).alloc (Nat.le_refl _) _
    refine HK.out _ _ ((others_of_below hb).from _) (walks_of_below hb) ?_ ⟨W.heap.size, by omega, heap_alloc_new W _, rfl⟩
    obtain ⟨⟨v, hv, hown⟩, hbw⟩ := HI.out
    exact ⟨⟨v, (hb.block _ (lt_of_row hv)).trans hv, hown.on hb⟩, hbw.alloc hbw.size _⟩
  case body =>
    rintro l pre x a' W hl _ hI ⟨Bx, hBx, hX, rfl⟩ hlt
    obtain ⟨⟨v, hv, hown⟩, hb⟩ := hI
    obtain ⟨i0, hi, hz0, hz1, hz2⟩ := info_parts Tryd.infoCt
    obtain ⟨hc2, hf2⟩ := cell_of_box_a hv
    have x0 := cell_of_heap hX 0
    have x1 := cell_of_heap hX 1
    have x2 := cell_of_heap hX 2
    have x3 := cell_of_heap hX 3
    simp at x0 x1 x2 x3
    have hbs := hb.size
    have hBlt : w.heap.size < W.heap.size := lt_of_row hv
    have HV := Lib.hid hv; have HOWN := Lib.hid hown; have HB := Lib.hid hb
    have HLT := Lib.hid hlt
    have hne : 88 ≠ 85 := by decide
    have nex : v.ownBlock = none ∨ v.ownBlock ≠ some w.heap.size := ownsRow_ne_a hown hv (fun cur e => hne (Obj.cells.inj e).2.1)
    have HNE := Lib.hid nex
    clear hv hown hb hX hlt nex hl
    unfold encCv
    gi_wp2_with (first | (gi_at_builtin; refine wpListIn_append_own _ rfl _ _ 88 rfl w.heap.size 85 i0 (.agg #[.int .i64 0, .int .i64 0, .int .i64 0, .int .i64 0]) 4 32 Tryd.underlying88 hi hz0 hz1 hz2 rfl (by decide) _ pre.length (cellsE encCt pre) rfl (HOWN.out.on ((Below.refl _ W).alloc (Nat.le_refl _) _)) ⟨W.heap.size, 0, none⟩ 1 1 (encCt.enc x) rfl rfl (cells_newC W x _) (by rw [← cellsE_one encCt x]; exact cellsE_oneCell _ _) (by have := HLT.out; rw [maxLen_isE]; omega) (by have := HLT.out; omega) (by simp; omega) ?_; intro v' w3 hown' hg3 hnil3; obtain ⟨g', cap', rfl⟩ := own_some hown'; have HW3 := Lib.hid hown'; have HG3 := Lib.hid hg3; obtain ⟨hc3, hf3⟩ := cell_of_box_a (box_kept HV.out HNE.out hg3); clear hown' hg3 hnil3) | gi_round_op_a)
    have hn := HNE.out
    have hg3 : (W.alloc (.cells #[.int .i64 x.job, .int .i64 x.win, .int .i64 x.free, .int .i64 x.forced] 85)).grownBy w3 v.ownBlock := HG3.out
    have hv3 := box_kept HV.out hn hg3
    have ho3 := HW3.out
    obtain ⟨w4, hw4⟩ : ∃ w4, w3.setCell ⟨w.heap.size, 0, none⟩ (.slice (some ⟨g', 0, none⟩) (pre.length + 1) cap') = w4 := ⟨_, rfl⟩
    rw [hw4]
    have hg4 : w3.grownBy w4 (some w.heap.size) := by rw [← hw4]; exact grownBy_setCell0_a _ _ _
    have hv4 : w4.heap[w.heap.size]? = some (.cells #[.slice (some ⟨g', 0, none⟩) (pre.length + 1) cap'] 88 (0, 0)) := by rw [← hw4]; exact heap_setCell_box_a _ hv3
    have hrow4 := ho3.kept hg4 (ownsRow_ne_a ho3 hv3 (fun cur e => hne (Obj.cells.inj e).2.1))
    have hb1 := HB.out.alloc HB.out.size (.cells #[.int .i64 x.job, .int .i64 x.win, .int .i64 x.free, .int .i64 x.forced] 85)
    have hb3 : Below w.heap.size w w3 := hb1.grown hg3 hb1.size fun k e => (HOWN.out.lt k e).1
    have hb4 : Below w.heap.size w w4 := hb3.grown hg4 hb3.size fun k e => by cases e; exact Nat.le_refl _
    have hk4 : KeepsOthers W w4 := by
      refine ((KeepsOthers.alloc W _).trans (KeepsOthers.of_grownBy hg3 fun j o hj ho => ?_)).trans (by rw [← hw4]; exact KeepsOthers.setCell _ _ _)
      rcases HOWN.out.2 with ⟨rfl, _⟩ | ⟨g, cap, cur, rfl, _, hgb, _⟩
      · simp [Value.ownBlock] at hj
      · simp [Value.ownBlock] at hj; subst hj
        rw [Below.heap_alloc W _ _ (lt_of_row hgb), hgb] at ho; cases ho; rfl
    refine ⟨hk4.from _, hk4.walks, ⟨_, hv4, ?_⟩, hb4⟩
    unfold OwnE
    rw [← cellsE_snoc, List.length_append]
    exact hrow4
  case done =>
    rintro D ss W hD hS hI hK
    obtain ⟨⟨v, hv, hown⟩, hb⟩ := hI
    obtain ⟨hc2, hf2⟩ := cell_of_box_a hv
    have HS := Lib.hid hS; have HOWN := Lib.hid hown; have HB := Lib.hid hb
    clear hS hown hb hv
    gi_wp2
    refine ⟨by simp, .inl ⟨_, _, rfl, run_takeDeferred hK, ?_⟩⟩
    refine ⟨_, results_tmp rfl _ _ _, v, ss, rfl, HS.out, HOWN.out.same fun k hk => World.putObj_heap_other (fun e => ?_), HB.out.grown (grownBy_putObj_a _ _ _) HB.out.size (fun k e => by cases e; omega)⟩
    subst e
    rcases HOWN.out.2 with ⟨rfl, _⟩ | ⟨g, cap, cur, rfl, _, hgb, _⟩
    · simp [Value.ownBlock] at hk
    · simp [Value.ownBlock] at hk; subst hk; rw [hgb] at hK; cases hK
  case stop =>
    rintro D c pre W _ _ h _
    exact h.elim
set_option maxHeartbeats 1000000 in
/-- slices.Collect(seq). -/
theorem collect_in (n : Nat) (hn : 3 ≤ n) (g : Nat) (lb : Array Value) (eg : ∀ args w, (callFunc g args).run Tryd.prog w = .ok (.enter g args) w)
    (S Sp : List Ct → Prop) (N : Nat) (hN : N ≤ 1000000) (w : World) (hseq : SeqStopsK Fence.wide (n - 1 - 1) Tryd.prog g lb (fun x => #[encCv x]) KeepsWalks S Sp N w) :
    CallsIn Fence.wide n Tryd.prog 72 #[.func (.func g) #[] lb] w fun e w' => ∃ (v : Value) (ss : List Ct), e = .returned v ∧ S ss ∧ OwnE encCt 85 w' w.heap.size v ss ∧ Below w.heap.size w w' := by
  have h1 : 1 ≤ n := by omega
  have hro : Fence.wide.round = none := rfl
  have hfn : Fence.wide.fn 82 := trivial
  have C := Lib.hid (appendSeq_in (n - 1) (by omega) g lb eg S Sp N hN w hseq)
  clear hseq
  refine callsIn_of_wp Tryd.func72 rfl trivial ?_ hro
  simp only [Tryd.ntmps72, List.size_toArray, List.length_cons, List.length_nil, Nat.reduceAdd, Nat.reduceSub, Array.replicate_succ, Array.replicate_zero, List.push_toArray, List.append_toArray, List.nil_append, List.cons_append]
  gi_wp2_with (gi_at_call 82; refine C.out.mono ?_; rintro e w' ⟨v, ss, rfl, hS, hrow, hb⟩)
  go_ret
  exact ⟨v, ss, rfl, hS, hrow, hb⟩

set_option maxHeartbeats 1000000 in
/-- slices.SortedFunc over maps.Values, by the program's order: the map's entries, sorted. -/
theorem sortedVals_c (b : Nat) (T : List (K2 × Ct)) (w : World) (h : MapG Tryd.prog 124 klQ okQ encCv w b T) (hf : T.length ≤ 1000000) :
    Calls Tryd.prog 58 #[.func (.func 74) #[] #[.pointer (some ⟨w.heap.size, 0, none⟩)], .func (.func 60) #[] #[]] (w.alloc (.cells #[.map (some b)] 118)) fun e w' =>
      ∃ (v : Value) (L : List Ct), e = .returned v ∧ (∃ ks : List K2, ks.Perm (T.map (·.1)) ∧ L.Perm (ks.map (valQ T))) ∧ (L.Pairwise fun a b => ¬ ltC b a) ∧ OwnE encCt 85 w' w.heap.size v L ∧ Below w.heap.size w w' := by
  have eg : ∀ args w, (callFunc 74 args).run Tryd.prog w = .ok (.enter 74 args) w := enters_of Tryd.func74 (by kernel_rfl) rfl
  have hbox : (w.alloc (.cells #[.map (some b)] 118)).cell? ⟨w.heap.size, 0, none⟩ = some (.map (some b)) := cell_of_heap (heap_alloc_new w _) 0
  have C := callsIn_wide.1 (collect_in 5 (by omega) 74 #[.pointer (some ⟨w.heap.size, 0, none⟩)] eg _ _ T.length hf _ (valsK_stops 3 (by omega) w.heap.size b T _ hbox (h.alloc _)))
  have CC := Lib.hid C
  have hbase : Below w.heap.size w (w.alloc (.cells #[.map (some b)] 118)) := (Below.refl _ w).alloc (Nat.le_refl _) _
  have HB := Lib.hid hbase
  have e1 : (w.alloc (.cells #[.map (some b)] 118)).heap.size = w.heap.size + 1 := by simp
  have E1 := Lib.hid e1
  obtain ⟨W, hW⟩ : ∃ W, w.alloc (.cells #[.map (some b)] 118) = W := ⟨_, rfl⟩
  rw [hW] at CC HB E1 ⊢
  clear C hbase e1 hW hbox h eg
  go_enter Tryd.func58, Tryd.ntmps58
  go_wp2_with fail
  refine CC.out.mono ?_
  rintro e w1 ⟨v, ss, rfl, ⟨ks, hp, hss⟩, hrow, hb⟩
  have HP := Lib.hid hp; have HSS := Lib.hid hss; have HR := Lib.hid hrow; have HB1 := Lib.hid hb
  have hl : ss.length ≤ 1000000 := by rw [hss, List.length_map, hp.length_eq]; simpa using hf
  have HL := Lib.hid hl
  obtain ⟨A, c, hv⟩ := hrow.form
  have cS := Lib.hid (sortC_own _ v ss w1 hrow hl)
  subst hv
  clear hp hss hrow hb hl
  go_wp2_with fail
  refine cS.out.mono ?_
  rintro e w2 ⟨rfl, M, hM, hU, hown, hg⟩
  have HM := Lib.hid hM; have HU := Lib.hid hU; have HW := Lib.hid hown; have HG := Lib.hid hg
  clear hM hU hown hg
  go_wp2_with fail
  go_ret
  refine ⟨_, M, rfl, ⟨ks, HP.out, by rw [← HSS.out]; exact HM.out⟩, HU.out, HW.out.base (by rw [E1.out]; omega), ?_⟩
  have hb1 : Below w.heap.size w w1 := HB.out.trans (HB1.out.mono (by rw [E1.out]; omega))
  exact hb1.grown HG.out hb1.size fun k e => by have := (HR.out.lt k e).1; rw [E1.out] at this; omega
end Go.Proofs.YtbfbhlpibclccaaDoor
