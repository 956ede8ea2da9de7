/- The contracts of kin's Add and Drop, and of all methods of no tree. Conditions: the tree lies in memory as its map has it; the sentinels lie where the program's text lays them. -/
import Derived.Test.YtaibmdjcppeopaaDoorKnE
namespace Go.Proofs.YtaibmdjcppeopaaDoor
open Go Go.RowKit Go.Maps Go.Sort

theorem TreeAt.step {w w' : World} {q b : Nat} {T : Kin} (h : TreeAt w q b T) {T' : Kin} (hc : w.grownBy w' (some b)) (hm : MapAt w' b T') (g : Good T') (f : T'.length ≤ 16) (hq : q ≠ b) : TreeAt w' q b T' :=
  ⟨(hc.block q h.lt (fun e => hq (by cases e; rfl))).trans h.box, hm, g, f⟩
theorem TreeAt.ne {w : World} {q b : Nat} {T : Kin} (h : TreeAt w q b T) : q ≠ b := by
  intro e; subst e
  obtain ⟨D, ⟨es, c, hb, _⟩, _⟩ := h.map
  rw [h.box] at hb; cases hb
theorem TreeAt.kept {w w' : World} {q b : Nat} {T : Kin} (h : TreeAt w q b T) (e1 : w'.heap[q]? = w.heap[q]?) (e2 : w'.heap[b]? = w.heap[b]?) : TreeAt w' q b T := ⟨e1.trans h.box, h.map.same e2, h.good, h.few⟩

set_option maxHeartbeats 1000000 in
set_option maxRecDepth 100000 in
/-- Tree.Add. -/
theorem add_c (s : Nat → Addr) (q b : Nat) (T : Kin) (x p : Int) (w : World) (hs : Sent s w) (h : TreeAt w q b T) (h0 : -9223372036854775808 ≤ x) (h1 : x ≤ 9223372036854775807) (p0 : -9223372036854775808 ≤ p) (p1 : p ≤ 9223372036854775807) :
    Calls Tryd.prog 12 #[.pointer (some ⟨q, 0, none⟩), .int .i64 x, .int .i64 p] w fun e w' => e = .returned (errV s (addErr T x p)) ∧ TreeAt w' q b (added T x p) ∧ w.grownBy w' (some b) := by
  have ck := known_c q b w h.box
  have cx := has_c b T x w h.map h0 h1
  have cp := has_c b T p w h.map p0 p1
  obtain ⟨D, hown, hme⟩ := h.map
  have e0 := hs.cell 0 (by omega)
  have e4 := hs.cell 4 (by omega)
  have e5 := hs.cell 5 (by omega)
  have e6 := hs.cell 6 (by omega)
  simp only [gnum, List.getD_cons_zero, List.getD_cons_succ] at e0 e4 e5 e6
  have hk := keyOf_int_mk (P := Tryd.prog) Tryd.underlying3 (wf64 h0 h1)
  have hsize := hme.size
  by_cases hr : x < 1 ∨ 999 < x
  · have ha : addErr T x p = 1 := by unfold addErr; rw [if_pos hr]
    have hA : added T x p = T := by unfold added; rw [ha]; rfl
    rw [ha, hA]
    have H := Lib.hid h
    clear cx cp h hown hme hs
    rcases hr with hr | hr
    · have c1 : decide (x < 1) = true := decide_eq_true hr
      go_enter Tryd.func12, Tryd.ntmps12
      go_wp2_with (go_at_call 28; refine ck.mono ?_; rintro e w ⟨rfl, rfl⟩)
      go_ret
      exact ⟨rfl, H.out, World.grownBy.refl _ _⟩
    · have c1 : ¬ x < 1 := by omega
      go_enter Tryd.func12, Tryd.ntmps12
      go_wp2_with (go_at_call 28; refine ck.mono ?_; rintro e w ⟨rfl, rfl⟩)
      go_ret
      exact ⟨rfl, H.out, World.grownBy.refl _ _⟩
  · have c1 : ¬ x < 1 := by omega
    have c2 : ¬ 999 < x := by omega
    cases hx : (up T x).isSome with
    | true =>
      have ha : addErr T x p = 6 := by unfold addErr; rw [if_neg hr, if_pos hx]
      have hA : added T x p = T := by unfold added; rw [ha]; rfl
      rw [ha, hA]
      rw [hx] at cx
      have H := Lib.hid h
      clear cp h hown hme hs hx
      go_enter Tryd.func12, Tryd.ntmps12
      go_wp2_with (first
        | (go_at_call 28; refine ck.mono ?_; rintro e w ⟨rfl, rfl⟩)
        | (go_at_call 29; refine cx.mono ?_; rintro e w ⟨rfl, rfl⟩))
      go_ret
      exact ⟨rfl, H.out, World.grownBy.refl _ _⟩
    | false =>
      rw [hx] at cx
      cases hp : (up T p).isSome with
      | false =>
        have ha : addErr T x p = 5 := by unfold addErr; rw [if_neg hr, if_neg (by rw [hx]; simp), if_pos (by simpa using hp)]
        have hA : added T x p = T := by unfold added; rw [ha]; rfl
        rw [ha, hA]
        rw [hp] at cp
        have H := Lib.hid h
        have tok : True := trivial
        clear h hown hme hs hx hp
        go_enter Tryd.func12, Tryd.ntmps12
        go_wp2_with (first
          | (go_at_call 28; refine ck.mono ?_; rintro e w ⟨rfl, rfl⟩)
          | (go_at_call 29; have _t := tok; refine cx.mono ?_; rintro e w ⟨rfl, rfl⟩; clear tok)
          | (go_at_call 29; refine cp.mono ?_; rintro e w ⟨rfl, rfl⟩))
        go_ret
        exact ⟨rfl, H.out, World.grownBy.refl _ _⟩
      | true =>
        rw [hp] at cp
        by_cases hl : 16 ≤ T.length
        · have ha : addErr T x p = 7 := by unfold addErr; rw [if_neg hr, if_neg (by rw [hx]; simp), if_neg (by simpa [Option.isSome_iff_ne_none] using hp), if_pos hl]
          have hA : added T x p = T := by unfold added; rw [ha]; rfl
          rw [ha, hA]
          have H := Lib.hid h
          have hl' : decide ((16 : Int) ≤ (Maps.size D : Int)) = true := decide_eq_true (by omega)
          have tok : True := trivial
          clear h hme hs hx hp hl hsize
          go_enter Tryd.func12, Tryd.ntmps12
          go_wp2_with (first
            | (go_at_call 28; refine ck.mono ?_; rintro e w ⟨rfl, rfl⟩)
            | (go_at_call 29; have _t := tok; refine cx.mono ?_; rintro e w ⟨rfl, rfl⟩; clear tok)
            | (go_at_call 29; refine cp.mono ?_; rintro e w ⟨rfl, rfl⟩)
            | (at_len; refine wpList_len_own _ rfl _ 49 rfl 3 3 Tryd.underlying49 _ b T.length D rfl hown ?_))
          go_ret
          exact ⟨rfl, H.out, World.grownBy.refl _ _⟩
        · have hun : up T x = none := by cases e : up T x with | none => rfl | some y => rw [e] at hx; cases hx
          have ha : addErr T x p = 0 := by unfold addErr; rw [if_neg hr, if_neg (by rw [hx]; simp), if_neg (by simpa [Option.isSome_iff_ne_none] using hp), if_neg hl]
          have hA : added T x p = (x, p) :: T := by unfold added; rw [if_pos ha]
          have hg : Good ((x, p) :: T) := .add h.good hun (by omega) (by omega) hp
          rw [ha, hA]
          have hM : Hid (Means (D.put (.int .i64 x) (.lit (.int .i64 p))) ((x, p) :: T)) := Lib.hid (hme.put (hown.tidy lawI) hun)
          have H : Hid (TreeAt w q b T ∧ Good ((x, p) :: T) ∧ ¬ 16 ≤ T.length) := Lib.hid ⟨h, hg, hl⟩
          have hl' : decide ((16 : Int) ≤ (Maps.size D : Int)) = false := decide_eq_false (by omega)
          have hml : T.length < maxLen := by unfold maxLen; omega
          have tok : True := trivial
          have hval := plainElem_int (H := Unit) (P := Tryd.prog) Tryd.underlying3 (wf64 p0 p1)
          clear h hme hs hx hp hl hsize hg hun
          go_enter Tryd.func12, Tryd.ntmps12
          go_wp2_with (first
            | (go_at_call 28; refine ck.mono ?_; rintro e w ⟨rfl, rfl⟩)
            | (go_at_call 29; have _t := tok; refine cx.mono ?_; rintro e w ⟨rfl, rfl⟩; clear tok)
            | (go_at_call 29; refine cp.mono ?_; rintro e w ⟨rfl, rfl⟩)
            | (at_len; refine wpList_len_own _ rfl _ 49 rfl 3 3 Tryd.underlying49 _ b T.length D rfl hown ?_)
            | (at_mapUpdate; refine wpList_mapUpdate_own _ rfl _ _ _ 49 rfl 3 3 lawI Tryd.underlying49 _ b T.length D rfl hown hml _ _ _ rfl rfl hk _ [] hval ?_; intro w1 hown1 hgrow1))
          go_ret
          refine ⟨rfl, H.out.1.step hgrow1 ⟨_, hown1, hM.out⟩ H.out.2.1 (by have := H.out.2.2; simp; omega) H.out.1.ne, hgrow1⟩

/-- A row that a call has made has its length for the length of what it has. -/
theorem IOwn.sl {w : World} {base : Nat} {v : Value} {L : List Int} (h : IOwn w base v L) : ∃ a c, v = .slice a L.length c := by
  rcases h.shape with ⟨rfl, rfl⟩ | ⟨g, c, rfl, _⟩ <;> exact ⟨_, _, rfl⟩

set_option maxHeartbeats 1000000 in
set_option maxRecDepth 100000 in
/-- Tree.Drop. -/
theorem drop_c (s : Nat → Addr) (q b : Nat) (T : Kin) (x : Int) (w : World) (hs : Sent s w) (h : TreeAt w q b T) (h0 : -9223372036854775808 ≤ x) (h1 : x ≤ 9223372036854775807) :
    Calls Tryd.prog 10 #[.pointer (some ⟨q, 0, none⟩), .int .i64 x] w fun e w' => e = .returned (errV s (dropErr T x)) ∧ TreeAt w' q b (dropped T x) ∧ Chg b b w w' := by
  have ck := known_c q b w h.box
  have cx := has_c b T x w h.map h0 h1
  have cc := children_c b T x w h.map h.good h.few h0 h1
  have e4 := hs.cell 4 (by omega)
  have e12 := hs.cell 12 (by omega)
  simp only [gnum, List.getD_cons_zero, List.getD_cons_succ] at e4 e12
  have hk := keyOf_int_mk (P := Tryd.prog) Tryd.underlying3 (wf64 h0 h1)
  cases hx : (up T x).isSome with
  | false =>
    have ha : dropErr T x = 5 := by unfold dropErr; rw [if_pos (by simpa using hx)]
    have hA : dropped T x = T := by unfold dropped; rw [ha]; rfl
    rw [ha, hA]
    rw [hx] at cx
    have H := Lib.hid h
    clear h hs hx cc
    go_enter Tryd.func10, Tryd.ntmps10
    go_wp2_with (first
      | (go_at_call 28; refine ck.mono ?_; rintro e w ⟨rfl, rfl⟩)
      | (go_at_call 29; refine cx.mono ?_; rintro e w ⟨rfl, rfl⟩))
    go_ret
    exact ⟨rfl, H.out, Chg.refl _ _ _⟩
  | true =>
    rw [hx] at cx
    have hch : childs T x = kids T x := by unfold childs; rw [if_pos hx]
    rw [hch] at cc
    have hn : ¬ (up T x).isNone = true := by simpa [Option.isSome_iff_ne_none] using hx
    by_cases h1x : x = 1
    · have ha : dropErr T x = 13 := by unfold dropErr; rw [if_neg hn, if_pos (.inl h1x)]
      have hA : dropped T x = T := by unfold dropped; rw [ha]; rfl
      rw [ha, hA]
      have H := Lib.hid h
      subst h1x
      clear h hs hx cc hn hch
      go_enter Tryd.func10, Tryd.ntmps10
      go_wp2_with (first
        | (go_at_call 28; refine ck.mono ?_; rintro e w ⟨rfl, rfl⟩)
        | (go_at_call 29; refine cx.mono ?_; rintro e w ⟨rfl, rfl⟩))
      go_ret
      exact ⟨rfl, H.out, Chg.refl _ _ _⟩
    · have hx1 : (x == 1) = false := by rw [beq_eq_false_iff_ne]; exact h1x
      cases hK : kids T x with
      | cons k0 ks =>
        have ha : dropErr T x = 13 := by unfold dropErr; rw [if_neg hn, if_pos (.inr (by rw [hK]; simp))]
        have hA : dropped T x = T := by unfold dropped; rw [ha]; rfl
        rw [ha, hA]
        rw [hK] at cc
        obtain ⟨L, hL⟩ : ∃ L, k0 :: ks = L := ⟨_, rfl⟩
        have hlen : 0 < L.length := by rw [← hL]; simp
        rw [hL] at cc
        have hg1 : decide ((0 : Int) < (L.length : Int)) = true := decide_eq_true (by omega)
        have H := Lib.hid h
        have HS := Lib.hid hs
        clear h hs hx hn hch hL hK e4 e12
        go_enter Tryd.func10, Tryd.ntmps10
        go_wp2_with (first
          | (go_at_call 28; refine ck.mono ?_; rintro e w ⟨rfl, rfl⟩)
          | (go_at_call 29; refine cx.mono ?_; rintro e w ⟨rfl, rfl⟩)
          | (go_at_call 30; refine cc.mono ?_; rintro e w1 ⟨v, rfl, ho, hb⟩; obtain ⟨a, c, rfl⟩ := ho.sl; have e12 := (HS.out.below hb (Nat.le_refl _)).cell 12 (by omega); simp only [gnum, List.getD_cons_zero, List.getD_cons_succ] at e12))
        go_ret
        exact ⟨rfl, H.out.on hb (Nat.le_refl _), Chg.of_below hb⟩
      | nil =>
        have ha : dropErr T x = 0 := by unfold dropErr; rw [if_neg hn, if_neg (by rintro (e | e); exact h1x e; exact e hK)]
        have hA : dropped T x = rid T x := by unfold dropped; rw [if_pos ha]
        rw [ha, hA]
        rw [hK] at cc
        have H : Hid (TreeAt w q b T ∧ Good (rid T x) ∧ (rid T x).length + 1 = T.length) := Lib.hid ⟨h, h.good.struck h1x (h.good.no_kid hK), h.good.struck_len hx⟩
        obtain ⟨D, hown, hme⟩ := h.map
        have HM : Hid (Means (D.del (.int .i64 x)) (rid T x)) := Lib.hid (hme.del (hown.tidy lawI) h.good hx)
        clear h hs hx hn hch hK hme e4 e12
        go_enter Tryd.func10, Tryd.ntmps10
        go_wp2_with (first
          | (go_at_call 28; refine ck.mono ?_; rintro e w ⟨rfl, rfl⟩)
          | (go_at_call 29; refine cx.mono ?_; rintro e w ⟨rfl, rfl⟩)
          | (go_at_call 30; refine cc.mono ?_; rintro e w1 ⟨v, rfl, ho, hb⟩; obtain ⟨a, c, rfl⟩ := ho.sl; have hown1 : w1.ownsMap Tryd.prog 3 (plainElem Tryd.prog 3) b T.length D := hown.kept (row := none) ⟨hb.os, hb.tape, hb.output, hb.size, fun k hk _ => hb.block k hk⟩ (by simp))
          | (at_delete; refine wpList_delete_own _ rfl _ _ 49 3 rfl 3 lawI Tryd.underlying49 _ b T.length D rfl hown1 _ _ rfl hk ?_; intro w2 hown2 hturn2))
        go_ret
        have hT1 := H.out.1.on hb (Nat.le_refl _)
        have hgr := hturn2.grown
        refine ⟨rfl, hT1.step hgr ⟨_, own_fit hown2 (Nat.le_of_eq HM.out.size), HM.out⟩ H.out.2.1 (by have := H.out.2.2; have := hT1.few; omega) hT1.ne, (Chg.of_below hb).grown hgr (fun k e => .inl (by cases e; rfl))⟩

/-! ### of no tree -/
theorem add_nil (s : Nat → Addr) (x p : Int) (w : World) (hs : Sent s w) : Calls Tryd.prog 12 #[.pointer none, .int .i64 x, .int .i64 p] w fun e w' => e = .returned (errV s 2) ∧ w' = w := by
  have ck := known_nil w
  have e1 := hs.cell 1 (by omega)
  simp only [gnum, List.getD_cons_zero, List.getD_cons_succ] at e1
  go_enter Tryd.func12, Tryd.ntmps12
  go_wp2_with (go_at_call 28; refine ck.mono ?_; rintro e w ⟨rfl, rfl⟩)
  go_ret
  exact ⟨rfl, rfl⟩
theorem drop_nil (s : Nat → Addr) (x : Int) (w : World) (hs : Sent s w) : Calls Tryd.prog 10 #[.pointer none, .int .i64 x] w fun e w' => e = .returned (errV s 2) ∧ w' = w := by
  have ck := known_nil w
  have e1 := hs.cell 1 (by omega)
  simp only [gnum, List.getD_cons_zero, List.getD_cons_succ] at e1
  go_enter Tryd.func10, Tryd.ntmps10
  go_wp2_with (go_at_call 28; refine ck.mono ?_; rintro e w ⟨rfl, rfl⟩)
  go_ret
  exact ⟨rfl, rfl⟩
set_option maxRecDepth 100000 in
theorem path_nil (x : Int) (w : World) (h0 : -9223372036854775808 ≤ x) (h1 : x ≤ 9223372036854775807) : Calls Tryd.prog 21 #[.pointer none, .int .i64 x] w fun e w' => e = .returned (.slice none 0 0) ∧ w' = w := by
  have ck := known_nil w
  have ch := has_nil x w h0 h1
  have cr : Calls Tryd.prog 39 #[.slice none 0 0] w fun e w' => e = .returned (.tuple #[]) ∧ w' = w := Any.slices_Reverse_int_empty lay112 none 0 w
  have cp : Calls Tryd.prog 32 #[.map none, .int .i64 x] w fun e w' => e = .returned (.slice none 0 0) ∧ w' = w := by
    go_enter Tryd.func32, Tryd.ntmps32
    go_wp2_with fail
    refine wp_loop_rounds 1 ?_; rw [rounds_succ]
    go_wp2_with (first
      | (go_at_call 29; refine ch.mono ?_; rintro e w ⟨rfl, rfl⟩)
      | (go_at_call 39; refine cr.mono ?_; rintro e w ⟨rfl, rfl⟩))
    go_ret
    exact ⟨rfl, rfl⟩
  go_enter Tryd.func21, Tryd.ntmps21
  go_wp2_with (first
    | (go_at_call 28; refine ck.mono ?_; rintro e w ⟨rfl, rfl⟩)
    | (go_at_call 32; refine cp.mono ?_; rintro e w ⟨rfl, rfl⟩))
  go_ret
  exact ⟨rfl, rfl⟩
theorem children_nil (x : Int) (w : World) (h0 : -9223372036854775808 ≤ x) (h1 : x ≤ 9223372036854775807) : Calls Tryd.prog 22 #[.pointer none, .int .i64 x] w fun e w' => e = .returned (.slice none 0 0) ∧ w' = w := by
  have ck := known_nil w
  have ch := has_nil x w h0 h1
  have cp : Calls Tryd.prog 30 #[.map none, .int .i64 x] w fun e w' => e = .returned (.slice none 0 0) ∧ w' = w := by
    go_enter Tryd.func30, Tryd.ntmps30
    go_wp2_with (go_at_call 29; refine ch.mono ?_; rintro e w ⟨rfl, rfl⟩)
    go_ret
    exact ⟨rfl, rfl⟩
  go_enter Tryd.func22, Tryd.ntmps22
  go_wp2_with (first
    | (go_at_call 28; refine ck.mono ?_; rintro e w ⟨rfl, rfl⟩)
    | (go_at_call 30; refine cp.mono ?_; rintro e w ⟨rfl, rfl⟩))
  go_ret
  exact ⟨rfl, rfl⟩
theorem below_nil (x y : Int) (w : World) (h0 : -9223372036854775808 ≤ x) (h1 : x ≤ 9223372036854775807) : Calls Tryd.prog 18 #[.pointer none, .int .i64 x, .int .i64 y] w fun e w' => e = .returned (.bool false) ∧ w' = w := by
  have cp := path_nil x w h0 h1
  have cc : Calls Tryd.prog 31 #[.slice none 0 0, .int .i64 y] w fun e w' => e = .returned (.bool false) ∧ w' = w := Any.slices_Contains_int_empty lay107 none 0 y w
  go_enter Tryd.func18, Tryd.ntmps18
  go_wp2_with (first
    | (go_at_call 21; refine cp.mono ?_; rintro e w ⟨rfl, rfl⟩)
    | (go_at_call 31; refine cc.mono ?_; rintro e w ⟨rfl, rfl⟩))
  go_ret
  exact ⟨rfl, rfl⟩
theorem depth_nil (x : Int) (w : World) (h0 : -9223372036854775808 ≤ x) (h1 : x ≤ 9223372036854775807) : Calls Tryd.prog 24 #[.pointer none, .int .i64 x] w fun e w' => e = .returned (.int .i64 0) ∧ w' = w := by
  have cp := path_nil x w h0 h1
  go_enter Tryd.func24, Tryd.ntmps24
  go_wp2_with (go_at_call 21; refine cp.mono ?_; rintro e w ⟨rfl, rfl⟩)
  go_ret
  exact ⟨rfl, rfl⟩
theorem sorted_nil (w : World) :
    Calls Tryd.prog 33 #[.func (.func 41) #[] #[.pointer (some ⟨w.heap.size, 0, none⟩)]] (w.alloc (.cells #[.map none] 49)) fun e w' =>
      e = .returned (.slice none 0 0) ∧ Below (w.heap.size + 1) (w.alloc (.cells #[.map none] 49)) w' := by
  have hseq : SeqGives Fence.wide 2 Tryd.prog 41 #[.pointer (some ⟨w.heap.size, 0, none⟩)] encZ (fun ss : List Int => ss = []) 0 (w.alloc (.cells #[.map none] 49)) :=
    AnyZI.keys_gives_nil (ρ := renz) { layz7 with } Fence.wide _ trivial rfl w.heap.size _ (by simp) (by simp)
  have cS := AnyZI.sorted_in layz6 Fence.wide 5 trivial trivial trivial trivial rfl (by omega) (sortsI _) (enters_of Tryd.func37 (by kernel_rfl) rfl) 41 #[.pointer (some ⟨w.heap.size, 0, none⟩)] trivial (enters_of Tryd.func41 (by kernel_rfl) rfl) _ 0 (Nat.zero_le _) (by omega) _ hseq
  refine (callsIn_wide.1 cS).mono ?_
  rintro e w' ⟨v, ss, rfl, rfl, hrow, hn, hb⟩
  have e1 : (w.alloc (.cells #[.map none] 49)).heap.size = w.heap.size + 1 := by simp
  rw [e1] at hb
  exact ⟨by rw [hn.2 rfl], hb⟩
theorem all_nil (w : World) : Calls Tryd.prog 25 #[.pointer none] w fun e w' => e = .returned (.slice none 0 0) ∧ Below w.heap.size w w' := by
  have ck := known_nil w
  have ckk := keys_c none w
  have cs := sorted_nil w
  go_enter Tryd.func25, Tryd.ntmps25
  go_wp2_with (first
    | (go_at_call 28; refine ck.mono ?_; rintro e w ⟨rfl, rfl⟩)
    | (go_at_call 34; refine ckk.mono ?_; rintro e w' ⟨rfl, rfl⟩)
    | (go_at_call 33; refine cs.mono ?_; rintro e w' ⟨rfl, hb⟩))
  go_ret
  exact ⟨rfl, ((Below.refl _ w).alloc (Nat.le_refl _) _).trans (hb.mono (Nat.le_succ _))⟩
end Go.Proofs.YtaibmdjcppeopaaDoor
