/- slices.Insert of one at rows of a struct, by contract. Conditions: the row is one that calls have made; what is inserted lies in a block of its own. -/
import Derived.Test.YtaenpajmgenjhaaDoorSlMc
import Derived.Shelf.Spec.SlicesInsert
import Derived.Laws.NewBlocks
namespace Go.Proofs.YtaenpajmgenjhaaDoor
open Go Go.RowKit Go.Shelf Go.Sort Go.Lib

theorem cells_oneMc {w : World} {g : Nat} {x : Mc} (h : w.heap[g]? = some (.cells #[.int .i64 x.id, .int .i64 x.cell, .int .i64 x.has.a, .int .i64 x.has.b, .int .i64 x.has.c, .int .i64 x.has.d, .int .i64 x.st] 45 (0, 0))) : ∀ j u, (cellsE encMc [x])[j]? = some u → w.cell? ⟨g, 0 + j, none⟩ = some u := fun j u hu => by
  rw [Nat.zero_add, cell_of_heap h, ← hu, cellsE_one]
  show (encMc.enc x).toArray[j]? = _
  exact List.getElem?_toArray
theorem lies_oneMc {w : World} {g : Nat} {x : Mc} (h : w.heap[g]? = some (.cells #[.int .i64 x.id, .int .i64 x.cell, .int .i64 x.has.a, .int .i64 x.has.b, .int .i64 x.has.c, .int .i64 x.has.d, .int .i64 x.st] 45 (0, 0))) : LiesE encMc w (.slice (some ⟨g, 0, none⟩) 1 1) [x] :=
  .inr ⟨⟨g, 0, none⟩, 1, rfl, Nat.le_refl _, fun j u hu => by rw [Addr.add_lit]; exact cells_oneMc h j u hu⟩

set_option maxRecDepth 100000 in
set_option maxHeartbeats 4000000 in
/-- slices.Insert of one at the end. -/
theorem insert_endMc (base : Nat) (v : Value) (L : List Mc) (w : World) (vb : Nat) (x : Mc) (h : OwnE encMc 45 w base v L) (hx : w.heap[vb]? = some (.cells #[.int .i64 x.id, .int .i64 x.cell, .int .i64 x.has.a, .int .i64 x.has.b, .int .i64 x.has.c, .int .i64 x.has.d, .int .i64 x.st] 45 (0, 0))) (hn : L.length ≤ 1000000) (hbase : base ≤ w.heap.size) :
    Calls Tryd.prog 26 #[v, .int .i64 (L.length : Nat), .slice (some ⟨vb, 0, none⟩) 1 1] w fun e w' => ∃ v', e = .returned v' ∧ OwnE encMc 45 w' base v' (L ++ [x]) ∧ w.grownBy w' v.ownBlock ∧ (v'.ownBlock = v.ownBlock ∨ v'.ownBlock = some w.heap.size) := by
  obtain ⟨i0, hi0, hz0, hz1, hz2⟩ := info_parts Tryd.infoSlMc
  obtain ⟨A, cap, rfl⟩ := h.form
  have A1 := Lib.hid h
  have A2 := Lib.hid (lies_oneMc hx)
  have A3 : Hid (L.length + [x].length ≤ maxLen) := by simp only [Hid, List.length_cons, List.length_nil, maxLen]; omega
  have A4 : Hid ((L.length + [x].length) * 56 ≤ 140737488355328) := by simp only [Hid, List.length_cons, List.length_nil]; omega
  have A5 : Hid (base ≤ w.heap.size) := hbase
  have hcap : L.length ≤ cap ∧ (cap : Int) ≤ 9223372036854775807 := by
    rcases h.2 with ⟨e, h0⟩ | ⟨g, cap', cur, e, _, _, r1, r2, _⟩
    · simp only [Value.slice.injEq] at e; omega
    · simp only [Value.slice.injEq] at e
      unfold maxLen at r2; omega
  have hs : ∀ W : World, ∃ X, (Instr.slice 51 (.slice A L.length cap) (some (.int .i64 (L.length : Int))) none none).run Tryd.prog W = .ok X W := fun W => by
    obtain ⟨X, hX, _⟩ := h.lies.from (P := Tryd.prog) (t := 51) (e := 45) Tryd.underlying51 Tryd.sizeSlMc .i64 _ L.length rfl (Nat.le_refl _)
    exact ⟨X, hX W⟩
  obtain ⟨X, hX⟩ := hs w
  have h11 : ((1 : Nat) : Int) = 1 := rfl
  clear h hx hbase hn hs
  go_enter Tryd.func26, Tryd.ntmps26
  go_wp2_with (at_builtin; refine wpList_append_E rfl _ _ 51 rfl i0 _ 56 Tryd.underlying51 hi0 hz0 hz1 hz2 rfl (by decide) rfl A1.out rfl A2.out A3.out A4.out A5.out ?_; intro v' w' hv hgr hown)
  go_ret
  exact ⟨_, rfl, hv, hgr, hown⟩

/-- What a row reads as when one is put in between. -/
theorem ins_cellsMc (L : List Mc) (x : Mc) (i : Nat) (hi : i ≤ L.length) (j : Nat) (u : Value) (hu : (cellsE encMc (L.take i ++ x :: L.drop i))[j]? = some u) :
    (j < i * 7 ∧ (cellsE encMc L)[j]? = some u) ∨ (i * 7 ≤ j ∧ j < i * 7 + 7 ∧ (encMc.enc x)[j - i * 7]? = some u) ∨ (i * 7 + 7 ≤ j ∧ j < (L.length + 1) * 7 ∧ (cellsE encMc (L.drop i))[j - (i * 7 + 7)]? = some u) := by
  have hlen : j < (L.length + 1) * 7 := by
    have := (List.getElem?_eq_some_iff.1 hu).1
    rw [cellsE_len, List.length_append, List.length_cons, List.length_take, List.length_drop] at this
    omega
  rw [← cellsE_app, cellsE_cons] at hu
  have l1 : (cellsE encMc (L.take i)).length = i * 7 := by rw [cellsE_len, List.length_take, Nat.min_eq_left hi]
  by_cases h1 : j < i * 7
  · rw [List.getElem?_append_left (by omega), ← cellsE_take, List.getElem?_take_of_lt h1] at hu
    exact .inl ⟨h1, hu⟩
  · rw [List.getElem?_append_right (by omega), l1] at hu
    by_cases h2 : j < i * 7 + 7
    · rw [List.getElem?_append_left (by rw [encMc.len]; omega)] at hu
      exact .inr (.inl ⟨by omega, h2, hu⟩)
    · rw [List.getElem?_append_right (by rw [encMc.len]; omega), encMc.len] at hu
      exact .inr (.inr ⟨by omega, hlen, by rw [← hu]; congr 1 <;> omega⟩)

set_option maxRecDepth 100000 in
set_option maxHeartbeats 4000000 in
/-- slices.Insert of one ahead of the end, where there is room. -/
theorem insert_roomMc (base g cap i : Nat) (L : List Mc) (w : World) (vb : Nat) (x : Mc) (h : OwnE encMc 45 w base (.slice (some ⟨g, 0, none⟩) L.length cap) L) (hx : w.heap[vb]? = some (.cells #[.int .i64 x.id, .int .i64 x.cell, .int .i64 x.has.a, .int .i64 x.has.b, .int .i64 x.has.c, .int .i64 x.has.d, .int .i64 x.st] 45 (0, 0))) (hvb : vb ≠ g) (hi : i < L.length) (hroom : L.length + 1 ≤ cap) :
    Calls Tryd.prog 26 #[.slice (some ⟨g, 0, none⟩) L.length cap, .int .i64 (i : Nat), .slice (some ⟨vb, 0, none⟩) 1 1] w fun e w' => e = .returned (.slice (some ⟨g, 0, none⟩) (L.length + 1) cap) ∧ OwnE encMc 45 w' base (.slice (some ⟨g, 0, none⟩) (L.length + 1) cap) (L.take i ++ x :: L.drop i) ∧ w.grownBy w' (some g) := by
  obtain ⟨cur, hh, hb, _, hc, hm, hsz, _⟩ := ownE_raw h
  have hm' : cap ≤ 9223372036854775807 := by unfold maxLen at hm; omega
  obtain ⟨n, hn⟩ : ∃ n, n = L.length := ⟨_, rfl⟩
  have hz2 : ¬ ((i : Int) = (n : Int)) := by omega
  have hov : ∀ lb cb, (callFunc 42 #[.slice (some ⟨vb, 0, none⟩) 1 1, .slice (some ⟨g, (i + 1) * 7, none⟩) lb cb]).run Tryd.prog w = .ok (.value (.bool false)) w := fun lb cb => by
    rw [run_callFunc_extern Tryd.func42 (by kernel_rfl) (by kernel_rfl) (by kernel_rfl) (e := Extern.SlicesOverlaps.overlaps #[51, 51] #[4]) (by kernel_rfl),
      Lib.run_overlaps_apart w 51 4 45 Tryd.underlying51 7 Tryd.sizeSlMc ⟨vb, 0, none⟩ ⟨g, (i + 1) * 7, none⟩ 1 1 lb cb hvb 45 45 7 cur.size (by simp [World.shape?, hx]) (by simp [World.shape?, hh]) (by rw [hsz]; omega) (frozen_of_heap hx 0) (frozen_of_heap hx _)]
    rfl
  have hsl : (Tryd.prog.info? 45).map (·.size) = some 7 := by kernel_rfl
  have hdl : (cellsE encMc (L.drop i)).length = (n - i) * 7 := by rw [cellsE_len, List.length_drop, hn]
  have hvl : (encMc.enc x).length = 7 := encMc.len x
  have hcp1 : ∀ ty dc sc, (Builtin.copy_ #[51, 51] ty #[.slice (some ⟨g, (i + 1) * 7, none⟩) (n - i) dc, .slice (some ⟨g, i * 7, none⟩) (n + 1 - i) sc]).run Tryd.prog w.drew = .ok (goInt (Nat.min (n + 1 - i) (n - i))) (w.drew.setCells g ((i + 1) * 7) (cellsE encMc (L.drop i))) := fun ty dc sc =>
    run_copy_K w.drew _ _ ty 45 7 g ((i + 1) * 7) (n - i) dc ⟨g, i * 7, none⟩ (n + 1 - i) sc (cellsE encMc (L.drop i)) Tryd.underlying51 hsl (by rw [hdl, show Nat.min (n + 1 - i) (n - i) = n - i from Nat.min_eq_right (by omega)])
      (fun j u hj => by
        have hjl := (List.getElem?_eq_some_iff.1 hj).1
        rw [hdl] at hjl
        rw [← cellsE_drop, List.getElem?_drop] at hj
        rw [Addr.add_lit]
        exact (own_cellE' h _ (by omega)).trans hj)
      (fun j hj => by rw [hdl] at hj; exact (own_room h _ (by omega)).1) (fun j hj => by rw [hdl] at hj; exact (own_room h _ (by omega)).2) (cellsE_oneCell _ _)
  obtain ⟨W1, hW1⟩ : ∃ W1, W1 = w.drew.setCells g ((i + 1) * 7) (cellsE encMc (L.drop i)) := ⟨_, rfl⟩
  obtain ⟨c1, hh1, s1⟩ := heap_setCells_row g 45 (cellsE encMc (L.drop i)) ((i + 1) * 7) w.drew _ hh
  rw [← hW1] at hcp1 hh1
  have hx1 : W1.heap[vb]? = some (.cells #[.int .i64 x.id, .int .i64 x.cell, .int .i64 x.has.a, .int .i64 x.has.b, .int .i64 x.has.c, .int .i64 x.has.d, .int .i64 x.st] 45 (0, 0)) := by rw [hW1, heap_setCells_off g _ _ _ vb hvb]; exact hx
  have hcp2 : ∀ (W : World), (∀ x, W.cell? x = W1.cell? x) → (∀ x, W.frozen? x = W1.frozen? x) → ∀ ty dc, (Builtin.copy_ #[51, 51] ty #[.slice (some ⟨g, i * 7, none⟩) (n + 1 - i) dc, .slice (some ⟨vb, 0, none⟩) 1 1]).run Tryd.prog W = .ok (goInt (Nat.min 1 (n + 1 - i))) (W.setCells g (i * 7) (encMc.enc x)) := fun W hWc hWf ty dc =>
    run_copy_K W _ _ ty 45 7 g (i * 7) (n + 1 - i) dc ⟨vb, 0, none⟩ 1 1 (encMc.enc x) Tryd.underlying51 hsl (by rw [hvl]; simp only [Nat.min_def]; split <;> omega)
      (fun j u hj => by rw [Addr.add_lit, hWc]; exact cells_oneMc hx1 j u (by rw [cellsE_one]; exact hj))
      (fun j hj => by rw [hWc, cell_of_heap hh1, Array.getElem?_eq_getElem (by rw [s1, hsz]; omega)]; rfl) (fun j hj => by rw [hWf]; exact frozen_of_heap hh1 _) (encMc.one x)
  have END : OwnE encMc 45 (W1.setCells g (i * 7) (encMc.enc x)) base (.slice (some ⟨g, 0, none⟩) (n + 1) cap) (L.take i ++ x :: L.drop i) ∧ w.grownBy (W1.setCells g (i * 7) (encMc.enc x)) (some g) := by
    obtain ⟨c2, hh2, s2⟩ := heap_setCells_row g 45 (encMc.enc x) (i * 7) W1 _ hh1
    have hl : (L.take i ++ x :: L.drop i).length = n + 1 := by rw [List.length_append, List.length_cons, List.length_take, List.length_drop]; omega
    have key := ownE_of (E := encMc) (M := L.take i ++ x :: L.drop i) (base := base) (cap := cap) hh2 hb (by omega) hm (by rw [s2, s1, hsz]) (fun j u hu => ?_)
    · rw [hl] at key
      refine ⟨key, grownBy_setCells g _ _ _ _ ?_⟩
      rw [hW1]
      exact grownBy_setCells g _ _ _ _ ⟨rfl, rfl, rfl, Nat.le_refl _, fun _ _ _ => rfl⟩
    · rcases ins_cellsMc L x i (by omega) j u hu with ⟨h1, h2⟩ | ⟨h1, h2, h3⟩ | ⟨h1, h2, h3⟩
      · rw [World.cell?_setCells_out g _ _ _ ⟨g, j, none⟩ (fun _ _ => .inl h1), hW1, World.cell?_setCells_out g _ _ _ ⟨g, j, none⟩ (fun _ _ => .inl (by show j < _; omega))]
        exact (own_cellE' h j (by omega)).trans h2
      · have k := World.cell?_setCells_in g (encMc.enc x) (i * 7) W1 (fun t ht => by rw [cell_of_heap hh1, Array.getElem?_eq_getElem (by rw [s1, hsz]; omega)]; rfl) (j - i * 7) (by omega)
        rw [show i * 7 + (j - i * 7) = j by omega] at k
        rw [k, ← h3, List.getElem?_eq_getElem (by omega)]
      · rw [World.cell?_setCells_out g _ _ _ ⟨g, j, none⟩ (fun _ _ => .inr (by show _ ≤ j; omega)), hW1]
        have hjl := (List.getElem?_eq_some_iff.1 h3).1
        have k := World.cell?_setCells_in g (cellsE encMc (L.drop i)) ((i + 1) * 7) w.drew (fun t ht => by rw [hdl] at ht; exact (own_room h _ (by omega)).1) (j - (i * 7 + 7)) hjl
        rw [show (i + 1) * 7 + (j - (i * 7 + 7)) = j by omega] at k
        rw [k, ← h3, List.getElem?_eq_getElem hjl]
  have END := Lib.hid END
  have mixed := layMc.mixed
  have hw1 : IntKind.i64.wrap ((i : Int) + 1) = (i : Int) + 1 := by rw [IntKind.wrap_i64]; omega
  have hb1 : (0 : Int) ≤ (i : Int) + 1 := by omega
  have hin : i ≤ n := by omega
  have htn : ((i : Int) + 1).toNat = i + 1 := by omega
  have hb2 : ¬ (cap = i + 1) := by omega
  have hb3 : (i : Int) ≤ (n : Int) + 1 := by omega
  have hb4 : ¬ (cap = i) := by omega
  have hb5 : n + 1 ≤ cap := by omega
  have hW1 := Lib.hid hW1
  rw [← hn]
  clear hn h hh hx hsz hdl hvl hh1 s1 hx1 hi hroom hc hm
  go_enter Tryd.func26, Tryd.ntmps26
  go_wp2_with (simp only [hov])
  go_region_law_o (refine step_copy_runI rfl _ _ 51 51 rfl (.slice (some ⟨g, (i + 1) * 7, none⟩) (n - i) (cap - (i + 1))) (.slice (some ⟨g, i * 7, none⟩) (n + 1 - i) (cap - i)) (by simp [Act.eval, Act.put]) (by simp [Act.eval, Act.put]) (hcp1 3 (cap - (i + 1)) (cap - i)) ?_)
  go_wp2_with fail
  go_ret
  have e := END.out
  rw [hW1.out] at e
  exact ⟨rfl, e.1, e.2⟩

set_option maxRecDepth 100000 in
set_option maxHeartbeats 4000000 in
/-- slices.Insert of one ahead of the end, where there is no room. -/
theorem insert_growMc (base g cap i : Nat) (L : List Mc) (w : World) (vb : Nat) (x : Mc) (h : OwnE encMc 45 w base (.slice (some ⟨g, 0, none⟩) L.length cap) L) (hx : w.heap[vb]? = some (.cells #[.int .i64 x.id, .int .i64 x.cell, .int .i64 x.has.a, .int .i64 x.has.b, .int .i64 x.has.c, .int .i64 x.has.d, .int .i64 x.st] 45 (0, 0))) (hbase : base ≤ w.heap.size) (hi : i < L.length) (hn6 : L.length ≤ 1000000) (hroom : cap < L.length + 1) :
    Calls Tryd.prog 26 #[.slice (some ⟨g, 0, none⟩) L.length cap, .int .i64 (i : Nat), .slice (some ⟨vb, 0, none⟩) 1 1] w fun e w' => ∃ c', e = .returned (.slice (some ⟨w.heap.size, 0, none⟩) (L.length + 1) c') ∧ OwnE encMc 45 w' base (.slice (some ⟨w.heap.size, 0, none⟩) (L.length + 1) c') (L.take i ++ x :: L.drop i) ∧ Below w.heap.size w w' := by
  obtain ⟨cur, hh, hb, _, hc, hm, hsz, _⟩ := ownE_raw h
  have hm' : cap ≤ 9223372036854775807 := by unfold maxLen at hm; omega
  obtain ⟨n, hn⟩ : ∃ n, n = L.length := ⟨_, rfl⟩
  have mixed := layMc.mixed
  obtain ⟨i0, hi0, hz0, hzs, hzb⟩ := info_parts Tryd.infoSlMc
  have hz2 : ¬ ((i : Int) = (n : Int)) := by omega
  have hz3 : (cap : Int) < (n : Int) + 1 := by omega
  have hsl : (Tryd.prog.info? 45).map (·.size) = some 7 := by kernel_rfl
  have hgw : g < w.heap.size := lt_of_block hh
  have hvw : vb < w.heap.size := lt_of_block hx
  have hkk : (n : Int) + 1 - (i : Int) = ((n + 1 - i : Nat) : Int) := by omega
  have hik : i + (n + 1 - i) = n + 1 := by omega
  have htl : (cellsE encMc (L.take i)).length = i * 7 := by rw [cellsE_len, List.length_take, Nat.min_eq_left (by omega)]
  have hold : (Builtin.firstCells i0.size i (.slice (some ⟨g, 0, none⟩) i cap)).run Tryd.prog w.drew = .ok (cellsE encMc (L.take i)).toArray w.drew := by
    rw [hzs]
    exact run_firstCells_some w.drew 7 i ⟨g, 0, none⟩ i cap (cellsE encMc (L.take i)) htl (fun j u hj => by
      have hjl := (List.getElem?_eq_some_iff.1 hj).1
      rw [htl] at hjl
      rw [Addr.add_lit, Nat.zero_add]
      rw [← cellsE_take, List.getElem?_take_of_lt hjl] at hj
      exact (own_cellE' h j (by omega)).trans hj)
  have hrz : ∀ ty, (Builtin.append_ #[51, 3] ty #[.slice (some ⟨g, 0, none⟩) i cap, .int .i64 ((n : Int) + 1 - (i : Int))]).run Tryd.prog w =
      .ok (.slice (some ⟨w.heap.size, 0, none⟩) (n + 1) (grownCap w (n + 1) cap 45)) (w.drew.alloc (.cells ((cellsE encMc (L.take i)).toArray ++ Builtin.zeroCells #[.int .i64 0, .int .i64 0, .int .i64 0, .int .i64 0, .int .i64 0, .int .i64 0, .int .i64 0] (n + 1 - i) ++ Builtin.zeroCells #[.int .i64 0, .int .i64 0, .int .i64 0, .int .i64 0, .int .i64 0, .int .i64 0, .int .i64 0] (grownCap w (n + 1) cap 45 - (n + 1))) 45)) := fun ty => by
    have k := Lib.run_append_grow_zeros w 51 3 ty 45 i0 _ .i64 .i64 Tryd.underlying51 Tryd.underlying3 hi0 hz0 (some ⟨g, 0, none⟩) i cap (cellsE encMc (L.take i)) hold (n + 1 - i) (by omega) (by rw [hzs]; omega) (by omega) (by omega) (by rw [hzb]; omega) (by rw [hzb, hik]; exact growslice_fits (old := cap) (need := n + 1) (by omega) (by omega))
    rw [hik] at k
    rw [hkk]
    exact k
  obtain ⟨G, hG⟩ : ∃ G, G = grownCap w (n + 1) cap 45 := ⟨_, rfl⟩
  obtain ⟨ROW, hROW⟩ : ∃ ROW : Array Value, ROW = (cellsE encMc (L.take i)).toArray ++ Builtin.zeroCells #[.int .i64 0, .int .i64 0, .int .i64 0, .int .i64 0, .int .i64 0, .int .i64 0, .int .i64 0] (n + 1 - i) ++ Builtin.zeroCells #[.int .i64 0, .int .i64 0, .int .i64 0, .int .i64 0, .int .i64 0, .int .i64 0, .int .i64 0] (G - (n + 1)) := ⟨_, rfl⟩
  rw [← hG] at hrz
  rw [← hROW] at hrz
  have hGn : n + 1 ≤ G := by rw [hG]; exact grownCap_ge w _ _ _
  have hGm : G ≤ maxLen := by
    have := grownCap_le_maxLen w (n + 1) cap 45 (by unfold maxLen; omega)
    rwa [← hG] at this
  have hG63 : G ≤ 9223372036854775807 := by unfold maxLen at hGm; omega
  have hRs : ROW.size = G * 7 := by
    rw [hROW]
    simp [Builtin.zeroCells, htl]
    omega
  have hRt : ∀ j u, (cellsE encMc (L.take i))[j]? = some u → ROW[j]? = some u := fun j u hj => by
    have hjl := (List.getElem?_eq_some_iff.1 hj).1
    rw [hROW, Array.append_assoc, Array.getElem?_append_left (by simpa using hjl)]
    simpa using hj
  clear hROW
  obtain ⟨NB, hNB⟩ : ∃ NB, NB = w.heap.size := ⟨_, rfl⟩
  have hvl : (encMc.enc x).length = 7 := encMc.len x
  have hdl : (cellsE encMc (L.drop i)).length = (n - i) * 7 := by rw [cellsE_len, List.length_drop, hn]
  rw [← hNB] at hrz
  obtain ⟨W1, hW1⟩ : ∃ W1, W1 = w.drew.alloc (.cells ROW 45) := ⟨_, rfl⟩
  rw [← hW1] at hrz
  have hh1 : W1.heap[NB]? = some (.cells ROW 45 (0, 0)) := by rw [hW1, hNB]; exact heap_alloc_new w.drew _
  have hW1b : Below w.heap.size w W1 := by rw [hW1]; exact (Below.refl _ _).drew.alloc (Nat.le_refl _) _
  have hx1 : W1.heap[vb]? = some (.cells #[.int .i64 x.id, .int .i64 x.cell, .int .i64 x.has.a, .int .i64 x.has.b, .int .i64 x.has.c, .int .i64 x.has.d, .int .i64 x.st] 45 (0, 0)) := (hW1b.block vb hvw).trans hx
  have O1 : OwnE encMc 45 W1 base (.slice (some ⟨g, 0, none⟩) L.length cap) L := h.on hW1b
  have hcpA : ∀ (W : World), W.heap = W1.heap → ∀ ty dc, (Builtin.copy_ #[51, 51] ty #[.slice (some ⟨NB, i * 7, none⟩) (n + 1 - i) dc, .slice (some ⟨vb, 0, none⟩) 1 1]).run Tryd.prog W = .ok (goInt (Nat.min 1 (n + 1 - i))) (W.setCells NB (i * 7) (encMc.enc x)) := fun W hWh ty dc =>
    have hWc : ∀ a, W.cell? a = W1.cell? a := fun a => by simp only [World.cell?, hWh]
    have hWf : ∀ a, W.frozen? a = W1.frozen? a := fun a => by simp only [World.frozen?, hWh]
    run_copy_K W _ _ ty 45 7 NB (i * 7) (n + 1 - i) dc ⟨vb, 0, none⟩ 1 1 (encMc.enc x) Tryd.underlying51 hsl (by rw [hvl, show Nat.min 1 (n + 1 - i) = 1 from Nat.min_eq_left (by omega)])
      (fun j u hj => by rw [Addr.add_lit, hWc]; exact cells_oneMc hx1 j u (by rw [cellsE_one]; exact hj))
      (fun j hj => by rw [hWc, cell_of_heap hh1, Array.getElem?_eq_getElem (by omega)]; rfl) (fun j hj => by rw [hWf]; exact frozen_of_heap hh1 _) (encMc.one x)
  obtain ⟨W2, hW2⟩ : ∃ W2, W2 = W1.setCells NB (i * 7) (encMc.enc x) := ⟨_, rfl⟩
  obtain ⟨c2, hh2', s2⟩ := heap_setCells_row NB 45 (encMc.enc x) (i * 7) W1 _ hh1
  have hh2 : W2.heap[NB]? = some (.cells c2 45 (0, 0)) := by rw [hW2]; exact hh2'
  have hgNB : g ≠ NB := by omega
  have O2 : OwnE encMc 45 W2 base (.slice (some ⟨g, 0, none⟩) L.length cap) L := O1.same fun k hk => by
    have : g = k := by simpa [Value.ownBlock] using hk
    subst this
    rw [hW2]; exact heap_setCells_off NB _ _ _ g hgNB
  have hcpB : ∀ (W : World), W.heap = W2.heap → ∀ ty dc sc, (Builtin.copy_ #[51, 51] ty #[.slice (some ⟨NB, (i + 1) * 7, none⟩) (n - i) dc, .slice (some ⟨g, i * 7, none⟩) (n - i) sc]).run Tryd.prog W = .ok (goInt (Nat.min (n - i) (n - i))) (W.setCells NB ((i + 1) * 7) (cellsE encMc (L.drop i))) := fun W hWh ty dc sc =>
    have hWc : ∀ a, W.cell? a = W2.cell? a := fun a => by simp only [World.cell?, hWh]
    have hWf : ∀ a, W.frozen? a = W2.frozen? a := fun a => by simp only [World.frozen?, hWh]
    run_copy_K W _ _ ty 45 7 NB ((i + 1) * 7) (n - i) dc ⟨g, i * 7, none⟩ (n - i) sc (cellsE encMc (L.drop i)) Tryd.underlying51 hsl (by rw [hdl, show Nat.min (n - i) (n - i) = n - i from Nat.min_eq_right (by omega)])
      (fun j u hj => by
        have hjl := (List.getElem?_eq_some_iff.1 hj).1
        rw [hdl] at hjl
        rw [← cellsE_drop, List.getElem?_drop] at hj
        rw [Addr.add_lit, hWc]
        exact (own_cellE' O2 _ (by omega)).trans hj)
      (fun j hj => by rw [hdl] at hj; rw [hWc, cell_of_heap hh2, Array.getElem?_eq_getElem (by omega)]; rfl) (fun j hj => by rw [hWf]; exact frozen_of_heap hh2 _) (cellsE_oneCell _ _)
  have END : ∀ W : World, W.heap = (W2.setCells NB ((i + 1) * 7) (cellsE encMc (L.drop i))).heap → OwnE encMc 45 W base (.slice (some ⟨NB, 0, none⟩) (n + 1) G) (L.take i ++ x :: L.drop i) := fun W hW => by
    obtain ⟨c3, hh3', s3⟩ := heap_setCells_row NB 45 (cellsE encMc (L.drop i)) ((i + 1) * 7) W2 _ hh2
    have hh3 : W.heap[NB]? = some (.cells c3 45 (0, 0)) := by rw [hW]; exact hh3'
    have hl : (L.take i ++ x :: L.drop i).length = n + 1 := by rw [List.length_append, List.length_cons, List.length_take, List.length_drop]; omega
    have hcW : ∀ a, W.cell? a = (W2.setCells NB ((i + 1) * 7) (cellsE encMc (L.drop i))).cell? a := fun a => by simp only [World.cell?, hW]
    have key := ownE_of (E := encMc) (M := L.take i ++ x :: L.drop i) (base := base) (cap := G) hh3 (by omega) (by omega) hGm (by rw [s3, s2, hRs]) (fun j u hu => ?_)
    · rwa [hl] at key
    · rw [hcW]
      rcases ins_cellsMc L x i (by omega) j u hu with ⟨h1, h2⟩ | ⟨h1, h2, h3⟩ | ⟨h1, h2, h3⟩
      · rw [World.cell?_setCells_out NB _ _ _ ⟨NB, j, none⟩ (fun _ _ => .inl (by show j < _; omega)), hW2, World.cell?_setCells_out NB _ _ _ ⟨NB, j, none⟩ (fun _ _ => .inl h1), cell_of_heap hh1]
        exact hRt j u (by rw [← cellsE_take, List.getElem?_take_of_lt h1]; exact h2)
      · rw [World.cell?_setCells_out NB _ _ _ ⟨NB, j, none⟩ (fun _ _ => .inl (by show j < _; omega)), hW2]
        have k := World.cell?_setCells_in NB (encMc.enc x) (i * 7) W1 (fun t ht => by rw [cell_of_heap hh1, Array.getElem?_eq_getElem (by omega)]; rfl) (j - i * 7) (by omega)
        rw [show i * 7 + (j - i * 7) = j by omega] at k
        rw [k, ← h3, List.getElem?_eq_getElem (by omega)]
      · have hjl := (List.getElem?_eq_some_iff.1 h3).1
        have k := World.cell?_setCells_in NB (cellsE encMc (L.drop i)) ((i + 1) * 7) W2 (fun t ht => by rw [hdl] at ht; rw [cell_of_heap hh2, Array.getElem?_eq_getElem (by omega)]; rfl) (j - (i * 7 + 7)) hjl
        rw [show (i + 1) * 7 + (j - (i * 7 + 7)) = j by omega] at k
        rw [k, ← h3, List.getElem?_eq_getElem hjl]
  have ENDB : ∀ W : World, W.os = w.os → W.tape = w.tape → W.output = w.output → W.heap = (W2.setCells NB ((i + 1) * 7) (cellsE encMc (L.drop i))).heap → Below w.heap.size w W := fun W h1 h2 h3 h4 =>
    have gb : W1.grownBy (W2.setCells NB ((i + 1) * 7) (cellsE encMc (L.drop i))) (some NB) := by
      rw [hW2]
      exact grownBy_setCells NB _ _ _ _ (grownBy_setCells NB _ _ _ _ ⟨rfl, rfl, rfl, Nat.le_refl _, fun _ _ _ => rfl⟩)
    ⟨h1, h2, h3, by rw [h4]; exact Nat.le_trans hW1b.size gb.size, fun k hk => by
      rw [h4, gb.block k (Nat.lt_of_lt_of_le hk hW1b.size) (fun e => by cases e; omega)]
      exact hW1b.block k hk⟩
  have END := Lib.hid END
  have ENDB := Lib.hid ENDB
  have hGi : ¬ (G = i) := by omega
  have hGim : ¬ (G = i + 1) := by omega
  have hci : ¬ (cap = i) := by omega
  have hw1 : IntKind.i64.wrap ((i : Int) + 1) = (i : Int) + 1 := by rw [IntKind.wrap_i64]; omega
  have hb1 : (0 : Int) ≤ (i : Int) + 1 := by omega
  have hin : i ≤ n := by omega
  have htn : ((i : Int) + 1).toNat = i + 1 := by omega
  have hb3 : (i : Int) ≤ (n : Int) := by omega
  have HNB := Lib.hid hNB
  have HRZ := Lib.hid hrz
  have hcA : ∀ ty dc, (Builtin.copy_ #[51, 51] ty #[.slice (some ⟨NB, i * 7, none⟩) (n + 1 - i) dc, .slice (some ⟨vb, 0, none⟩) 1 1]).run Tryd.prog W1 = .ok (goInt (Nat.min 1 (n + 1 - i))) W2 := fun ty dc => by rw [hW2]; exact hcpA W1 rfl ty dc
  have HCB := Lib.hid hcpB
  have HW2 := Lib.hid hW2
  have hW1s : Hid (W1.os = w.os ∧ W1.tape = w.tape ∧ W1.output = w.output) := by rw [hW1]; exact ⟨rfl, rfl, rfl⟩
  have hW2s : Hid (W2.os = w.os ∧ W2.tape = w.tape ∧ W2.output = w.output) := by
    have gb : W1.grownBy W2 (some NB) := by rw [hW2]; exact grownBy_setCells NB _ _ _ _ ⟨rfl, rfl, rfl, Nat.le_refl _, fun _ _ _ => rfl⟩
    exact ⟨gb.os.trans hW1s.1, gb.tape.trans hW1s.2.1, gb.output.trans hW1s.2.2⟩
  have hc3 : n ≤ cap := by omega
  rw [← hn]
  clear hrz hcpA hcpB hW2 hW1 hNB O1 O2 hh1 hh2 hh2' s2 hx1 hW1b hRt hRs hdl hvl hG hold htl hik hkk h hh hx hsz hi hn hroom hc hm hGm hvw hgw hgNB hn6 hbase
  go_enter Tryd.func26, Tryd.ntmps26
  go_wp2_with (at_builtin; refine Lib.wpList_append_run _ rfl _ _ _ _ rfl _ _ rfl rfl _ _ (HRZ.out _) ?_)
  go_region_law_o (refine step_copy_runI rfl _ _ 51 51 rfl (.slice (some ⟨NB, (i + 1) * 7, none⟩) (n - i) (G - (i + 1))) (.slice (some ⟨g, i * 7, none⟩) (n - i) (cap - i)) (by simp [Act.eval, Act.put]) (by simp [Act.eval, Act.put]) (HCB.out W2.drew rfl 3 (G - (i + 1)) (cap - i)) ?_)
  go_wp2_with fail
  go_ret
  have hhp : (W2.drew.setCells NB ((i + 1) * 7) (cellsE encMc (L.drop i))).heap = (W2.setCells NB ((i + 1) * 7) (cellsE encMc (L.drop i))).heap := by rw [← drew_setCells]; rfl
  have gb : W2.drew.grownBy (W2.drew.setCells NB ((i + 1) * 7) (cellsE encMc (L.drop i))) (some NB) := grownBy_setCells NB _ _ _ _ ⟨rfl, rfl, rfl, Nat.le_refl _, fun _ _ _ => rfl⟩
  rw [← HNB.out]
  refine ⟨G, rfl, END.out _ hhp, ?_⟩
  have := ENDB.out _ (gb.os.trans hW2s.out.1) (gb.tape.trans hW2s.out.2.1) (gb.output.trans hW2s.out.2.2) hhp
  rwa [← HNB.out] at this
/-- slices.Insert of one. -/
theorem insert_Mc (base i : Nat) (v : Value) (L : List Mc) (w : World) (vb : Nat) (x : Mc) (h : OwnE encMc 45 w base v L) (hx : w.heap[vb]? = some (.cells #[.int .i64 x.id, .int .i64 x.cell, .int .i64 x.has.a, .int .i64 x.has.b, .int .i64 x.has.c, .int .i64 x.has.d, .int .i64 x.st] 45 (0, 0))) (hvb : v.ownBlock ≠ some vb) (hi : i ≤ L.length) (hn : L.length ≤ 1000000) (hbase : base ≤ w.heap.size) :
    Calls Tryd.prog 26 #[v, .int .i64 (i : Nat), .slice (some ⟨vb, 0, none⟩) 1 1] w fun e w' => ∃ v', e = .returned v' ∧ OwnE encMc 45 w' base v' (L.take i ++ x :: L.drop i) ∧ w.grownBy w' v.ownBlock ∧ (v'.ownBlock = v.ownBlock ∨ v'.ownBlock = some w.heap.size) := by
  rcases Nat.lt_or_ge i L.length with hlt | hge
  · obtain ⟨g, cap, rfl⟩ : ∃ g cap, v = .slice (some ⟨g, 0, none⟩) L.length cap := by
      rcases h.2 with ⟨_, h0⟩ | ⟨g, cap, cur, e, _⟩
      · omega
      · exact ⟨g, cap, e⟩
    have hne : vb ≠ g := fun e => hvb (by rw [e]; rfl)
    rcases Nat.lt_or_ge cap (L.length + 1) with hr | hr
    · refine (insert_growMc base g cap i L w vb x h hx hbase hlt hn hr).mono ?_
      rintro e w' ⟨c', rfl, ho, hb⟩
      exact ⟨_, rfl, ho, grown_of_below hb, .inr rfl⟩
    · refine (insert_roomMc base g cap i L w vb x h hx hne hlt hr).mono ?_
      rintro e w' ⟨rfl, ho, hg⟩
      exact ⟨_, rfl, ho, hg, .inl rfl⟩
  · obtain rfl : i = L.length := by omega
    rw [List.take_length, List.drop_length]
    exact insert_endMc base v L w vb x h hx hn hbase
end Go.Proofs.YtaenpajmgenjhaaDoor
