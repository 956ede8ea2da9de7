/- slices.Clone, DeleteFunc at rows of a struct, by contracts. Conditions: the row is one that calls have made; a predicate turns nothing that it is not given. -/
import Derived.Test.YtaenpajmgenjhaaDoorMcE
import Derived.Test.YtaenpajmgenjhaaDoorRwT
import Derived.Shelf.SlicesQ.IndexFunc
namespace Go.Proofs.YtaenpajmgenjhaaDoor
open Go Go.RowKit Go.Shelf Go.Sort

theorem Tryd.infoSlMc : (Tryd.prog.info? 45).map (fun i => (i.zero, i.size, i.bytes)) = some (some (.agg #[.int .i64 0, .int .i64 0, .int .i64 0, .int .i64 0, .int .i64 0, .int .i64 0, .int .i64 0]), 7, 56) := by kernel_rfl
theorem Tryd.sizeSlMc (W : World) : (sizeOf 45).run Tryd.prog W = .ok 7 W := by kernel_rfl
theorem Tryd.aggSlMc (W : World) : (isAgg 45).run Tryd.prog W = .ok true W := by kernel_rfl
theorem Tryd.zeroSlMc (W : World) : (zeroValue 45).run Tryd.prog W = .ok (.agg #[.int .i64 0, .int .i64 0, .int .i64 0, .int .i64 0, .int .i64 0, .int .i64 0, .int .i64 0]) W := by kernel_rfl

set_option maxRecDepth 100000 in
set_option maxHeartbeats 1600000 in
/-- slices.Clone: a row of its own that holds the same. -/
theorem clone_Mc (base : Nat) (v : Value) (L : List Mc) (w : World) (h : OwnE encMc 45 w base v L) (hn : L.length ≤ 1000000) :
    Calls Tryd.prog 33 #[v] w fun e w' => ∃ v', e = .returned v' ∧ OwnE encMc 45 w' w.heap.size v' L ∧ Below w.heap.size w w' := by
  rcases h.2 with ⟨rfl, h0⟩ | ⟨g, cap, cur, rfl, hbase, hg, r1, r2, r3, r4⟩
  · obtain rfl := List.eq_nil_of_length_eq_zero h0
    have q24 : ∀ (w : World) (a : Option Addr) (n c n' c' : Nat), (binOp .eql 51 (.slice a n c) (.slice none n' c')).run Tryd.prog w = .ok (.bool a.isNone) w := fun w a n c n' c' => Lib.run_eql_slice_nil w _ _ a n c n' c' Tryd.underlying51
    go_enter Tryd.func33, Tryd.ntmps33
    go_wp2_with fail
    go_ret
    exact ⟨_, rfl, OwnE.nil .., Below.refl _ _⟩
  · obtain ⟨i0, hi0, hz0, hz1, hz2⟩ := info_parts Tryd.infoSlMc
    have A1 := Lib.hid (OwnE.none (E := encMc) (e := 45) w (base := w.heap.size) (Nat.le_refl _))
    have A2 := Lib.hid (h.lies.onB (w' := w.alloc (.cells #[] 45)) ((Below.refl _ _).alloc (Nat.le_refl _) _))
    have q24 : ∀ (w : World) (a : Option Addr) (n c n' c' : Nat), (binOp .eql 51 (.slice a n c) (.slice none n' c')).run Tryd.prog w = .ok (.bool a.isNone) w := fun w a n c n' c' => Lib.run_eql_slice_nil w _ _ a n c n' c' Tryd.underlying51
    have A3 : Hid (([] : List Mc).length + L.length ≤ maxLen) := by simp only [Hid, List.length_nil, maxLen]; omega
    have A4 : Hid ((([] : List Mc).length + L.length) * 56 ≤ 140737488355328) := by simp only [Hid, List.length_nil]; omega
    have A5 : Hid (w.heap.size ≤ (w.alloc (.cells #[] 45)).heap.size) := by simp only [Hid, World.size_alloc]; omega
    clear h hg hbase r1 r2 r3 r4 hn
    go_enter Tryd.func33, Tryd.ntmps33
    go_wp2_with (at_builtin; refine wpList_append_E rfl _ _ 51 rfl i0 _ 56 Tryd.underlying51 hi0 hz0 hz1 hz2 rfl (by decide) rfl A1.out rfl A2.out A3.out A4.out A5.out ?_; intro v' w' hv hgr hown)
    go_ret
    refine ⟨_, rfl, hv, ?_⟩
    exact ((Below.refl _ _).alloc (Nat.le_refl _) _).grown hgr (by simp) (fun k hk => by have e : some w.heap.size = some k := hk; cases e; exact Nat.le_refl _)

/-- The numbers of the library's text in this program. -/
def renMc : Ren := ⟨fun | 6 => 44 | n => n, fun | 0 => 0 | 3 => 3 | 4 => 4 | 22 => 51 | 23 => 45 | 25 => 63 | n => n, fun n => n⟩
theorem layMc : SlLaysH0.n6 Tryd.prog renMc where
  mixed := by kernel_rfl
  f6 := ⟨Tryd.f44.name, by kernel_rfl, Tryd.func44.trans (congrArg some (by kernel_rfl))⟩
  t0 := Tryd.underlying0
  a0 := Tryd.isAgg0
  z0 := Tryd.sizeOf0
  v0 := Tryd.zeroValue0
  t3 := Tryd.underlying3
  a3 := Tryd.isAgg3
  z3 := Tryd.sizeOf3
  v3 := Tryd.zeroValue3
  t4 := Tryd.underlying4
  a4 := Tryd.isAgg4
  z4 := Tryd.sizeOf4
  v4 := Tryd.zeroValue4
  t22 := Tryd.underlying51
  a22 := Tryd.isAgg51
  z22 := Tryd.sizeOf51
  v22 := Tryd.zeroValue51
  t25 := Tryd.underlying63
  a25 := Tryd.isAgg63
  z25 := Tryd.sizeOf63
  v25 := Tryd.zeroValue63
/-- slices.IndexFunc of none. -/
theorem idx_noneMc (fv : Value) (w : World) : Calls Tryd.prog 44 #[.slice none 0 0, fv] w fun e w' => e = .returned (.int .i64 (-1)) ∧ w' = w := by
  go_enter Tryd.func44, Tryd.ntmps44
  go_wp2_with fail
  refine wp_loop_rounds 1 ?_
  rw [rounds_succ]
  go_wp2_with fail
  refine bodyPost_ret (v := .int .i64 (-1)) (by simp [results, Tryd.results44, go_sem]) rfl ?_
  exact ⟨rfl, rfl⟩
/-- slices.IndexFunc of a row that calls have made. -/
theorem idx_Mc [Inhabited Mc] (base g c : Nat) (L : List Mc) (w : World) (p : Mc → Bool) (g0 : Nat) (lb : Array Value) (eg : ∀ args w, (callFunc g0 args).run Tryd.prog w = .ok (.enter g0 args) w)
    (hp : PredBelow Tryd.prog g0 lb (fun x => .agg (encMc.enc x).toArray) p w) (h : OwnE encMc 45 w base (.slice (some ⟨g, 0, none⟩) L.length c) L) (hn : L.length ≤ 1000000) :
    Calls Tryd.prog 44 #[.slice (some ⟨g, 0, none⟩) L.length c, .func (.func g0) #[] lb] w fun e w' => e = .returned (.int .i64 (Lib.idxBy (fun (_ : Mc) y => p y) (L.take L.length) default)) ∧ Below w.heap.size w w' := by
  obtain ⟨cur, hh, _⟩ := ownE_raw h
  refine AnyQ.slices_IndexFunc layMc 7 Tryd.isAgg45 Tryd.sizeOf45 encMc.enc encMc.len p g0 lb eg g 0 L.length c L w hp (Nat.le_refl _) (by omega) (lt_of_block hh) (fun j hj i u hu => ?_)
  rw [getElem!_pos L j hj] at hu
  obtain ⟨g', c', e, _, _, _, _, hc⟩ := h.some (Nat.lt_of_le_of_lt (Nat.zero_le _) hj)
  simp only [Value.slice.injEq, Option.some.injEq, Addr.mk.injEq, and_true] at e
  obtain ⟨rfl, _⟩ := e
  rw [Nat.zero_add]
  exact hc j _ (List.getElem?_eq_getElem hj) i u hu

set_option maxRecDepth 100000 in
set_option maxHeartbeats 4000000 in
/-- slices.DeleteFunc. -/
theorem deleteFunc_Mc [Inhabited Mc] (base : Nat) (v : Value) (L : List Mc) (w : World) (p : Mc → Bool) (g0 : Nat) (lb : Array Value) (eg : ∀ args w, (callFunc g0 args).run Tryd.prog w = .ok (.enter g0 args) w)
    (hp : ∀ (W : World) (x : Mc), (∀ k, k < w.heap.size → v.ownBlock ≠ some k → W.heap[k]? = w.heap[k]?) → w.heap.size ≤ W.heap.size → Calls Tryd.prog g0 (#[.agg (encMc.enc x).toArray] ++ lb) W fun e w' => e = .returned (.bool (p x)) ∧ Below W.heap.size W w')
    (h : OwnE encMc 45 w base v L) (hn : L.length ≤ 1000000) :
    Calls Tryd.prog 30 #[v, .func (.func g0) #[] lb] w fun e w' => ∃ v', e = .returned v' ∧ OwnE encMc 45 w' base v' (L.filter fun x => !p x) ∧ w.grownBy w' v.ownBlock ∧ v'.ownBlock = v.ownBlock := by
  rcases Classical.em (v = .slice none 0 0) with rfl | hv
  · have h0 : L = [] := by
      obtain ⟨A, c, e⟩ := h.form
      simp only [Value.slice.injEq] at e
      exact List.eq_nil_of_length_eq_zero e.2.1.symm
    subst h0
    have HI := Lib.hid (idx_noneMc (.func (.func g0) #[] lb) w)
    go_enter Tryd.func30, Tryd.ntmps30
    go_wp2_with (go_at_call 44; refine HI.out.mono ?_; rintro e w' ⟨rfl, rfl⟩)
    go_ret
    exact ⟨_, rfl, OwnE.nil .., World.grownBy.refl _ _, rfl⟩
  · obtain ⟨g, cap, rfl⟩ : ∃ g cap, v = .slice (some ⟨g, 0, none⟩) L.length cap := by
      rcases h.2 with ⟨e, _⟩ | ⟨g, cap, cur, e, _⟩
      · exact absurd e hv
      · exact ⟨g, cap, e⟩
    have hpb : PredBelow Tryd.prog g0 lb (fun x => .agg (encMc.enc x).toArray) p w := fun W x hb => (hp W x (fun k hk _ => hb.block k hk) hb.size).mono fun e w' ⟨he, hb'⟩ => ⟨he, hb.trans (hb'.mono hb.size)⟩
    have HI := Lib.hid (idx_Mc base g cap L w p g0 lb eg hpb h hn)
    have hcap : L.length ≤ cap ∧ cap ≤ 9223372036854775807 := by obtain ⟨_, _, _, _, h1, h2, _⟩ := ownE_raw h; unfold maxLen at h2; exact ⟨h1, by omega⟩
    have OW := Lib.hid h
    have HP : Hid _ := hp
    clear hp hpb hv h
    rcases idx_cases p L with ⟨e1, hall⟩ | ⟨k0, x0, hk0, e1, hx0, hpx, hall⟩
    · rw [e1] at HI
      rw [filter_keep hall]
      have A := Lib.hid hall
      clear e1 hall
      go_enter Tryd.func30, Tryd.ntmps30
      go_wp2_with (go_at_call 44; refine HI.out.mono ?_; rintro e w' ⟨rfl, hb⟩)
      go_ret
      exact ⟨_, rfl, OW.out.on hb, grown_of_below hb, rfl⟩
    · rw [e1] at HI
      have hne1 : ((k0 : Int) == -1) = false := beq_eq_false_iff_ne.2 (by omega)
      have ST := Lib.hid (DelI.start hx0 hpx hall)
      clear e1 hall hx0 hpx
      go_enter Tryd.func30, Tryd.ntmps30
      go_wp2_with (go_at_call 44; refine HI.out.mono ?_; rintro e w1 ⟨rfl, hb⟩)
      go_loopg [5, 6, 7] L.length (fun gg s5 s6 _ wr => ∃ (i j : Nat) (M : List Mc), s5 = .int .i64 i ∧ s6 = .int .i64 j ∧ j ≤ L.length ∧ L.length - j ≤ gg ∧ Aside (DelI p L i j M ∧ OwnE encMc 45 wr base (.slice (some ⟨g, 0, none⟩) M.length cap) M ∧ w.grownBy wr (some g)))
      case atStart => exact ⟨k0, k0 + 1, L, rfl, by go_num, by omega, by omega, ST.out, OW.out.on hb, grown_of_below hb⟩
      case round =>
        obtain ⟨i, j, M, rfl, rfl, hjd, hgg, IN⟩ := hrel
        by_cases hlt : j < L.length
        · have hltz : (j : Int) < (L.length : Int) := by omega
          obtain ⟨x, hx⟩ : ∃ x, L[j]? = some x := ⟨_, List.getElem?_eq_getElem hlt⟩
          have hM := IN.out.1.len
          have hxM := IN.out.1.at hx
          have hij := IN.out.1.lt
          have O1 := Lib.hid (IN.out.2.1)
          obtain ⟨g', c', e', _, _, hgw, hf, hc⟩ := O1.out.some (by omega)
          simp only [Value.slice.injEq, Option.some.injEq, Addr.mk.injEq, and_true] at e'
          obtain ⟨rfl, _, rfl⟩ := e'
          have c0 := hc j x hxM 0 _ rfl
          have c1 := hc j x hxM 1 _ rfl
          have c2 := hc j x hxM 2 _ rfl
          have c3 := hc j x hxM 3 _ rfl
          have c4 := hc j x hxM 4 _ rfl
          have c5 := hc j x hxM 5 _ rfl
          have c6 := hc j x hxM 6 _ rfl
          rw [Nat.add_zero] at c0
          have hW3 : ∃ W3, W3 = wr.alloc (.cells #[.int .i64 x.id, .int .i64 x.cell, .int .i64 x.has.a, .int .i64 x.has.b, .int .i64 x.has.c, .int .i64 x.has.d, .int .i64 x.st] 45) := ⟨_, rfl⟩
          obtain ⟨W3, hW3⟩ := hW3
          have G3 : w.grownBy W3 (some g) := by rw [hW3]; exact grown_then IN.out.2.2 (grown_of_below ((Below.refl _ _).alloc (Nat.le_refl _) _))
          have hcall : Calls Tryd.prog g0 (#[.agg #[.int .i64 x.id, .int .i64 x.cell, .int .i64 x.has.a, .int .i64 x.has.b, .int .i64 x.has.c, .int .i64 x.has.d, .int .i64 x.st]] ++ lb) W3 fun e w' => e = .returned (.bool (p x)) ∧ Below W3.heap.size W3 w' := HP.out W3 x (fun k hk hne => G3.block k hk (fun e => hne (by rw [e]; rfl))) G3.size
          have O3 : OwnE encMc 45 W3 base (.slice (some ⟨g, 0, none⟩) M.length cap) M := by rw [hW3]; exact O1.out.on ((Below.refl _ _).alloc (Nat.le_refl _) _)
          have B3 : W3.heap[wr.heap.size]? = some (.cells #[.int .i64 x.id, .int .i64 x.cell, .int .i64 x.has.a, .int .i64 x.has.b, .int .i64 x.has.c, .int .i64 x.has.d, .int .i64 x.st] 45 (0, 0)) := by rw [hW3]; exact heap_alloc_new wr _
          have hne3 : g ≠ wr.heap.size := by omega
          have G3 := Lib.hid G3
          have O3 := Lib.hid O3
          have B3 := Lib.hid B3
          have I3 := Lib.hid IN.out.1
          have HW3 := Lib.hid hW3
          clear IN hc hxM O1 hW3
          cases hq : p x with
          | false =>
            rw [hq] at hcall
            go_wp2_with fail
            rw [← HW3.out]
            refine hcall.mono ?_
            rintro e w4 ⟨rfl, hb4⟩
            have O4 := O3.out.on hb4
            have G4 := Lib.hid (grown_then G3.out (grown_of_below hb4))
            have hz3 : W3.heap.size = wr.heap.size + 1 := by rw [HW3.out]; simp
            have B4 : w4.heap[wr.heap.size]? = some (.cells #[.int .i64 x.id, .int .i64 x.cell, .int .i64 x.has.a, .int .i64 x.has.b, .int .i64 x.has.c, .int .i64 x.has.d, .int .i64 x.st] 45 (0, 0)) := (hb4.block _ (by omega)).trans B3.out
            obtain ⟨y, hy⟩ : ∃ y, M[i]? = some y := ⟨_, List.getElem?_eq_getElem (by omega)⟩
            obtain ⟨g', c', e', _, _, hgw4, hf4, hc4⟩ := O4.some (by omega)
            simp only [Value.slice.injEq, Option.some.injEq, Addr.mk.injEq, and_true] at e'
            obtain ⟨rfl, _, rfl⟩ := e'
            have d0 := cell_of_heap B4 0
            have d1 := cell_of_heap B4 1
            have d2 := cell_of_heap B4 2
            have d3 := cell_of_heap B4 3
            have d4 := cell_of_heap B4 4
            have d5 := cell_of_heap B4 5
            have d6 := cell_of_heap B4 6
            have f0 := hc4 i y hy 0 _ rfl
            have f1 := hc4 i y hy 1 _ rfl
            have f2 := hc4 i y hy 2 _ rfl
            have f3 := hc4 i y hy 3 _ rfl
            have f4 := hc4 i y hy 4 _ rfl
            have f5 := hc4 i y hy 5 _ rfl
            have f6 := hc4 i y hy 6 _ rfl
            rw [Nat.add_zero] at f0
            have zf : ∀ t, w4.frozen? ⟨wr.heap.size, t, none⟩ = false := fun t => frozen_of_heap B4 t
            have hil : i < L.length := by omega
            have hilz : (i : Int) < (L.length : Int) := by omega
            have PA := Lib.hid (own_putAt O4 (show i < M.length by omega) x)
            have HX := Lib.hid (show L[j]? = some x from hx)
            clear hc4 hy B4 O4 hcall hb4 hx
            go_wp2_with fail
            go_roundg (L.length - (j + 1))
            case measure => omega
            case rel =>
              refine ⟨i + 1, j + 1, M.set i x, by go_num, by go_num, by omega, Nat.le_refl _, ?_⟩
              exact ⟨I3.out.keep HX.out hq, PA.out.1, grown_then G4.out PA.out.2⟩
          | true =>
            rw [hq] at hcall
            go_wp2_with fail
            rw [← HW3.out]
            refine hcall.mono ?_
            rintro e w4 ⟨rfl, hb4⟩
            have O4 := Lib.hid (O3.out.on hb4)
            have G4 := Lib.hid (grown_then G3.out (grown_of_below hb4))
            have HX := Lib.hid (show L[j]? = some x from hx)
            clear hcall hb4 hx
            go_wp2_with fail
            go_roundg (L.length - (j + 1))
            case measure => omega
            case rel => exact ⟨i, j + 1, M, rfl, by go_num, by omega, Nat.le_refl _, I3.out.skip HX.out hq, O4.out, G4.out⟩
        · obtain rfl : j = L.length := by omega
          have hltz : ¬ (L.length : Int) < (L.length : Int) := by omega
          have hM := IN.out.1.len
          have hij := IN.out.1.lt
          have hcl : ∀ ty, (Builtin.clear_ #[51] ty #[.slice (some ⟨g, i * 7, none⟩) (L.length - i) (cap - i)]).run Tryd.prog wr = .ok (.tuple #[]) (wr.setCells g (i * 7) (zerosK #[.int .i64 0, .int .i64 0, .int .i64 0, .int .i64 0, .int .i64 0, .int .i64 0, .int .i64 0] (L.length - i))) := fun ty =>
            run_clear_K wr _ 45 ty (.agg #[.int .i64 0, .int .i64 0, .int .i64 0, .int .i64 0, .int .i64 0, .int .i64 0, .int .i64 0]) Tryd.underlying51 Tryd.zeroSlMc (by decide) g _ _ _ (fun t ht => (own_room IN.out.2.1 _ (by have : t < (L.length - i) * 7 := ht; omega)).1) (fun t ht => (own_room IN.out.2.1 _ (by have : t < (L.length - i) * 7 := ht; omega)).2)
          have hzl : (zerosK #[.int .i64 0, .int .i64 0, .int .i64 0, .int .i64 0, .int .i64 0, .int .i64 0, .int .i64 0] (L.length - i)).length = (L.length - i) * 7 := zerosK_len _ _
          have hci : ¬ cap = i := by omega
          have hil : i ≤ L.length := by omega
          have hic : i ≤ cap := by omega
          have END := own_setCells IN.out.2.1 (M := M.take i) (i * 7) (zerosK #[.int .i64 0, .int .i64 0, .int .i64 0, .int .i64 0, .int .i64 0, .int .i64 0, .int .i64 0] (L.length - i)) (by rw [List.length_take]; omega) (by rw [hzl]; omega) (fun t u hu => by
            have ht : t < i * 7 := by
              have := (List.getElem?_eq_some_iff.1 hu).1
              rw [cellsE_len, List.length_take] at this; omega
            rw [if_neg (by omega), own_cellE' IN.out.2.1 t (by omega)]
            rw [← cellsE_take, List.getElem?_take_of_lt ht] at hu
            exact hu)
          rw [show (M.take i).length = i by rw [List.length_take]; omega] at END
          rw [IN.out.1.done] at END
          have END := Lib.hid END
          have IG := Lib.hid IN.out.2.2
          clear IN hzl
          go_wp2_with fail
          go_ret
          exact ⟨_, rfl, END.out.1, grown_then IG.out END.out.2, rfl⟩
end Go.Proofs.YtaenpajmgenjhaaDoor
