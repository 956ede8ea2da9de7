/- The contract of grant's Expire: the accounts of the windows before one are emptied. Conditions: the book lies in memory as its map has it. -/
import Derived.Test.YtpgioihmaodlcaaDoorGrJ
namespace Go.Proofs.YtpgioihmaodlcaaDoor
open Go Go.RowKit Go.Maps Go.Sort

/-- A map is deleted from: one operation of a region that draws its order. -/
theorem opwp_delG {P : Program} {k : TypeId} {κ α : Type} [DecidableEq κ] {kv : κ → Value} {kl : κ → Lit} {ok : κ → Prop} (K : KeyKit P k kv kl ok) {o : Oper} {a : Act} {w : World} {Q : Exit → Act → World → Prop} {Kc : Act → World → Prop} {ys : Tmp → Option Bool}
    (hg : o.guard = none) (m x : Operand) (t : TypeId) (hop : o.op = Op.call { callee := Callee.builtin Builtin.delete, args := #[m, x], argTypes := #[t, k] }) (e : TypeId) (ht : P.underlying t = some (.map k e))
    (enc : α → Value) (b : Nat) (T : List (κ × α)) (hm : a.eval m = .map (some b)) (h : MapG P k kl ok enc w b T) (y : κ) (hx : a.eval x = kv y) (hy : ok y)
    (hK : ∀ w', MapG P k kl ok enc w' b (strike T y) → w.grownBy w' (some b) → Kc (a.put o.dst (.tuple #[])) w') : if Region.wanted o ys = true then Oper.wp P o a w Kc Q else Kc (a.put o.dst undef) w := by
  obtain ⟨D, hown, hme⟩ := h
  rw [if_pos (by simp [Region.wanted, hg])]
  obtain ⟨w', hrun, r1, r2⟩ := hown.drop K.keyed ht (K.of hy) o.type
  unfold Oper.wp
  simp [execOp, hop, resolve, invoke, builtin, hm, hx, hrun, Result.andThen]
  have hme' := hme.del K (hown.tidy K.keyed) hy
  exact hK w' ⟨_, own_fitG r1 (Nat.le_of_eq hme'.size), hme'⟩ r2.grown

theorem expT_snoc (win : Int) (T : Grs) (L : List V4) (y : V4) : expT win T (L ++ [y]) = if y.d < win then strike (expT win T L) y else expT win T L := by
  induction L generalizing T with
  | nil => rfl
  | cons k L ih => rw [List.cons_append, expT, ih]; rfl
theorem take_snoc {L : List V4} {i : Nat} {y : V4} (h : L[i]? = some y) : L.take (i + 1) = L.take i ++ [y] := by rw [List.take_add_one, h]; rfl
theorem look_in {κ α : Type} [DecidableEq κ] {T : List (κ × α)} {x : κ} (h : (look T x).isSome = true) : x ∈ T.map (·.1) := by
  induction T with
  | nil => cases h
  | cons p T ih =>
    obtain ⟨a, v⟩ := p
    rw [look_cons] at h
    by_cases e : x = a
    · rw [e]; exact List.mem_cons_self ..
    · rw [if_neg e] at h; exact List.mem_cons_of_mem _ (ih h)

/-- Between the rounds of the loop that expires. -/
structure ExR (w : World) (X Y q b : Nat) (T : Grs) (L : List V4) (win : Int) (v : Value) (i : Nat) (gv : Value) (G : List V4) (wr : World) : Prop where
  book : BookAt wr q b (expT win T (L.take i))
  row : VOwn 31 wr X v L
  far : ∀ k, v.ownBlock = some k → k < Y
  gone : VOwn 31 wr Y gv G
  len : G.length ≤ i
  chg : Chg b b w wr
  size : Y ≤ wr.heap.size
theorem ExR.skip {w : World} {X Y q b : Nat} {T : Grs} {L : List V4} {win : Int} {v : Value} {i : Nat} {gv : Value} {G : List V4} {wr W : World} {y : V4} (h : ExR w X Y q b T L win v i gv G wr) (hy : L[i]? = some y) (hd : ¬ y.d < win) (hb : Below wr.heap.size wr W) : ExR w X Y q b T L win v (i + 1) gv G W :=
  ⟨by rw [take_snoc hy, expT_snoc, if_neg hd]; exact h.book.grow hb, h.row.on hb, h.far, h.gone.on hb, Nat.le_succ_of_le h.len, h.chg.trans (Chg.of_below hb) (.inl rfl), Nat.le_trans h.size hb.size⟩
theorem ExR.del {w : World} {X Y q b : Nat} {T : Grs} {L : List V4} {win : Int} {v : Value} {i : Nat} {gv gv' : Value} {G : List V4} {wr w5 w6 : World} {y : V4} {o1 o2 : Obj} (h : ExR w X Y q b T L win v i gv G wr) (hy : L[i]? = some y) (hd : y.d < win)
    (hX : w.heap.size = X) (hXY : X ≤ Y) (hbX : b < X) (hqX : q < X) (hm5 : GrsAt w5 b (strike (expT win T (L.take i)) y)) (hg5 : (wr.alloc o1).drew.grownBy w5 (some b)) (hown : w6.ownsRow Y 31 4 gv' (G.length + 1) (cells4 G ++ enc4 y)) (hg6 : (w5.alloc o2).grownBy w6 gv.ownBlock) :
    ExR w X Y q b T L win v (i + 1) gv' (G ++ [y]) w6 := by
  have hsz := h.size
  have hs5 : wr.heap.size + 1 ≤ w5.heap.size := by have := hg5.size; simp only [World.size_drew, World.size_alloc] at this; exact this
  have hs6 : w5.heap.size + 1 ≤ w6.heap.size := by have := hg6.size; simp only [World.size_alloc] at this; exact this
  have e5 : ∀ k, k < wr.heap.size → k ≠ b → w5.heap[k]? = wr.heap[k]? := fun k hk hn =>
    (hg5.block k (by simp only [World.size_drew, World.size_alloc]; omega) (fun e => hn (Option.some.inj e))).trans (Below.heap_alloc wr o1 k hk)
  have hgn := fun k (hk : gv.ownBlock = some k) => (h.gone.lt k hk).1
  have e6 : ∀ k, k < Y → w6.heap[k]? = w5.heap[k]? := fun k hk =>
    (hg6.block k (by simp only [World.size_alloc]; omega) (fun e => by have := hgn k e.symm; omega)).trans (Below.heap_alloc w5 o2 k (by omega))
  refine ⟨?_, h.row.same fun k hk => ?_, h.far, ?_, by rw [List.length_append]; have := h.len; simp; omega, ?_, by omega⟩
  · rw [take_snoc hy, expT_snoc, if_pos hd]
    exact ⟨((e6 q (by omega)).trans (e5 q (by omega) h.book.ne)).trans h.book.box, hm5.same (e6 b (by omega)), h.book.solid.strike y⟩
  · have h1 := h.row.lt k hk
    exact (e6 k (h.far k hk)).trans (e5 k h1.2 (by omega))
  · unfold VOwn
    rw [← cells4_snoc, List.length_append]
    exact hown
  · exact ((h.chg.alloc _).drew.grown hg5 (fun k e => .inl (by cases e; rfl))).alloc o2 |>.grown hg6 fun k e => .inr (.inr (by have := hgn k e; omega))

/-- Between the operations that delete an account. -/
structure DlS (q b Z : Nat) (y : V4) (W : World) : Prop where
  box : W.heap[q]? = some (.cells #[.map (some b)] 54 (0, 0))
  key : KyB W Z y
theorem DlS.grown {q b Z : Nat} {y : V4} {W W' : World} (h : DlS q b Z y W) (h1 : b < Z) (h2 : q ≠ b) (hg : W.grownBy W' (some b)) : DlS q b Z y W' :=
  ⟨(hg.block q (lt_of_row h.box) (fun e => h2 (Option.some.inj e))).trans h.box, (hg.block Z h.key.lt (fun e => by have := Option.some.inj e; omega)).trans h.key⟩

set_option maxRecDepth 100000 in
set_option maxHeartbeats 3200000 in
/-- Book.Expire. -/
theorem expire_c (q b : Nat) (T : Grs) (win : Int) (w : World) (h : BookAt w q b T) (hf : T.length ≤ 1000000) :
    Calls Tryd.prog 7 #[.pointer (some ⟨q, 0, none⟩), .int .i64 win] w fun e w' =>
      ∃ (v : Value) (L : List V4), e = .returned v ∧ (∀ k, (look T k).isSome = true → k ∈ L) ∧ BookAt w' q b (expT win T L) ∧ Chg b b w w' := by
  have H := Lib.hid h
  have HKE := Lib.hid (keys_c q b T w h hf)
  have HF := Lib.hid hf
  have HBX : Hid (b < w.heap.size) := Lib.hid h.map.lt
  have HQX : Hid (q < w.heap.size) := Lib.hid h.lt
  clear h hf
  go_enter Tryd.func7, Tryd.ntmps7
  go_wp2_with fail
  refine HKE.out.mono ?_
  rintro e w1 ⟨v, L, rfl, hp, hup, hok, hown, hb1⟩
  have hlen : L.length ≤ 1000000 := by have := hp.length_eq; rw [List.length_map] at this; have := HF.out; omega
  have hin : Hid (∀ k, (look T k).isSome = true → k ∈ L) := Lib.hid fun k hk => hp.mem_iff.2 (look_in hk)
  have HOK := Lib.hid hok
  have HLEN := Lib.hid hlen
  have HST : Hid (ExR w w.heap.size w1.heap.size q b T L win v 0 (.slice none 0 0) [] w1) := Lib.hid ⟨H.out.grow hb1, hown, fun k hk => (hown.lt k hk).2, VOwn.nil _ _ _, Nat.zero_le _, Chg.of_below hb1, Nat.le_refl _⟩
  obtain ⟨A, c, hv⟩ := hown.form
  obtain ⟨X, hX⟩ : ∃ X, w.heap.size = X := ⟨_, rfl⟩
  obtain ⟨Y, hY⟩ : ∃ Y, w1.heap.size = Y := ⟨_, rfl⟩
  rw [hX] at HST HBX HQX
  rw [hY] at HST
  have HXX := Lib.hid hX
  have HXY : Hid (X ≤ Y) := Lib.hid (by rw [← hX, ← hY]; exact hb1.size)
  have HV := Lib.hid hv
  clear hp hup hok hown hb1 hlen hX hY HKE H HF
  rw [hv]
  clear hv
  go_wp2_with fail
  go_loopw [5, 11] (fun gv I wr => ∃ (i : Nat) (G : List V4), i ≤ L.length ∧ I = .int .i64 (i : Int) ∧ ExR w X Y q b T L win v i gv G wr) (fun _ I _ => L.length - (intOf I).toNat)
  case atStart => exact ⟨0, [], Nat.zero_le _, rfl, HST.out⟩
  case round =>
    obtain ⟨i, G, hi, rfl, hr⟩ := hrel
    have HR := Lib.hid hr; clear hr HST
    have hll := HLEN.out
    by_cases hlt : i < L.length
    · have hi1 : (i : Int) < (L.length : Int) := by omega
      have hi0 : (0 : Int) ≤ (i : Int) := by omega
      obtain ⟨y, hy⟩ : ∃ y, L[i]? = some y := ⟨_, List.getElem?_eq_getElem hlt⟩
      have HY := Lib.hid hy
      have HOKY : Hid (okV y) := Lib.hid (HOK.out y (List.mem_of_getElem? hy))
      have hrow := HR.out.row
      rw [HV.out] at hrow
      obtain ⟨ad, hA, had, hcells⟩ := hrow.vrow (by omega)
      obtain ⟨q0, q1, q2, q3⟩ := hcells i _ hy
      clear hcells hrow had
      rw [hA]
      by_cases hd : y.d < win
      · have hdd : decide (y.d < win) = true := decide_eq_true hd
        have HD := Lib.hid hd
        clear hd hy
        go_wp2_with fail
        obtain ⟨T2, hT2⟩ : ∃ T2, expT win T (L.take i) = T2 := ⟨_, rfl⟩
        obtain ⟨Z, hZ⟩ : ∃ Z, wr.heap.size = Z := ⟨_, rfl⟩
        have hds : DlS q b Z y (wr.alloc (.cells #[.int .i64 y.a, .int .i64 y.b, .int .i64 y.c, .int .i64 y.d] 31)) := by
          have hbk := HR.out.book.grow (Below.alloc (Below.refl wr.heap.size wr) (Nat.le_refl _) (.cells #[.int .i64 y.a, .int .i64 y.b, .int .i64 y.c, .int .i64 y.d] 31))
          rw [hT2] at hbk
          exact ⟨hbk.box, by rw [← hZ]; exact KyB.new wr y⟩
        have hmd : GrsAt (wr.alloc (.cells #[.int .i64 y.a, .int .i64 y.b, .int .i64 y.c, .int .i64 y.d] 31)).drew b T2 := by
          have hbk := HR.out.book.grow ((Below.alloc (Below.refl wr.heap.size wr) (Nat.le_refl _) (.cells #[.int .i64 y.a, .int .i64 y.b, .int .i64 y.c, .int .i64 y.d] 31)).drew)
          rw [hT2] at hbk
          exact hbk.map
        have hbZ : b < Z := by have := HBX.out; have := HXY.out; have := HR.out.size; omega
        have hqb := HR.out.book.ne
        have HDS := Lib.hid hds; have HMD := Lib.hid hmd
        have HT2 := Lib.hid hT2
        have HZ := Lib.hid hZ
        clear hds hmd hT2 q0 q1 q2 q3
        rw [hZ]
        clear hZ
        refine wp_region_held_drew (S := fun W => DlS q b Z y W) (by kernel_rfl) ?_ (fun hHeld => ?_)
        · exact ⟨HDS.out.box, HDS.out.key⟩
        refine rg_take 0 (some 20) _ (by kernel_rfl) (by kernel_rfl) (by kernel_rfl) (fun _ _ _ h => h) (by kernel_rfl) (by kernel_rfl) (by intro w' hSw op_ ho; have c0 := cell_of_heap hSw.box 0; obtain ⟨k0, k1, k2, k3⟩ := hSw.key.cells; clear hSw; simp only [List.getElem?_toArray, List.getElem?_cons_zero, Option.some.injEq] at ho; subst ho; go_simp; with_reducible rfl) (by assumption) ?_
        try simp only [Act.put, List.setIfInBounds_toArray, List.set_cons_zero, List.set_cons_succ]
        refine rg_take 1 (some 21) _ (by kernel_rfl) (by kernel_rfl) (by kernel_rfl) (fun _ _ _ h => h) (by kernel_rfl) (by kernel_rfl) (by intro w' hSw op_ ho; have c0 := cell_of_heap hSw.box 0; obtain ⟨k0, k1, k2, k3⟩ := hSw.key.cells; clear hSw; simp only [List.getElem?_toArray, List.getElem?_cons_succ, List.getElem?_cons_zero, Option.some.injEq] at ho; subst ho; go_simp; with_reducible rfl) (by assumption) ?_
        try simp only [Act.put, List.setIfInBounds_toArray, List.set_cons_zero, List.set_cons_succ]
        refine rg_take 2 (some 22) _ (by kernel_rfl) (by kernel_rfl) (by kernel_rfl) (fun _ _ _ h => h) (by kernel_rfl) (by kernel_rfl) (by intro w' hSw op_ ho; have c0 := cell_of_heap hSw.box 0; obtain ⟨k0, k1, k2, k3⟩ := hSw.key.cells; clear hSw; simp only [List.getElem?_toArray, List.getElem?_cons_succ, List.getElem?_cons_zero, Option.some.injEq] at ho; subst ho; go_simp; with_reducible rfl) (by assumption) ?_
        try simp only [Act.put, List.setIfInBounds_toArray, List.set_cons_zero, List.set_cons_succ]
        refine rg_take 3 (some 23) _ (by kernel_rfl) (by kernel_rfl) (by kernel_rfl) (fun _ _ _ h => h) (by kernel_rfl) (by kernel_rfl) (by intro w' hSw op_ ho; have c0 := cell_of_heap hSw.box 0; obtain ⟨k0, k1, k2, k3⟩ := hSw.key.cells; clear hSw; simp only [List.getElem?_toArray, List.getElem?_cons_succ, List.getElem?_cons_zero, Option.some.injEq] at ho; subst ho; go_simp; with_reducible rfl) (by assumption) ?_
        try simp only [Act.put, List.setIfInBounds_toArray, List.set_cons_zero, List.set_cons_succ]
        refine rg_take 4 (some 24) _ (by kernel_rfl) (by kernel_rfl) (by kernel_rfl) (fun _ _ _ h => h) (by kernel_rfl) (by kernel_rfl) (by intro w' hSw op_ ho; have c0 := cell_of_heap hSw.box 0; obtain ⟨k0, k1, k2, k3⟩ := hSw.key.cells; clear hSw; simp only [List.getElem?_toArray, List.getElem?_cons_succ, List.getElem?_cons_zero, Option.some.injEq] at ho; subst ho; go_simp; with_reducible rfl) (by assumption) ?_
        try simp only [Act.put, List.setIfInBounds_toArray, List.set_cons_zero, List.set_cons_succ]
        refine rg_one 5 (by kernel_rfl) (by kernel_rfl) (fun op_ ho K hK => ?_)
        simp only [List.getElem?_toArray, List.getElem?_cons_succ, List.getElem?_cons_zero, Option.some.injEq] at ho
        subst ho
        have HHE := Lib.hid hHeld
        clear hHeld
        refine opwp_delG kitV rfl _ _ 52 rfl 37 Tryd.underlying52 encA b T2 rfl HMD.out y rfl HOKY.out ?_
        intro w5 hm5 hg5
        refine hK.out _ _ (HHE.out.grown hbZ hqb hg5) (fun hHeld => ?_)
        clear hK
        try simp only [Act.put]
        refine wpAnyH_done (by kernel_rfl) ?_ _
        have HM5 := Lib.hid hm5; have HG5 := Lib.hid hg5
        have hky : KyB w5 Z y := (hg5.block Z (by have := HHE.out.key.lt; simp only [World.size_drew] at this ⊢; exact this) (fun e => by have := Option.some.inj e; omega)).trans HHE.out.key
        obtain ⟨c0, c1, c2, c3⟩ := hky.cells
        have hg5s : wr.heap.size + 1 ≤ w5.heap.size := by have := hg5.size; simp only [World.size_drew, World.size_alloc] at this; exact this
        have hgo : VOwn 31 w5 Y u5 G := HR.out.gone.same fun k hk => by
          have h1 := HR.out.gone.lt k hk
          have := HXY.out; have := HBX.out
          exact (hg5.block k (by simp only [World.size_drew, World.size_alloc]; omega) (fun e => by have := Option.some.inj e; omega)).trans (Below.heap_alloc wr _ k h1.2)
        have HGO := Lib.hid hgo
        have hgl := HR.out.len
        obtain ⟨i0, hi0', hz0, hz1, hz2⟩ := info_parts Tryd.infoK
        clear hm5 hg5 hky hgo
        go_wp2_with (at_builtin; refine wpList_append_own _ rfl _ _ 34 rfl Y 31 i0 (.agg #[.int .i64 0, .int .i64 0, .int .i64 0, .int .i64 0]) 4 32 Tryd.underlying34 hi0' hz0 hz1 hz2 rfl (by decide) _ G.length (cells4 G) rfl (HGO.out.on ((Below.refl _ _).alloc (Nat.le_refl _) _)) ⟨_, 0, none⟩ 1 1 (enc4 y) rfl rfl (cells_new4 w5 y _) (by rw [← cells4_one]; exact cells4_oneCell _) (by rw [maxLen_is4]; omega) (by omega) (by have := HR.out.size; simp only [World.size_alloc]; omega) ?_; intro v' w6 hown' hg6 hnil6; have HO6 := Lib.hid hown'; have HG6 := Lib.hid hg6; clear hown' hg6 hnil6)
        go_roundw
        case rel => exact ⟨i + 1, G ++ [y], by omega, by go_num, HR.out.del HY.out HD.out HXX.out HXY.out HBX.out HQX.out (by rw [HT2.out]; exact HM5.out) HG5.out HO6.out HG6.out⟩
        case measure => simp [intOf]; omega
      · have hdd : decide (y.d < win) = false := decide_eq_false hd
        have HD := Lib.hid hd
        clear hd hy
        go_wp2_with fail
        go_roundw
        case rel =>
          exact ⟨i + 1, G, by omega, by go_num, HR.out.skip HY.out HD.out ((Below.refl _ _).alloc (Nat.le_refl _) _)⟩
        case measure => simp [intOf]; omega
    · obtain rfl : i = L.length := by omega
      have HB : Hid (BookAt wr q b (expT win T L)) := Lib.hid (by have := HR.out.book; rwa [List.take_length] at this)
      go_wp2_with fail
      go_ret
      exact ⟨_, L, rfl, hin.out, HB.out, HR.out.chg⟩
end Go.Proofs.YtpgioihmaodlcaaDoor
