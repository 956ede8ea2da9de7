/- The contracts of kin's methods: Path, Below, Depth, Children, All, Add, Drop. Conditions: the tree lies in memory as its map has it; the sentinels lie where the program's text lays them. -/
import Derived.Test.YtaibmdjcppeopaaDoorKnD
namespace Go.Proofs.YtaibmdjcppeopaaDoor
open Go Go.RowKit Go.Maps Go.Sort

/-- What Children answers: of one that is no tenant nothing. -/
def childs (T : Kin) (x : Int) : List Int := if (up T x).isSome then kids T x else []
/-- What a range over the map has collected: those below x that have come. -/
def Coll (T : Kin) (x : Int) (left : Lit → Bool) (ss : List Int) : Prop := ss.Nodup ∧ ∀ y, y ∈ ss ↔ (up T y = some x ∧ left (.int .i64 y) = false)
theorem Coll.start {D : DataW Unit} {T : Kin} (h : Means D T) (x : Int) : Coll T x (Maps.has D) [] :=
  ⟨List.nodup_nil, fun y => ⟨fun k => (by cases k), fun k => (by rw [h.has, k.1] at k; cases k.2)⟩⟩
theorem Coll.take {T : Kin} {x y : Int} {left : Lit → Bool} {ss : List Int} (h : Coll T x left ss) (hl : left (.int .i64 y) = true) (hu : up T y = some x) : Coll T x (fun z => left z && !z.sameKey (.int .i64 y)) (ss ++ [y]) := by
  have hnew : y ∉ ss := fun hy => by have := ((h.2 y).1 hy).2; rw [hl] at this; cases this
  refine ⟨List.nodup_append.2 ⟨h.1, by simp, fun a ha b hb => by simp at hb; subst hb; exact fun e => hnew (e ▸ ha)⟩, fun z => ?_⟩
  by_cases hz : z = y
  · subst hz; simp [hu, Lit.sameKey]
  · simp [h.2 z, hz, Lit.sameKey]
theorem Coll.pass {T : Kin} {x y c : Int} {left : Lit → Bool} {ss : List Int} (h : Coll T x left ss) (hu : up T y = some c) (hc : c ≠ x) : Coll T x (fun z => left z && !z.sameKey (.int .i64 y)) ss := by
  refine ⟨h.1, fun z => ?_⟩
  by_cases hz : z = y
  · subst hz; rw [h.2 z, hu]; simp [hc]
  · simp [h.2 z, hz, Lit.sameKey]
theorem Coll.few {T : Kin} {x : Int} {left : Lit → Bool} {ss : List Int} (h : Coll T x left ss) (hf : T.length ≤ 16) : ss.length ≤ 16 := by
  have : ss.length ≤ (T.map (·.1)).length := h.1.length_le_of_subset fun y hy => List.mem_map.2 ⟨(y, x), up_mem ((h.2 y).1 hy).1, rfl⟩
  rw [List.length_map] at this
  omega
theorem Coll.all {T : Kin} {x : Int} {left : Lit → Bool} {ss : List Int} (h : Coll T x left ss) (g : Good T) (hl : ∀ kl, left kl = false) : ss.mergeSort leI = kids T x :=
  sort_is h.1 fun y => by
    rw [h.2 y, hl, mem_ids, decide_eq_true_eq]
    exact ⟨fun k => ⟨g.bounds k.1, k.1⟩, fun k => ⟨k.2, rfl⟩⟩
theorem Means.come {D : DataW Unit} {T : Kin} (h : Means D T) {y c : Int} (hat : ∀ zd, D.atKey (.int .i64 y) zd = .lit (.int .i64 c)) : up T y = some c := by
  have h1 := has_true_of_atKey hat
  rw [h.has] at h1
  obtain ⟨p, hp⟩ := Option.isSome_iff_exists.1 h1
  have h2 := (h.at_ y).symm.trans (hat _)
  rw [hp] at h2
  simp at h2
  rw [hp, h2]

set_option maxHeartbeats 1000000 in
set_option maxRecDepth 100000 in
/-- Those next below one, ascending. -/
theorem children_c (b : Nat) (T : Kin) (x : Int) (w : World) (h : MapAt w b T) (g : Good T) (hf : T.length ≤ 16) (h0 : -9223372036854775808 ≤ x) (h1 : x ≤ 9223372036854775807) :
    Calls Tryd.prog 30 #[.map (some b), .int .i64 x] w fun e w' => ∃ v, e = .returned v ∧ IOwn w' w.heap.size v (childs T x) ∧ Below w.heap.size w w' := by
  obtain ⟨i0, hi, hz0, hz1, hz2⟩ := info_parts Tryd.infoI
  have ch := has_c b T x w h h0 h1
  obtain ⟨D, hown, hme⟩ := h
  have hbl := hown.lt
  unfold childs
  cases hu : (up T x).isSome with
  | false =>
    rw [hu] at ch
    go_enter Tryd.func30, Tryd.ntmps30
    go_wp2_with (go_at_call 29; refine ch.mono ?_; rintro e w' ⟨rfl, rfl⟩)
    go_ret
    exact ⟨_, rfl, World.ownsRow_nil _ _ _ _, Below.refl _ _⟩
  | true =>
    rw [hu] at ch
    clear hu
    simp only [if_true]
    go_enter Tryd.func30, Tryd.ntmps30
    go_wp2_with (first
      | (go_at_call 29; refine ch.mono ?_; rintro e w ⟨rfl, rfl⟩)
      | (at_range; refine wpList_range_own _ rfl _ 49 rfl 3 3 lawI Tryd.underlying49 _ b T.length D rfl hown ?_; intro w0 hrg0 hg0 hs0))
    go_frame
    go_loopw [5] (fun V wr => ∃ (v : Value) (left : Lit → Bool) (cnt : Nat) (ss : List Int), v = V ∧ wr.ranges Tryd.prog 3 (plainElem Tryd.prog 3) b w.heap.size T.length D left cnt ∧ Coll T x left ss ∧ IOwn wr w.heap.size v ss ∧ Below w.heap.size w wr)
      (fun _ wr => wr.rangeLeft b w.heap.size)
    case atStart => exact ⟨_, _, _, [], rfl, hrg0, Coll.start hme x, World.ownsRow_nil _ _ _ _, (Below.refl _ _).grown hg0 (Nat.le_refl _) (fun k e => by cases e)⟩
    case round =>
      obtain ⟨v, left, cnt, ss, rfl, hrg, hC, hown1, hb⟩ := hrel
      have hlen := hC.few hf
      have hlow : ∀ k, v.ownBlock = some k → w.heap.size ≤ k := fun k e => (hown1.lt k e).1
      have hne := row_ne_iter hown1 hrg
      clear hrg0 hg0 hs0
      go_wp2_with (first
        | (at_next; refine wpList_next_ranges_ii _ rfl _ rfl 3 3 .i64 .i64 lawI Tryd.underlying3 Tryd.underlying3 b w.heap.size T.length _ _ _ rfl hrg ?_ ?_))
      · intro hc0 hl0
        have hall := hC.all g hl0
        have cs := sort_own w.heap.size v ss wr hown1 (by omega)
        rw [hall] at cs
        clear hown hme hrg hC hown1 hl0 hall
        go_wp2_with (go_at_call 37; refine cs.mono ?_; rintro e w' ⟨rfl, ho, hg⟩)
        go_ret
        exact ⟨_, rfl, ho, hb.grown hg hb.size hlow⟩
      · intro y c w1 cnt1 hwx hwc hlx hat hrg1 hlt hg1 hs1 hen
        have hup := hme.come hat
        have hown2 : IOwn w1 w.heap.size v ss := hown1.kept hg1 (by
          cases e : v.ownBlock with
          | none => exact .inl rfl
          | some k => exact .inr (fun k' => hne (by rw [e]; exact k'.symm)))
        have hb1 : Below w.heap.size w w1 := hb.grown hg1 hb.size (fun k e => by cases e; exact Nat.le_refl _)
        have hs := hb1.size
        have hne1 := row_ne_iter hown2 hrg1
        have HS : Hid (w1.rangeLeft b w.heap.size < wr.rangeLeft b w.heap.size) := Lib.hid (by rw [hrg1.left_eq, hrg.left_eq]; exact hlt)
        have HC := Lib.hid hC; have HU := Lib.hid hup; have HLX := Lib.hid hlx
        have HG : Hid (∀ (o : Obj) (W : World), (w1.alloc o).grownBy W v.ownBlock → W.ranges Tryd.prog 3 (plainElem Tryd.prog 3) b w.heap.size T.length D (fun z => left z && !z.sameKey (.int .i64 y)) cnt1 ∧ Below w.heap.size w W) := Lib.hid fun o W hg =>
          ⟨(hrg1.alloc o).kept hg (fun e => by have := hlow b e.symm; omega) hne1, (hb1.alloc hs o).grown hg (by simp; omega) hlow⟩
        have HR := Lib.hid hrg1; have HB := Lib.hid hb1; have HR0 := Lib.hid hrg
        clear hs1 hg1 hrg hrg1 hown1 hb hb1 hat hlt hown hne hne1 hme hup hC hlx hlow
        go_wp2_with (first
          | (at_builtin; refine wpList_append_own_at _ rfl _ _ 38 rfl w.heap.size 3 i0 (.int .i64 0) 1 8 Tryd.underlying38 hi hz0 hz1 hz2 rfl (by decide) _ _ _ rfl (hown2.alloc _) ⟨w1.heap.size, 0, none⟩ 1 1 [.int .i64 y] rfl rfl (cell_one_new _ _ _) (ints_oneCell .i64 [y]) (by unfold maxLen; omega) (by omega) (by simp; omega) ?_; intro v' w2 hown' hgrow hnil hloc))
        · have hc : c = x := by first | assumption | (simpa using (by assumption : (c == x) = true))
          subst hc
          obtain ⟨r2, b2⟩ := HG.out _ _ hgrow
          go_roundw
          case rel =>
            refine ⟨v', _, cnt1, ss ++ [y], rfl, r2, HC.out.take HLX.out HU.out, ?_, b2⟩
            unfold IOwn; rw [List.length_append, List.map_append]; exact hown'
          case measure =>
            have := HS.out
            rw [HR.out.left_eq] at this
            rw [r2.left_eq]; exact this
        · have hc : c ≠ x := by first | assumption | (simpa using (by assumption : (c == x) = false))
          go_roundw
          case rel => exact ⟨v, _, cnt1, ss, rfl, HR.out, HC.out.pass HU.out hc, hown2, HB.out⟩
          case measure => exact HS.out

/-- Tree.Path. -/
theorem way_c (q b : Nat) (T : Kin) (x : Int) (w : World) (h : TreeAt w q b T) (h0 : -9223372036854775808 ≤ x) (h1 : x ≤ 9223372036854775807) :
    Calls Tryd.prog 21 #[.pointer (some ⟨q, 0, none⟩), .int .i64 x] w fun e w' => ∃ v, e = .returned v ∧ IOwn w' w.heap.size v (way T x) ∧ Below w.heap.size w w' := by
  have ck := known_c q b w h.box
  have ch := path_c b T x w h.map h.good h.few h0 h1
  clear h h0 h1
  go_enter Tryd.func21, Tryd.ntmps21
  go_wp2_with (first
    | (go_at_call 28; refine ck.mono ?_; rintro e w ⟨rfl, rfl⟩)
    | (go_at_call 32; refine ch.mono ?_; rintro e w' ⟨v, rfl, ho, hb⟩))
  go_ret
  exact ⟨_, rfl, ho, hb⟩
/-- Tree.Children. -/
theorem kids_c (q b : Nat) (T : Kin) (x : Int) (w : World) (h : TreeAt w q b T) (h0 : -9223372036854775808 ≤ x) (h1 : x ≤ 9223372036854775807) :
    Calls Tryd.prog 22 #[.pointer (some ⟨q, 0, none⟩), .int .i64 x] w fun e w' => ∃ v, e = .returned v ∧ IOwn w' w.heap.size v (childs T x) ∧ Below w.heap.size w w' := by
  have ck := known_c q b w h.box
  have ch := children_c b T x w h.map h.good h.few h0 h1
  clear h h0 h1
  go_enter Tryd.func22, Tryd.ntmps22
  go_wp2_with (first
    | (go_at_call 28; refine ck.mono ?_; rintro e w ⟨rfl, rfl⟩)
    | (go_at_call 30; refine ch.mono ?_; rintro e w' ⟨v, rfl, ho, hb⟩))
  go_ret
  exact ⟨_, rfl, ho, hb⟩
theorem way_few (T : Kin) (x : Int) (hf : T.length ≤ 16) : (way T x).length ≤ 16 := Nat.le_trans (way_len T x) hf
/-- Tree.Below. -/
theorem below_c (q b : Nat) (T : Kin) (x y : Int) (w : World) (h : TreeAt w q b T) (h0 : -9223372036854775808 ≤ x) (h1 : x ≤ 9223372036854775807) :
    Calls Tryd.prog 18 #[.pointer (some ⟨q, 0, none⟩), .int .i64 x, .int .i64 y] w fun e w' => e = .returned (.bool ((way T x).contains y)) ∧ Below w.heap.size w w' := by
  have ch := way_c q b T x w h h0 h1
  have hl := way_few T x h.few
  obtain ⟨L, hL⟩ : ∃ L, way T x = L := ⟨_, rfl⟩
  rw [hL] at ch hl ⊢
  obtain ⟨B, hB⟩ : ∃ B, L.contains y = B := ⟨_, rfl⟩
  have HB := Lib.hid hB
  rw [hB]
  clear h h0 h1 hL hB
  go_enter Tryd.func18, Tryd.ntmps18
  go_wp2_with (first
    | (go_at_call 21; refine ch.mono ?_; rintro e w' ⟨v, rfl, ho, hb⟩; have cc := contains_own _ v L y w' ho (by omega); rw [HB.out] at cc)
    | (go_at_call 31; refine cc.mono ?_; rintro e w'' ⟨rfl, rfl⟩))
  go_ret
  exact ⟨rfl, hb⟩
/-- Tree.Depth. -/
theorem depth_c (q b : Nat) (T : Kin) (x : Int) (w : World) (h : TreeAt w q b T) (h0 : -9223372036854775808 ≤ x) (h1 : x ≤ 9223372036854775807) :
    Calls Tryd.prog 24 #[.pointer (some ⟨q, 0, none⟩), .int .i64 x] w fun e w' => e = .returned (.int .i64 (((way T x).length - 1 : Nat) : Int)) ∧ Below w.heap.size w w' := by
  have ch := way_c q b T x w h h0 h1
  have hl := way_few T x h.few
  obtain ⟨L, hL⟩ : ∃ L, way T x = L := ⟨_, rfl⟩
  rw [hL] at ch hl ⊢
  clear h h0 h1 hL
  go_enter Tryd.func24, Tryd.ntmps24
  go_wp2_with (go_at_call 21; refine ch.mono ?_; rintro e w' ⟨v, rfl, ho, hb⟩; obtain ⟨a, c, rfl⟩ : ∃ a c, v = .slice a L.length c := by rcases ho.shape with ⟨rfl, rfl⟩ | ⟨g, c, rfl, _⟩ <;> exact ⟨_, _, rfl⟩)
  go_ret
  exact ⟨ret_i (by omega), hb⟩

/-- slices.Sort's two contracts, as slices.Sorted asks them. -/
theorem sortsI (m : Nat) : AnyZI.SortsIn Tryd.prog renz Fence.wide m :=
  ⟨fun blk off cap ss W hH hblk hsz => callsIn_wide.2 (Any.slices_Sort_int lay189 blk off cap ss W hH hblk hsz), fun p cap W => callsIn_wide.2 (Any.slices_Sort_int_none lay189 p cap W)⟩
/-- maps.Keys. -/
theorem keys_c (mb : Option Nat) (W : World) : Calls Tryd.prog 34 #[.map mb] W fun e w' => e = .returned (.func (.func 41) #[] #[.pointer (some ⟨W.heap.size, 0, none⟩)]) ∧ w' = W.alloc (.cells #[.map mb] 49) :=
  callsIn_wide.1 (AnyZI.keys_in layz7 Fence.wide 5 trivial rfl mb W)
/-- slices.Sorted over maps.Keys. -/
theorem sorted_c (b nn : Nat) (D : DataW Unit) (w : World) (hown : w.ownsMap Tryd.prog 3 (plainElem Tryd.prog 3) b nn D) (hf : Maps.size D ≤ 1000) :
    Calls Tryd.prog 33 #[.func (.func 41) #[] #[.pointer (some ⟨w.heap.size, 0, none⟩)]] (w.alloc (.cells #[.map (some b)] 49)) fun e w' =>
      ∃ (v : Value) (ss : List Int), e = .returned v ∧ ss.Perm (intKeys D) ∧ IOwn w' (w.heap.size + 1) v (ss.mergeSort leI) ∧ Below (w.heap.size + 1) (w.alloc (.cells #[.map (some b)] 49)) w' := by
  have hbl := hown.lt
  have hseq : SeqGives Fence.wide 2 Tryd.prog 41 #[.pointer (some ⟨w.heap.size, 0, none⟩)] encZ (fun ss => ss.Perm (intKeys D)) (Maps.size D) (w.alloc (.cells #[.map (some b)] 49)) :=
    AnyZI.keys_gives (ρ := renz) { layz7 with } Fence.wide _ trivial rfl (by omega) w.heap.size b nn D _ (by simp) (by simp) (hown.alloc _)
  have cS := AnyZI.sorted_in layz6 Fence.wide 5 trivial trivial trivial trivial rfl (by omega) (sortsI _) (enters_of Tryd.func37 (by kernel_rfl) rfl) 41 #[.pointer (some ⟨w.heap.size, 0, none⟩)] trivial (enters_of Tryd.func41 (by kernel_rfl) rfl) _ _ (by unfold maxLen; omega) (by omega) _ hseq
  refine (callsIn_wide.1 cS).mono ?_
  rintro e w' ⟨v, ss, rfl, hp, hrow, _, hb⟩
  have e1 : (w.alloc (.cells #[.map (some b)] 49)).heap.size = w.heap.size + 1 := by simp
  rw [e1] at hrow hb
  refine ⟨v, ss, rfl, hp, ?_, hb⟩
  unfold IOwn
  rw [show (ss.mergeSort leI).length = ss.length by simp]
  exact hrow
theorem keys_sorted {D : DataW Unit} {T : Kin} {w : World} {b n : Nat} (hown : w.ownsMap Tryd.prog 3 (plainElem Tryd.prog 3) b n D) (h : Means D T) (g : Good T) : (intKeys D).mergeSort leI = alls T := by
  obtain ⟨es, hD, hpw, _⟩ := hown.entries lawI
  obtain ⟨es', hD', hko⟩ := hown.keysOf
  obtain rfl : es = es' := by rw [hD] at hD'; simpa using hD'
  have hk : ∀ p ∈ es, ∃ x, p.1 = .int .i64 x := fun p hp => by
    obtain ⟨v, hv⟩ := hko p hp
    obtain ⟨x, _, hx, _⟩ := Maps.keyOf_i64 Tryd.underlying3 hv
    exact ⟨x, hx⟩
  have hm : ∀ x, x ∈ alls T ↔ Maps.has D (.int .i64 x) = true := fun x => by rw [g.alls_mem, h.has]
  subst hD
  have hp := perm_intKeys hpw hk (filter_nodup _) hm
  rw [← mergeSort_of_perm_i hp]
  exact filter_sorted _

set_option maxRecDepth 100000 in
/-- Tree.All. -/
theorem all_c (q b : Nat) (T : Kin) (w : World) (h : TreeAt w q b T) :
    Calls Tryd.prog 25 #[.pointer (some ⟨q, 0, none⟩)] w fun e w' => ∃ v, e = .returned v ∧ IOwn w' w.heap.size v (alls T) ∧ Below w.heap.size w w' := by
  have ck := known_c q b w h.box
  have ckk := keys_c (some b) w
  obtain ⟨D, hown, hme⟩ := h.map
  have hsz : Maps.size D ≤ 1000 := by have := hme.size; have := h.few; omega
  have cs := sorted_c b _ D w hown hsz
  have HK := Lib.hid (keys_sorted hown hme h.good)
  clear h hown hme hsz
  go_enter Tryd.func25, Tryd.ntmps25
  go_wp2_with (first
    | (go_at_call 28; refine ck.mono ?_; rintro e w ⟨rfl, rfl⟩)
    | (go_at_call 34; refine ckk.mono ?_; rintro e w' ⟨rfl, rfl⟩)
    | (go_at_call 33; refine cs.mono ?_; rintro e w' ⟨v, ss, rfl, hp, ho, hb⟩))
  go_ret
  refine ⟨v, rfl, ?_, ((Below.refl _ w).alloc (Nat.le_refl _) _).trans (hb.mono (Nat.le_succ _))⟩
  rw [mergeSort_of_perm_i hp, HK.out] at ho
  refine ⟨ho.1, ?_⟩
  rcases ho.2 with k | ⟨g, cap, cur, rfl, hbase, r⟩
  · exact .inl k
  · exact .inr ⟨g, cap, cur, rfl, by omega, r⟩
end Go.Proofs.YtaibmdjcppeopaaDoor
