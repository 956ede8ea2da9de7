/- The walk of the law FrameTorn: whatever the arguments, it returns true. Conditions: the sentinels and the type's variable lie as the program's text lays them. -/
import Derived.Test.YtbiofjdlfppfoaaDoorFrOw
import Derived.Test.YtbiofjdlfppfoaaDoorFrSz
import Derived.Test.YtbiofjdlfppfoaaDoorFrBk
import Derived.Test.YtbiofjdlfppfoaaDoorFrAt
import Derived.Deep.RegionLaw
namespace Go.Proofs.YtbiofjdlfppfoaaDoor
open Go Go.RowKit

/-- The row that the law lays: the first k blocks, the next one torn, zeros behind. -/
def rowT (X : List (List UInt8)) (k t : Nat) : List (List UInt8) := (List.range X.length).map fun i => if i < k then X.getD i [] else if i = k then tornB (X.getD i []) t else zeroF
theorem rowT_len (X : List (List UInt8)) (k t : Nat) : (rowT X k t).length = X.length := by simp [rowT]
theorem rowT_low {X : List (List UInt8)} {k t i : Nat} {b : List UInt8} (hi : i < k) (hb : X[i]? = some b) : (rowT X k t)[i]? = some b := by
  obtain ⟨hl, rfl⟩ := List.getElem?_eq_some_iff.1 hb
  simp [rowT, hl, hi]
theorem rowT_at {X : List (List UInt8)} {k t : Nat} {b : List UInt8} (hb : X[k]? = some b) : (rowT X k t)[k]? = some (tornB b t) := by
  obtain ⟨hl, rfl⟩ := List.getElem?_eq_some_iff.1 hb
  simp [rowT, hl]
theorem rowT_up {X : List (List UInt8)} {k t i : Nat} (hi : k < i) (hl : i < X.length) : (rowT X k t)[i]? = some zeroF := by
  simp [rowT, hl, show ¬ i < k by omega, show ¬ i = k by omega]
theorem torn_is (b : List UInt8) (t : Nat) (_hb : b.length = 64) (_ht : t ≤ 64) : (bst b).extract 0 t ++ (bst zeroF).extract t 64 = bst (tornB b t) := by
  rw [bst_cut, bst_cut, bst_cat, List.drop_zero, Nat.sub_zero]
  unfold tornB zeroF
  rw [List.drop_replicate, List.take_of_length_le (l := List.replicate (64 - t) 0) (by simp)]

theorem run_cut_to (X : ByteArray) (j : Int) (b : Nat) (w : World) (hj : j = b) (hb : b ≤ X.size) :
    (Instr.slice 9 (.string X) none (some (.int .i64 j)) none).run Tryd.prog w = .ok (.string (X.extract 0 b)) w := by
  subst hj
  have h2 : (b : Int) ≤ (X.size : Int) := by omega
  have h4 : (0 : Int) ≤ (b : Int) := by omega
  simp [Instr.slice, run_underlying Tryd.underlying9, h2, h4, go_sem]
theorem cell_n0 (w : World) (v : Value) (t : TypeId) : (w.alloc (.cells #[v] t)).cell? ((⟨w.heap.size, 0, none⟩ : Addr).add 0) = some v := by
  rw [adr0, World.cell?_alloc_at _ _ _ _ rfl]; rfl
theorem cell_n1 (w : World) (v : Value) (t : TypeId) : (w.alloc (.cells #[v] t)).drew.cell? ((⟨w.heap.size, 0, none⟩ : Addr).add 0) = some v := cell_n0 w v t

/-- What a round of the loop begins with. -/
def TRel (w : World) (base gx : Nat) (X : List (List UInt8)) (k t : Nat) (l i : Value) (wr : World) : Prop :=
  ∃ (j : Nat) (v : Value), v = l ∧ i = .int .i64 j ∧ j ≤ X.length ∧ wr.ownsRow base 9 1 v j (strVs ((rowT X k t).take j)) ∧ RowV wr gx (strVs X) ∧ Below w.heap.size w wr ∧ base ≤ wr.heap.size
theorem TRel.step {w wr W w3 : World} {base gx k t j N : Nat} {X : List (List UInt8)} {v v' : Value} {b : List UInt8} (hj : j < X.length) (hx : RowV wr gx (strVs X)) (hb : Below w.heap.size w wr) (hN : N = j + 1)
    (hown : w3.ownsRow base 9 1 v' N (strVs ((rowT X k t).take j) ++ strVs [b])) (hat : (rowT X k t)[j]? = some b) (hW : Below wr.heap.size wr W) (hg : W.grownBy w3 v.ownBlock) (hob : ∀ q, v.ownBlock = some q → base ≤ q) (hgx : gx < base) (hw : w.heap.size ≤ base) (hbs : base ≤ wr.heap.size) :
    TRel w base gx X k t v' (.int .i64 ((j : Int) + 1)) w3 := by
  subst hN
  refine ⟨j + 1, v', rfl, ret_v (by omega), hj, ?_, (hx.below hW hx.lt).grown hg (fun e => by have := hob gx e; omega), (hb.trans (hW.mono hb.size)).grown hg (Nat.le_trans hb.size hW.size) (fun q hq => Nat.le_trans hw (hob q hq)), Nat.le_trans hbs (Nat.le_trans hW.size hg.size)⟩
  rw [strVs_app] at hown
  rw [List.take_add_one, hat]
  exact hown
theorem TRel.drew {w wr : World} {base gx k t : Nat} {X : List (List UInt8)} {l i : Value} (h : TRel w base gx X k t l i wr) : TRel w base gx X k t l i wr.drew := by
  obtain ⟨j, v, h1, h2, h3, h4, h5, h6, h7⟩ := h
  exact ⟨j, v, h1, h2, h3, own_same h4 (fun _ _ => rfl), h5, h6.drew, h7⟩
theorem TRel.drewN {w wr : World} {base gx k t : Nat} {X : List (List UInt8)} {l i : Value} (h : TRel w base gx X k t l i wr) (n : Nat) : TRel w base gx X k t l i (wr.drewN n) := by
  obtain ⟨j, v, h1, h2, h3, h4, h5, h6, h7⟩ := h
  exact ⟨j, v, h1, h2, h3, own_same h4 (fun _ _ => rfl), h5, below_drewN h6 n, h7⟩

/-- 'append(l, s)' as one step of a region. -/
theorem step_app {ops : Array Oper} {o : Oper} {a : Act} {w : World} {K : Act → World → Prop} {Q : Exit → Act → World → Prop} {E : Prop} (hgd : o.guard = none) (s x : Operand)
    (ho : o.op = .call { callee := .builtin .append, args := #[s, x], argTypes := #[22, 22] }) (base n : Nat) (F : List (List UInt8)) (b : List UInt8) (v : Value) (hs : a.eval s = v) (ad : Addr) (c : Nat) (hx : a.eval x = .slice (some ad) 1 c)
    (hc : w.cell? (ad.add 0) = some (.string (bst b))) (hown : w.ownsRow base 9 1 v n (strVs F)) (hl : n ≤ 4096) (hbase : base ≤ w.heap.size)
    (h : ∀ v' w', w'.ownsRow base 9 1 v' (n + 1) (strVs F ++ strVs [b]) → w.grownBy w' v.ownBlock → K (a.put o.dst v') w') :
    if Region.wanted o (yielded ops a.tmps) = true then Oper.wp Tryd.prog o a w K Q else E := by
  have hw : Region.wanted o (yielded ops a.tmps) = true := by simp [Region.wanted, hgd]
  rw [if_pos hw]
  obtain ⟨ti, hi, hz0, hz1, hz2⟩ := Tryd.infoS4
  obtain ⟨v', w3, hrun, h2, h3, h4, h5⟩ := run_append_own_at (P := Tryd.prog) w base 22 o.type 9 ti _ 1 16 Tryd.underlying22 hi hz0 hz1 hz2 rfl (by decide) v n (strVs F) hown ad 1 c (strVs [b]) rfl
    (fun j u hu => by
      match j, hu with
      | 0, hu => rw [hc]; exact hu) (strVs_one [b]) (by unfold maxLen; omega) (by omega) hbase
  unfold Oper.wp execOp
  simp only [ho, resolve, invoke, builtin, Sem.run_bind, Sem.run_pure, Result.andThen_ok, List.map_toArray, List.map_cons, List.map_nil, hs, hx, hrun]
  exact h _ _ h2 h3

set_option maxHeartbeats 6400000 in
set_option maxRecDepth 100000 in
theorem torn_any (s : Nat → Addr) (a : ByteArray) (m F T : Int) (w : World) (hs : Sent s w) (hy : ETy w) (ha : a.size ≤ 9223372036854775807) :
    Calls Tryd.prog 5 #[.string a, .int .i64 m, .int .i64 F, .int .i64 T] w fun e w' => e = .returned (.bool true) ∧ Below w.heap.size w w' := by
  by_cases hbig : 400 < a.size
  · have h1i : (400 : Int) < (a.size : Int) := by omega
    go_enter Tryd.func5, Tryd.ntmps5
    go_wp2_with fail
    refine (awake_c s _ hs).mono ?_
    rintro e w1 ⟨rfl, b1⟩
    go_wp2_with fail
    go_ret
    exact ⟨rfl, b1⟩
  · have h1i : ¬ (400 : Int) < (a.size : Int) := by omega
    obtain ⟨i, hi1, hi2, ei⟩ := mod_one m
    obtain ⟨X, hX⟩ : ∃ X, framesF i a.data.toList = X := ⟨_, rfl⟩
    have lX : X.length = nblk a.size := by rw [← hX, framesF_len, size_len]
    have nx : 1 ≤ X.length ∧ X.length ≤ 108 := by rw [lX]; unfold nblk; omega
    obtain ⟨k, hk, ek⟩ := mod_pos F X.length (by omega) (by omega)
    obtain ⟨t, ht, et⟩ := mod_pos T 65 (by omega) (by omega)
    have et' : wrap64 ((IntKind.u64.wrap T).tmod 65) = (t : Int) := et
    have hbx := fun W => blocks_ok i a W (by omega) (by omega) (by omega)
    rw [hX, ← lX] at hbx
    obtain ⟨b, hb⟩ : ∃ b, X[k]? = some b := ⟨_, List.getElem?_eq_getElem hk⟩
    have hb64 : b.length = 64 := by
      rw [← hX, framesF_get _ _ _ (by rw [size_len, ← lX]; exact hk)] at hb
      cases hb
      exact blkF_len (payF_len _) (by rw [size_len, ← lX]; exact hk)
    have hrd := torn_read (seq := i) (k := k) (t := t) (d := a.data.toList) (l := rowT X k t) (b := b) (by omega) (by omega) (by rw [size_len]; omega) (by rw [size_len, ← lX]; exact hk) (by omega) (by rw [hX]; exact hb) (by rw [rowT_len, lX, size_len])
      (fun j hj => by rw [hX, rowT_low hj (List.getElem?_eq_getElem (by omega)), List.getElem?_eq_getElem (by omega)]) (rowT_at hb) (fun j hj hl => rowT_up hj (by rw [size_len, ← lX] at hl; exact hl))
    rw [size_len, ← lX] at hrd
    have HBX := Lib.hid hbx; have HRD := Lib.hid hrd; have EI := Lib.hid ei; have EK := Lib.hid ek; have ET := Lib.hid et'
    have uw : IntKind.u64.wrap (X.length : Int) = (X.length : Int) := by rw [IntKind.wrap_u64]; omega
    have un : ¬ (X.length : Int) = 0 := by omega
    have UN0 : Hid (((X.length : Int) == 0) = false) := Lib.hid (by rw [beq_eq_false_iff_ne]; exact un)
    clear hbx hrd ei ek et et' hX lX
    go_enter Tryd.func5, Tryd.ntmps5
    go_wp2_with fail
    refine (awake_c s _ hs).mono ?_
    rintro e w1 ⟨rfl, b1⟩
    go_wp2_with fail
    rw [EI.out]
    refine (HBX.out _).mono ?_
    rintro e w2 ⟨⟨gx, rfl, rx, hgx⟩, b2⟩
    have B2 : Hid (Below w.heap.size w w2) := Lib.hid (b1.trans (b2.mono b1.size))
    have lx2 := rx.lt
    have RX2 := Lib.hid rx
    clear b1 b2 rx
    obtain ⟨Z, hZ⟩ : ∃ Z, bst zeroF = Z := ⟨_, rfl⟩
    have hzs : Z.size = 64 := by rw [← hZ, bst_size]; rfl
    have hmk : (Instr.makeSlice 40 (.int .i64 64) (.int .i64 64)).run Tryd.prog w2 = .ok (.slice (some ⟨w2.heap.size, 0, none⟩) 64 64) (w2.alloc (.cells (madeCells #[.int .u8 0] 64) 5)) :=
      run_make_row' _ _ _ 1 Tryd.underlying40 Tryd.infoB rfl .i64 .i64 64 (by omega) (by omega) w2
    have hcv : (convert 40 9 (.slice (some ⟨w2.heap.size, 0, none⟩) 64 64)).run Tryd.prog (w2.alloc (.cells (madeCells #[.int .u8 0] 64) 5)) = .ok (.string Z) (w2.alloc (.cells (madeCells #[.int .u8 0] 64) 5)) := by
      have h1 : BytV (w2.alloc (.cells (madeCells #[.int .u8 0] 64) 5)) w2.heap.size zeroF := by
        show (w2.alloc _).heap[w2.heap.size]? = _
        rw [heap_alloc_new]
        unfold zeroF byteVs
        rw [List.map_replicate, ← toList_madeCells_one]
        rfl
      have h2 := h1.conv (by decide)
      rw [hZ] at h2
      exact h2
    have hbase : w.heap.size ≤ w2.heap.size + 1 := by have := B2.out.size; omega
    have hgb : gx < w2.heap.size + 1 := by omega
    obtain ⟨base, hbs⟩ : ∃ base, base = w2.heap.size + 1 := ⟨_, rfl⟩
    have hst : TRel w base gx X k t (.slice (some ⟨w2.heap.size + 1, 0, none⟩) 0 0) (.int .i64 0) ((w2.alloc (.cells (madeCells #[.int .u8 0] 64) 5)).alloc (.cells #[] 9)) := by
      refine ⟨0, _, rfl, rfl, Nat.zero_le _, ?_, (RX2.out.alloc _).alloc _, (B2.out.alloc B2.out.size _).alloc (by rw [World.size_alloc]; exact hbase) _, by rw [World.size_alloc, World.size_alloc, hbs]; omega⟩
      have := World.ownsRow_made (e := 9) (size := 1) (base := base) (w2.alloc (.cells (madeCells #[.int .u8 0] 64) 5)) #[] 0 (by rw [World.size_alloc, hbs]; exact Nat.le_refl _) (by unfold maxLen; omega) rfl
      rw [World.size_alloc] at this
      exact this
    rw [← hbs] at hbase hgb
    have HST := Lib.hid hst; clear hst hbs
    go_wp2_with fail
    rw [EK.out, ET.out]
    try rw [UN0.out]
    clear hmk hcv uw un EK ET EI HBX
    go_loopw [14, 15] (fun l i wr => TRel w base gx X k t l i wr) (fun _ i _ => X.length - (intOf i).toNat)
    case atStart => exact HST.out
    case round =>
      obtain ⟨j, l, rfl, rfl, hj, hown, hx, hb', hbz⟩ := hrel
      clear HST
      obtain ⟨ti, hi, hz0, hz1, hz2⟩ := Tryd.infoS4
      have hob : ∀ q, l.ownBlock = some q → base ≤ q := fun q hq => (hown.lt q hq).1
      have OB := Lib.hid hob; clear hob
      have hsz := hb'.size
      by_cases hjn : j < X.length
      · obtain ⟨x, hxj⟩ : ∃ x, X[j]? = some x := ⟨_, List.getElem?_eq_getElem hjn⟩
        have cx := hx.cell (j := j) (v := .string (bst x)) (by rw [strVs_get, hxj]; rfl)
        have lxr := hx.lt
        have ji : (j : Int) < (X.length : Int) := by omega
        have j0 : (0 : Int) ≤ (j : Int) := by omega
        rcases Nat.lt_trichotomy j k with hjk | hjk | hjk
        · have jk : (j : Int) < (k : Int) := by omega
          have HS : Hid (∀ v' w3, w3.ownsRow base 9 1 v' (j + 1) (strVs ((rowT X k t).take j) ++ strVs [x]) → (wr.alloc (.cells #[.string (bst x)] 9)).grownBy w3 l.ownBlock → TRel w base gx X k t v' (.int .i64 ((j : Int) + 1)) w3) := Lib.hid fun v' w3 g1 g2 =>
            TRel.step hjn hx hb' rfl g1 (rowT_low hjk hxj) ((Below.refl _ wr).alloc (Nat.le_refl _) _) g2 OB.out hgb hbase hbz
          clear hx hb'
          go_wp2_with (first | (at_builtin; refine wpList_append_own_at _ rfl _ _ 22 rfl base 9 ti _ 1 16 Tryd.underlying22 hi hz0 hz1 hz2 rfl (by decide) _ j _ rfl (hown.alloc _) ⟨wr.heap.size, 0, none⟩ 1 1 (strVs [x]) rfl ?c0 ?c1 ?c2 ?c3 ?c4 ?c5 ?_))
          case c0 => rfl
          case c1 =>
            intro q u hu
            match q, hu with
            | 0, hu => exact (cell_n0 wr _ _).trans hu
          case c2 => exact strVs_one [x]
          case c3 => unfold maxLen; omega
          case c4 => omega
          case c5 => rw [World.size_alloc]; omega
          intro v' w3 g1 g2 _ _
          have G := Lib.hid (HS.out v' w3 g1 g2)
          clear g1 g2 hown
          go_wp2_with fail
          go_roundw
          case rel => exact G.out
          case measure => simp [intOf]; omega
        · subst hjk
          obtain rfl := Option.some.inj (hxj.symm.trans hb)
          obtain ⟨S, hS⟩ : ∃ S, bst x = S := ⟨_, rfl⟩
          have hss : S.size = 64 := by rw [← hS, bst_size, hb64]
          have hti : S.extract 0 t ++ Z.extract t 64 = bst (tornB x t) := by rw [← hS, ← hZ]; exact torn_is x t hb64 (by omega)
          have HTI := Lib.hid hti; clear hti
          have s1 := fun W => run_cut_to S (t : Int) t W rfl (by omega)
          have s2 := fun W => run_cut_from Z (t : Int) t W rfl (by omega)
          have x1 : (S.extract 0 t).size = t := by rw [cut_size _ _ _ (by omega) (by omega)]; omega
          have x2 : (Z.extract t 64).size = 64 - t := by rw [cut_size _ _ _ (by omega) (by omega)]
          have x3 : ¬ 9223372036854775807 < t + (64 - t) := by omega
          have jn : ¬ (j : Int) < (j : Int) := by omega
          have HS : Hid (∀ W v' w3, Below wr.heap.size wr W → w3.ownsRow base 9 1 v' (j + 1) (strVs ((rowT X j t).take j) ++ strVs [tornB x t]) → W.grownBy w3 l.ownBlock → TRel w base gx X j t v' (.int .i64 ((j : Int) + 1)) w3) := Lib.hid fun W v' w3 g0 g1 g2 =>
            TRel.step hjn hx hb' rfl g1 (rowT_at hb) g0 g2 OB.out hgb hbase hbz
          have HO : Hid (∀ W, Below wr.heap.size wr W → W.ownsRow base 9 1 l j (strVs ((rowT X j t).take j))) := Lib.hid fun W g0 => own_same hown fun q hq => g0.block q (hown.lt q hq).2
          have hj4 : j ≤ 4096 := by omega
          rw [hS] at cx
          clear hx hb' hown hS hb hxj
          go_wp2_with fail
          go_region_law (refine step_app rfl (.tmp 75) (.tmp 86) rfl base j _ (tornB x t) l rfl ⟨wr.heap.size, 0, none⟩ 1 rfl (by rw [← HTI.out]; first | exact cell_n1 _ _ _ | exact cell_n0 _ _ _) (HO.out _ (by (repeat' (first | (with_reducible exact Below.refl _ _) | (with_reducible refine below_drewN ?_ _) | (with_reducible refine Below.drew ?_) | (with_reducible refine Below.alloc ?_ ?_ _) | (with_reducible refine Below.setCell ?_ ?_ _) | (with_reducible refine Below.trans ?_ (Below.mono (by with_reducible assumption) ?_)) | omega | (simp only [World.size_alloc, World.size_setCell, World.size_drew, Go.Proofs.YtbiofjdlfppfoaaDoor.World.size_drewN] at *; omega) | (with_reducible refine Below.size (B := 0) ?_))))) hj4 (by first | (simp only [World.size_alloc, World.size_drew]; omega) | (simp only [World.size_drew, World.size_alloc]; omega)) ?_; intro v' w3 g1 g2; have G := Lib.hid (HS.out _ v' w3 (by (repeat' (first | (with_reducible exact Below.refl _ _) | (with_reducible refine below_drewN ?_ _) | (with_reducible refine Below.drew ?_) | (with_reducible refine Below.alloc ?_ ?_ _) | (with_reducible refine Below.setCell ?_ ?_ _) | (with_reducible refine Below.trans ?_ (Below.mono (by with_reducible assumption) ?_)) | omega | (simp only [World.size_alloc, World.size_setCell, World.size_drew, Go.Proofs.YtbiofjdlfppfoaaDoor.World.size_drewN] at *; omega) | (with_reducible refine Below.size (B := 0) ?_)))) g1 g2); clear g1 g2)
          all_goals go_wp2_with fail
          all_goals go_roundw
          all_goals first
            | (simp [intOf]; omega)
            | (repeat' (first | (with_reducible exact G.out) | (with_reducible refine TRel.drew ?_) | (with_reducible refine TRel.drewN ?_ _)))
        · have jk : ¬ (j : Int) < (k : Int) := by omega
          have jk2 : ((j : Int) == (k : Int)) = false := by rw [beq_eq_false_iff_ne]; omega
          have HS : Hid (∀ v' w3, w3.ownsRow base 9 1 v' (j + 1) (strVs ((rowT X k t).take j) ++ strVs [zeroF]) → (wr.alloc (.cells #[.string Z] 9)).grownBy w3 l.ownBlock → TRel w base gx X k t v' (.int .i64 ((j : Int) + 1)) w3) := Lib.hid fun v' w3 g1 g2 =>
            TRel.step hjn hx hb' rfl g1 (rowT_up hjk hjn) ((Below.refl _ wr).alloc (Nat.le_refl _) _) g2 OB.out hgb hbase hbz
          clear hx hb'
          go_wp2_with (first | (at_builtin; refine wpList_append_own_at _ rfl _ _ 22 rfl base 9 ti _ 1 16 Tryd.underlying22 hi hz0 hz1 hz2 rfl (by decide) _ j _ rfl (hown.alloc _) ⟨wr.heap.size, 0, none⟩ 1 1 (strVs [zeroF]) rfl ?c0 ?c1 ?c2 ?c3 ?c4 ?c5 ?_))
          case c0 => rfl
          case c1 =>
            intro q u hu
            match q, hu with
            | 0, hu =>
              have hu' : Value.string (bst zeroF) = u := by simpa [strVs] using hu
              rw [← hu', hZ]; first | rfl | exact cell_n0 wr _ _
          case c2 => exact strVs_one [zeroF]
          case c3 => unfold maxLen; omega
          case c4 => omega
          case c5 => first | omega | (rw [World.size_alloc]; omega)
          intro v' w3 g1 g2 _ _
          have G := Lib.hid (HS.out v' w3 g1 g2)
          clear g1 g2 hown
          go_wp2_with fail
          go_roundw
          case rel => exact G.out
          case measure => simp [intOf]; omega
      · obtain rfl : j = X.length := by omega
        have htk : (rowT X k t).take X.length = rowT X k t := List.take_of_length_le (by rw [rowT_len]; exact Nat.le_refl _)
        rw [htk] at hown
        obtain ⟨g, cap, hv2, hcap, hsr, hlen⟩ := own_srow hown (by omega)
        rw [rowT_len] at hv2 hcap
        subst hv2
        have hs4 : Sent s wr := hs.below hb' (Nat.le_refl _)
        have hrd := read_c s wr.heap.size cap (some ⟨g, 0, none⟩) ((rowT X k t).map bst) wr hs4 (by rw [List.length_map, rowT_len]; omega) (by rw [List.length_map, rowT_len]; exact hcap) hsr (Nat.le_refl _)
        rw [rows_bst, HRD.out, List.length_map, rowT_len] at hrd
        have hcT := hsr.cell (i := k) (z := bst (tornB b t)) (by rw [List.getElem?_map, rowT_at hb]; rfl)
        have hcX := hx.cell (j := k) (v := .string (bst b)) (by rw [strVs_get, hb]; rfl)
        obtain ⟨ad, e1, hlg, hcT⟩ := hcT
        cases e1
        rw [adr0] at hcT
        obtain ⟨TB, hTB⟩ : ∃ TB, bst (tornB b t) = TB := ⟨_, rfl⟩
        obtain ⟨XB, hXB⟩ : ∃ XB, bst b = XB := ⟨_, rfl⟩
        have hcm : (TB.toList == XB.toList) = decide (tornB b t = b) := by
          rw [str_beq, ← hTB, ← hXB, Bool.eq_iff_iff, decide_eq_true_eq, decide_eq_true_eq]
          exact ⟨bst_inj, fun h => by rw [h]⟩
        rw [hTB] at hcT
        rw [hXB] at hcX
        have HR := Lib.hid hrd
        have HB := Lib.hid hb'
        have lxr := hx.lt
        clear hrd hsr hown hx hb' hTB hXB hb htk hlen hcap
        have hlg' : g < wr.heap.size := hlg
        clear hlg
        have jn : ¬ (X.length : Int) < (X.length : Int) := by omega
        have ki : (k : Int) < (X.length : Int) := by omega
        have k0 : (0 : Int) ≤ (k : Int) := by omega
        go_wp2_with fail
        refine (HR.out).mono ?_
        rintro e w6 ⟨h6, b6⟩
        have B6 : Hid (Below w.heap.size w w6) := Lib.hid (HB.out.trans (b6.mono HB.out.size))
        have cT := (b6.cell (p := ⟨g, k, none⟩) hlg').trans hcT
        have cX := (b6.cell (p := ⟨gx, k, none⟩) lxr).trans hcX
        have hs6 : Sent s w6 := hs.below B6.out (Nat.le_refl _)
        have hy6 : ETy w6 := hy.below B6.out (Nat.le_refl _)
        have HS6 := Lib.hid hs6
        have HY6 := Lib.hid hy6
        have z6 := b6.size
        have lg6 : g < w6.heap.size := by omega
        have lx6 : gx < w6.heap.size := by omega
        clear b6 hcT hcX hs6 hy6 hs4
        by_cases heq : tornB b t = b
        · rw [if_pos heq] at h6
          rw [decide_eq_true heq] at hcm
          by_cases hkN : k + 1 = X.length
          · rw [if_pos hkN] at h6
            obtain rfl := h6
            have kN : (k : Int) + 1 = (X.length : Int) := by omega
            rw [← bst_of a]
            go_wp2_with fail
            go_region
            all_goals go_wp2_with fail
            all_goals go_ret
            all_goals exact ⟨rfl, by first | exact B6.out | exact B6.out.drew | exact below_drewN B6.out _⟩
          · rw [if_neg hkN] at h6
            obtain ⟨ev, rfl, hv⟩ := h6
            have HV := Lib.hid hv; clear hv
            have kN : ((k : Int) + 1 == (X.length : Int)) = false := by rw [beq_eq_false_iff_ne]; omega
            go_wp2_with fail
            go_region
            all_goals go_wp2_with fail
            all_goals (refine (at_fault s (k + 1) ev _ (HS6.out.below (B := w6.heap.size) (by (repeat' (first | (with_reducible exact Below.refl _ _) | (with_reducible refine below_drewN ?_ _) | (with_reducible refine Below.drew ?_) | (with_reducible refine Below.alloc ?_ ?_ _) | (with_reducible refine Below.setCell ?_ ?_ _) | (with_reducible refine Below.trans ?_ (Below.mono (by with_reducible assumption) ?_)) | omega | (simp only [World.size_alloc, World.size_setCell, World.size_drew, Go.Proofs.YtbiofjdlfppfoaaDoor.World.size_drewN] at *; omega) | (with_reducible refine Below.size (B := 0) ?_)))) (Nat.le_refl _)) (HY6.out.below (B := w6.heap.size) (by (repeat' (first | (with_reducible exact Below.refl _ _) | (with_reducible refine below_drewN ?_ _) | (with_reducible refine Below.drew ?_) | (with_reducible refine Below.alloc ?_ ?_ _) | (with_reducible refine Below.setCell ?_ ?_ _) | (with_reducible refine Below.trans ?_ (Below.mono (by with_reducible assumption) ?_)) | omega | (simp only [World.size_alloc, World.size_setCell, World.size_drew, Go.Proofs.YtbiofjdlfppfoaaDoor.World.size_drewN] at *; omega) | (with_reducible refine Below.size (B := 0) ?_)))) (Nat.le_refl _)) (HV.out.below (B := w6.heap.size) (by (repeat' (first | (with_reducible exact Below.refl _ _) | (with_reducible refine below_drewN ?_ _) | (with_reducible refine Below.drew ?_) | (with_reducible refine Below.alloc ?_ ?_ _) | (with_reducible refine Below.setCell ?_ ?_ _) | (with_reducible refine Below.trans ?_ (Below.mono (by with_reducible assumption) ?_)) | omega | (simp only [World.size_alloc, World.size_setCell, World.size_drew, Go.Proofs.YtbiofjdlfppfoaaDoor.World.size_drewN] at *; omega) | (with_reducible refine Below.size (B := 0) ?_)))) (Nat.le_refl _))).mono ?_; rintro e w7 ⟨rfl, b7⟩)
            all_goals have HB7 : Hid (Below w.heap.size w w7) := Lib.hid (B6.out.trans ((show Below w6.heap.size w6 w7 by (repeat' (first | (with_reducible exact Below.refl _ _) | (with_reducible refine below_drewN ?_ _) | (with_reducible refine Below.drew ?_) | (with_reducible refine Below.alloc ?_ ?_ _) | (with_reducible refine Below.setCell ?_ ?_ _) | (with_reducible refine Below.trans ?_ (Below.mono (by with_reducible assumption) ?_)) | omega | (simp only [World.size_alloc, World.size_setCell, World.size_drew, Go.Proofs.YtbiofjdlfppfoaaDoor.World.size_drewN] at *; omega) | (with_reducible refine Below.size (B := 0) ?_)))).mono B6.out.size))
            all_goals clear b7
            all_goals go_wp2_with fail
            all_goals go_ret
            all_goals exact ⟨by first | rfl | (simp; done), HB7.out⟩
        · rw [if_neg heq] at h6
          rw [decide_eq_false heq] at hcm
          obtain ⟨ev, rfl, hv⟩ := h6
          have HV := Lib.hid hv; clear hv
          go_wp2_with fail
          go_region
          all_goals go_wp2_with fail
          all_goals (refine (at_fault s k ev _ (HS6.out.below (B := w6.heap.size) (by (repeat' (first | (with_reducible exact Below.refl _ _) | (with_reducible refine below_drewN ?_ _) | (with_reducible refine Below.drew ?_) | (with_reducible refine Below.alloc ?_ ?_ _) | (with_reducible refine Below.setCell ?_ ?_ _) | (with_reducible refine Below.trans ?_ (Below.mono (by with_reducible assumption) ?_)) | omega | (simp only [World.size_alloc, World.size_setCell, World.size_drew, Go.Proofs.YtbiofjdlfppfoaaDoor.World.size_drewN] at *; omega) | (with_reducible refine Below.size (B := 0) ?_)))) (Nat.le_refl _)) (HY6.out.below (B := w6.heap.size) (by (repeat' (first | (with_reducible exact Below.refl _ _) | (with_reducible refine below_drewN ?_ _) | (with_reducible refine Below.drew ?_) | (with_reducible refine Below.alloc ?_ ?_ _) | (with_reducible refine Below.setCell ?_ ?_ _) | (with_reducible refine Below.trans ?_ (Below.mono (by with_reducible assumption) ?_)) | omega | (simp only [World.size_alloc, World.size_setCell, World.size_drew, Go.Proofs.YtbiofjdlfppfoaaDoor.World.size_drewN] at *; omega) | (with_reducible refine Below.size (B := 0) ?_)))) (Nat.le_refl _)) (HV.out.below (B := w6.heap.size) (by (repeat' (first | (with_reducible exact Below.refl _ _) | (with_reducible refine below_drewN ?_ _) | (with_reducible refine Below.drew ?_) | (with_reducible refine Below.alloc ?_ ?_ _) | (with_reducible refine Below.setCell ?_ ?_ _) | (with_reducible refine Below.trans ?_ (Below.mono (by with_reducible assumption) ?_)) | omega | (simp only [World.size_alloc, World.size_setCell, World.size_drew, Go.Proofs.YtbiofjdlfppfoaaDoor.World.size_drewN] at *; omega) | (with_reducible refine Below.size (B := 0) ?_)))) (Nat.le_refl _))).mono ?_; rintro e w7 ⟨rfl, b7⟩)
          all_goals have HB7 : Hid (Below w.heap.size w w7) := Lib.hid (B6.out.trans ((show Below w6.heap.size w6 w7 by (repeat' (first | (with_reducible exact Below.refl _ _) | (with_reducible refine below_drewN ?_ _) | (with_reducible refine Below.drew ?_) | (with_reducible refine Below.alloc ?_ ?_ _) | (with_reducible refine Below.setCell ?_ ?_ _) | (with_reducible refine Below.trans ?_ (Below.mono (by with_reducible assumption) ?_)) | omega | (simp only [World.size_alloc, World.size_setCell, World.size_drew, Go.Proofs.YtbiofjdlfppfoaaDoor.World.size_drewN] at *; omega) | (with_reducible refine Below.size (B := 0) ?_)))).mono B6.out.size))
          all_goals clear b7
          all_goals go_wp2_with fail
          all_goals go_ret
          all_goals exact ⟨by first | rfl | (simp; done), HB7.out⟩
end Go.Proofs.YtbiofjdlfppfoaaDoor
