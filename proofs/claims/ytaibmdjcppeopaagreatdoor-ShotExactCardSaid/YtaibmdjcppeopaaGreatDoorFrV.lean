/- The walk of the law FrameBack: whatever the arguments, it returns true. Condition: the sentinels lie as the program's text lays them. -/
import Derived.Test.YtaibmdjcppeopaaGreatDoorFrOw
import Derived.Test.YtaibmdjcppeopaaGreatDoorFrSz
import Derived.Deep.RegionLaw
import Derived.BigQuiet
namespace Go.Proofs.YtaibmdjcppeopaaGreatDoor
open Go Go.RowKit

/-- Do the first j of two rows' blocks agree, and are the rows of one length? -/
def eqUp (X Y : List (List UInt8)) (j : Nat) : Bool := decide (X.length = Y.length) && decide (X.take j = Y.take j)
theorem eqUp_succ {X Y : List (List UInt8)} {j : Nat} {x y : List UInt8} (h : eqUp X Y j = true) (hx : X[j]? = some x) (hy : Y[j]? = some y) : eqUp X Y (j + 1) = decide (x = y) := by
  unfold eqUp at h ⊢
  simp only [Bool.and_eq_true, decide_eq_true_eq] at h
  rw [decide_eq_true h.1, Bool.true_and, Bool.eq_iff_iff, decide_eq_true_eq, decide_eq_true_eq, List.take_add_one, List.take_add_one, hx, hy, h.2]
  constructor
  · intro e
    have := List.append_cancel_left e
    simpa using this
  · rintro rfl; rfl
theorem eqUp_all {X Y : List (List UInt8)} (h : eqUp X Y X.length = true) : X = Y := by
  unfold eqUp at h
  simp only [Bool.and_eq_true, decide_eq_true_eq] at h
  rw [List.take_of_length_le (Nat.le_refl _), List.take_of_length_le (by omega)] at h
  exact h.2
theorem eqUp_no {X Y : List (List UInt8)} {j : Nat} (h : eqUp X Y j = false) : X ≠ Y := by
  rintro rfl
  unfold eqUp at h
  simp at h
/-- What a round of the loop begins with. -/
def FbRel (w : World) (gx gy : Nat) (X Y : List (List UInt8)) (sm i : Value) (wr : World) : Prop :=
  ∃ j : Nat, i = .int .i64 j ∧ j ≤ X.length ∧ sm = .bool (eqUp X Y j) ∧ RowV wr gx (strVs X) ∧ RowV wr gy (strVs Y) ∧ Below w.heap.size w wr
theorem FbRel.start {w wr : World} {gx gy : Nat} {X Y : List (List UInt8)} (hx : RowV wr gx (strVs X)) (hy : RowV wr gy (strVs Y)) (hb : Below w.heap.size w wr) : FbRel w gx gy X Y (.bool ((X.length : Int) == (Y.length : Int))) (.int .i64 0) wr :=
  ⟨0, rfl, Nat.zero_le _, by unfold eqUp; simp; rw [Bool.eq_iff_iff]; simp; omega, hx, hy, hb⟩
theorem FbRel.drew {w wr : World} {gx gy : Nat} {X Y : List (List UInt8)} {sm i : Value} (h : FbRel w gx gy X Y sm i wr) : FbRel w gx gy X Y sm i wr.drew := by
  obtain ⟨j, h1, h2, h3, h4, h5, h6⟩ := h
  exact ⟨j, h1, h2, h3, h4, h5, h6.drew⟩
theorem FbRel.drewN {w wr : World} {gx gy : Nat} {X Y : List (List UInt8)} {sm i : Value} (h : FbRel w gx gy X Y sm i wr) (n : Nat) : FbRel w gx gy X Y sm i (wr.drewN n) := by
  obtain ⟨j, h1, h2, h3, h4, h5, h6⟩ := h
  exact ⟨j, h1, h2, h3, h4, h5, below_drewN h6 n⟩
/-- The last comparison. -/
theorem last_is {X Y : List (List UInt8)} {a b : ByteArray} {i k : Nat} (hX : X = framesF i a.data.toList) (hY : Y = framesF k b.data.toList) (hi : 1 ≤ i ∧ i ≤ 2147483647) (hk : 1 ≤ k ∧ k ≤ 2147483647) (ha : a.size ≤ 6000) (hb : b.size ≤ 6000) : X = Y ↔ a = b ∧ i = k := by
  rw [hX, hY]
  constructor
  · intro e
    obtain ⟨h1, h2⟩ := frames_inj hi hk (by rw [size_len]; exact ha) (by rw [size_len]; exact hb) e
    exact ⟨bst_ext h1, h2⟩
  · rintro ⟨rfl, rfl⟩; rfl
theorem str_beq (a b : ByteArray) : (a.toList == b.toList) = decide (a = b) := by
  rw [Bool.eq_iff_iff, beq_iff_eq, decide_eq_true_eq, toList_is, toList_is]
  exact ⟨bst_ext, fun h => by rw [h]⟩

theorem mod_one (m : Int) : ∃ i : Nat, 1 ≤ i ∧ i ≤ 1000 ∧ wrap64 (1 + wrap64 ((IntKind.u64.wrap m).tmod 1000)) = (i : Int) := by
  obtain ⟨j, hj, e⟩ := mod_pos m 1000 (by omega) (by omega)
  have e' : wrap64 ((IntKind.u64.wrap m).tmod 1000) = (j : Int) := e
  exact ⟨j + 1, by omega, by omega, by rw [e']; unfold wrap64; omega⟩
theorem Tryz.infoS4 : ∃ i, Tryz.prog.info? 9 = some i ∧ i.zero = some (.string ⟨#[]⟩) ∧ i.size = 1 ∧ i.bytes = 16 := by
  obtain ⟨i, hi, h⟩ := Option.map_eq_some_iff.1 Tryz.infoS
  simp only [Prod.mk.injEq] at h
  exact ⟨i, hi, h.1, h.2.1, h.2.2⟩

end Go.Proofs.YtaibmdjcppeopaaGreatDoor

/- The walk of the law FrameTorn: whatever the arguments, it returns true. Conditions: the sentinels and the type's variable lie as the program's text lays them. -/
namespace Go.Proofs.YtaibmdjcppeopaaGreatDoor
open Go Go.RowKit

/-- The row that the law lays: the first k blocks, the next one torn, zeros behind. -/
def rowT (X : List (List UInt8)) (k t : Nat) : List (List UInt8) := (List.range X.length).map fun i => if i < k then X.getD i [] else if i = k then tornB (X.getD i []) t else zeroF
theorem rowT_len (X : List (List UInt8)) (k t : Nat) : (rowT X k t).length = X.length := by simp [rowT]
theorem rowT_low {X : List (List UInt8)} {k t i : Nat} {b : List UInt8} (hi : i < k) (hb : X[i]? = some b) : (rowT X k t)[i]? = some b := by
  obtain ⟨hl, rfl⟩ := List.getElem?_eq_some_iff.1 hb
  simp [rowT, hl, hi]
theorem rowT_at {X : List (List UInt8)} {k t : Nat} {b : List UInt8} (hb : X[k]? = some b) : (rowT X k t)[k]? = some (tornB b t) := by
  obtain ⟨hl, rfl⟩ := List.getElem?_eq_some_iff.1 hb
  simp [rowT, hl]
theorem rowT_up {X : List (List UInt8)} {k t i : Nat} (hi : k < i) (hl : i < X.length) : (rowT X k t)[i]? = some zeroF := by
  simp [rowT, hl, show ¬ i < k by omega, show ¬ i = k by omega]
theorem torn_is (b : List UInt8) (t : Nat) (_hb : b.length = 64) (_ht : t ≤ 64) : (bst b).extract 0 t ++ (bst zeroF).extract t 64 = bst (tornB b t) := by
  rw [bst_cut, bst_cut, bst_cat, List.drop_zero, Nat.sub_zero]
  unfold tornB zeroF
  rw [List.drop_replicate, List.take_of_length_le (l := List.replicate (64 - t) 0) (by simp)]

theorem run_cut_to (X : ByteArray) (j : Int) (b : Nat) (w : World) (hj : j = b) (hb : b ≤ X.size) :
    (Instr.slice 9 (.string X) none (some (.int .i64 j)) none).run Tryz.prog w = .ok (.string (X.extract 0 b)) w := by
  subst hj
  have h2 : (b : Int) ≤ (X.size : Int) := by omega
  have h4 : (0 : Int) ≤ (b : Int) := by omega
  simp [Instr.slice, run_underlying Tryz.underlying9, h2, h4, go_sem]
theorem cell_n0 (w : World) (v : Value) (t : TypeId) : (w.alloc (.cells #[v] t)).cell? ((⟨w.heap.size, 0, none⟩ : Addr).add 0) = some v := by
  rw [adr0, World.cell?_alloc_at _ _ _ _ rfl]; rfl
theorem cell_n1 (w : World) (v : Value) (t : TypeId) : (w.alloc (.cells #[v] t)).drew.cell? ((⟨w.heap.size, 0, none⟩ : Addr).add 0) = some v := cell_n0 w v t

/-- What a round of the loop begins with. -/
def TRel (w : World) (base gx : Nat) (X : List (List UInt8)) (k t : Nat) (l i : Value) (wr : World) : Prop :=
  ∃ (j : Nat) (v : Value), v = l ∧ i = .int .i64 j ∧ j ≤ X.length ∧ wr.ownsRow base 9 1 v j (strVs ((rowT X k t).take j)) ∧ RowV wr gx (strVs X) ∧ Below w.heap.size w wr ∧ base ≤ wr.heap.size
theorem TRel.step {w wr W w3 : World} {base gx k t j N : Nat} {X : List (List UInt8)} {v v' : Value} {b : List UInt8} (hj : j < X.length) (hx : RowV wr gx (strVs X)) (hb : Below w.heap.size w wr) (hN : N = j + 1)
    (hown : w3.ownsRow base 9 1 v' N (strVs ((rowT X k t).take j) ++ strVs [b])) (hat : (rowT X k t)[j]? = some b) (hW : Below wr.heap.size wr W) (hg : W.grownBy w3 v.ownBlock) (hob : ∀ q, v.ownBlock = some q → base ≤ q) (hgx : gx < base) (hw : w.heap.size ≤ base) (hbs : base ≤ wr.heap.size) :
    TRel w base gx X k t v' (.int .i64 ((j : Int) + 1)) w3 := by
  subst hN
  refine ⟨j + 1, v', rfl, ret_v (by omega), hj, ?_, (hx.below hW hx.lt).grown hg (fun e => by have := hob gx e; omega), (hb.trans (hW.mono hb.size)).grown hg (Nat.le_trans hb.size hW.size) (fun q hq => Nat.le_trans hw (hob q hq)), Nat.le_trans hbs (Nat.le_trans hW.size hg.size)⟩
  rw [strVs_app] at hown
  rw [List.take_add_one, hat]
  exact hown
theorem TRel.drew {w wr : World} {base gx k t : Nat} {X : List (List UInt8)} {l i : Value} (h : TRel w base gx X k t l i wr) : TRel w base gx X k t l i wr.drew := by
  obtain ⟨j, v, h1, h2, h3, h4, h5, h6, h7⟩ := h
  exact ⟨j, v, h1, h2, h3, own_same h4 (fun _ _ => rfl), h5, h6.drew, h7⟩
theorem TRel.drewN {w wr : World} {base gx k t : Nat} {X : List (List UInt8)} {l i : Value} (h : TRel w base gx X k t l i wr) (n : Nat) : TRel w base gx X k t l i (wr.drewN n) := by
  obtain ⟨j, v, h1, h2, h3, h4, h5, h6, h7⟩ := h
  exact ⟨j, v, h1, h2, h3, own_same h4 (fun _ _ => rfl), h5, below_drewN h6 n, h7⟩

/-- 'append(l, s)' as one step of a region. -/
theorem step_app {ops : Array Oper} {o : Oper} {a : Act} {w : World} {K : Act → World → Prop} {Q : Exit → Act → World → Prop} {E : Prop} (hgd : o.guard = none) (s x : Operand)
    (ho : o.op = .call { callee := .builtin .append, args := #[s, x], argTypes := #[22, 22] }) (base n : Nat) (F : List (List UInt8)) (b : List UInt8) (v : Value) (hs : a.eval s = v) (ad : Addr) (c : Nat) (hx : a.eval x = .slice (some ad) 1 c)
    (hc : w.cell? (ad.add 0) = some (.string (bst b))) (hown : w.ownsRow base 9 1 v n (strVs F)) (hl : n ≤ 4096) (hbase : base ≤ w.heap.size)
    (h : ∀ v' w', w'.ownsRow base 9 1 v' (n + 1) (strVs F ++ strVs [b]) → w.grownBy w' v.ownBlock → K (a.put o.dst v') w') :
    if Region.wanted o (yielded ops a.tmps) = true then Oper.wp Tryz.prog o a w K Q else E := by
  have hw : Region.wanted o (yielded ops a.tmps) = true := by simp [Region.wanted, hgd]
  rw [if_pos hw]
  obtain ⟨ti, hi, hz0, hz1, hz2⟩ := Tryz.infoS4
  obtain ⟨v', w3, hrun, h2, h3, h4, h5⟩ := run_append_own_at (P := Tryz.prog) w base 22 o.type 9 ti _ 1 16 Tryz.underlying22 hi hz0 hz1 hz2 rfl (by decide) v n (strVs F) hown ad 1 c (strVs [b]) rfl
    (fun j u hu => by
      match j, hu with
      | 0, hu => rw [hc]; exact hu) (strVs_one [b]) (by unfold maxLen; omega) (by omega) hbase
  unfold Oper.wp execOp
  simp only [ho, resolve, invoke, builtin, Sem.run_bind, Sem.run_pure, Result.andThen_ok, List.map_toArray, List.map_cons, List.map_nil, hs, hx, hrun]
  exact h _ _ h2 h3

end Go.Proofs.YtaibmdjcppeopaaGreatDoor

/- Contracts of the reference of layer 5: numbers as bytes and back, the number of blocks. Conditions: lengths as the callers have them. -/
namespace Go.Proofs.YtaibmdjcppeopaaGreatDoor
open Go Go.RowKit

theorem leB_snoc : ∀ (j n : Nat), leB (j + 1) n = leB j n ++ [UInt8.ofNat (n / 256 ^ j % 256)]
  | 0, n => by simp [leB]
  | j + 1, n => by
    rw [leB, leB_snoc j (n / 256)]
    rw [leB, Nat.div_div_eq_div_mul, Nat.pow_succ, Nat.mul_comm 256]
    rfl

theorem shr_byte (n j : Nat) : (n : Int) / 2 ^ (8 * j) % 256 = ((UInt8.ofNat (n / 256 ^ j % 256)).toNat : Int) := by
  have e : (2 : Int) ^ (8 * j) = ((256 ^ j : Nat) : Int) := by
    rw [show (256 : Nat) = 2 ^ 8 from rfl, ← Nat.pow_mul]
    simp
  rw [e, ofNat_toNat _ (by omega)]
  rw [← Int.natCast_ediv]
  omega

/-- What a round of the reference's number begins with. -/
def NRel (w : World) (n k : Nat) (l i : Value) (wr : World) : Prop :=
  ∃ (j : Nat) (v : Value), v = l ∧ i = .int .i64 j ∧ j ≤ k ∧ wr.ownsRow w.heap.size 5 1 v j (byteVs (leB j n)) ∧ Below w.heap.size w wr
theorem NRel.start (w : World) (n k : Nat) : NRel w n k (.slice (some ⟨w.heap.size, 0, none⟩) 0 0) (.int .i64 0) (w.alloc (.cells #[] 5)) :=
  ⟨0, _, rfl, rfl, Nat.zero_le _, World.ownsRow_made w #[] 0 (Nat.le_refl _) (by unfold maxLen; omega) (by simp), (Below.refl _ _).alloc (Nat.le_refl _) _⟩
theorem NRel.step {w wr w3 : World} {n k j N : Nat} {v v' : Value} {cs : Array Value} {t : TypeId} (hj : j < k) (hob : ∀ q, v.ownBlock = some q → w.heap.size ≤ q) (hb : Below w.heap.size w wr) (hN : N = j + 1)
    (hown : w3.ownsRow w.heap.size 5 1 v' N (byteVs (leB j n) ++ byteVs [UInt8.ofNat (n / 256 ^ j % 256)])) (hg : (wr.alloc (.cells cs t)).grownBy w3 v.ownBlock) : NRel w n k v' (.int .i64 ((j : Int) + 1)) w3 := by
  subst hN
  rw [byteVs_app, ← leB_snoc] at hown
  exact ⟨j + 1, v', rfl, ret_v (by omega), hj, hown, (hb.alloc hb.size _).grown hg (by rw [World.size_alloc]; have := hb.size; omega) hob⟩

set_option maxHeartbeats 1600000 in
set_option maxRecDepth 100000 in
theorem rnum_c (n k : Nat) (w : World) (hk : k ≤ 4) (_hn : n < 4294967296) :
    Calls Tryz.prog 38 #[.int .i64 (n : Int), .int .i64 (k : Int)] w fun e w' => e = .returned (.string (bst (leB k n))) ∧ Below w.heap.size w w' := by
  have HST := Lib.hid (NRel.start w n k)
  go_enter Tryz.func38, Tryz.ntmps38
  go_wp2_with fail
  go_loopw [5, 6] (fun l i wr => NRel w n k l i wr) (fun _ i _ => k - (intOf i).toNat)
  case atStart => exact HST.out
  case round =>
    obtain ⟨j, l, rfl, rfl, hj, hown, hb⟩ := hrel
    clear HST
    obtain ⟨i0, hi, hz0, hz1, hz2⟩ := info_parts Tryz.infoB
    have hob : ∀ q, l.ownBlock = some q → w.heap.size ≤ q := fun q hq => (hown.lt q hq).1
    have HOB := Lib.hid hob; clear hob
    have hsz := hb.size
    by_cases hjk : j < k
    · have ji : (j : Int) < (k : Int) := by omega
      have hv := Lib.hid (shr_byte n j)
      go_wp2_with (first | (at_builtin; refine wpList_append_own_at _ rfl _ _ 51 rfl w.heap.size 5 i0 _ 1 1 Tryz.underlying51 hi hz0 hz1 hz2 rfl (by decide) _ j _ rfl (hown.alloc _) ⟨wr.heap.size, 0, none⟩ 1 1 (byteVs [UInt8.ofNat (n / 256 ^ j % 256)]) rfl rfl ?c1 ?c2 ?c3 ?c4 ?c5 ?_))
      case c1 =>
        intro q u hu
        rw [adr0, World.cell?_alloc_at _ _ _ _ rfl]
        match q, hu with
        | 0, hu => rw [hv.out]; exact hu
      case c2 => intro u hu; simp [byteVs] at hu; subst hu; rfl
      case c3 => unfold maxLen; omega
      case c4 => omega
      case c5 => rw [World.size_alloc]; omega
      intro v' w3 hown' hgrow _ hat
      have hR := Lib.hid (NRel.step hjk HOB.out hb (by omega) hown' hgrow)
      clear hown' hgrow hat hown
      go_wp2_with fail
      go_roundw
      case rel => exact hR.out
      case measure => simp [intOf]; omega
    · obtain rfl : j = k := by omega
      have hcv := conv_own _ _ _ _ _ hown
      have HB := Lib.hid hb
      clear hown hb
      go_wp2_with fail
      go_ret
      exact ⟨rfl, HB.out⟩

set_option maxHeartbeats 1600000 in
theorem rval_c (s : ByteArray) (w : World) (hs : s.size ≤ 4) :
    Calls Tryz.prog 47 #[.string s] w fun e w' => e = .returned (.int .i64 (valB s.data.toList)) ∧ w = w' := by
  go_enter Tryz.func47, Tryz.ntmps47
  go_wp2
  go_loop [3, 4] (fun x i => ∃ j : Nat, j ≤ s.size ∧ i = .int .i64 ((j : Int) - 1) ∧ x = .int .i64 (valB (s.data.toList.drop j))) (fun _ i => (intOf i + 1).toNat)
  case atStart => exact ⟨s.size, Nat.le_refl _, rfl, by rw [List.drop_of_length_le (by simp)]; rfl⟩
  case round =>
    obtain ⟨j, hj, rfl, rfl⟩ := hrel
    by_cases h0 : 0 < j
    · have hd := val_drop s.data.toList (j - 1) (by rw [size_len]; omega)
      rw [show j - 1 + 1 = j by omega] at hd
      have hlt : valB (s.data.toList.drop j) < 16777216 := by
        have := valB_lt (s.data.toList.drop j)
        have h2 : (s.data.toList.drop j).length ≤ 3 := by simp; omega
        have h3 : (256 : Nat) ^ (s.data.toList.drop j).length ≤ 256 ^ 3 := Nat.pow_le_pow_right (by omega) h2
        rw [show (256 : Nat) ^ 3 = 16777216 from rfl] at h3
        omega
      have hc := UInt8.toNat_lt (s.data.toList[j - 1]'(by rw [size_len]; omega))
      have HD := Lib.hid hd; clear hd
      go_wp2
      go_round
      case rel => exact ⟨j - 1, by omega, ret_v (by omega), ret_v (by rw [HD.out]; have : s[j - 1] = (s.data.toList[j - 1]'(by rw [size_len]; omega)) := rfl; rw [this]; unfold wrap64; omega)⟩
      case measure => simp [intOf]; omega
    · go_wp2
      go_ret
      exact ⟨ret_i (by rw [show j = 0 by omega]; rfl), rfl⟩

set_option maxHeartbeats 1600000 in
theorem rsize_c (s : ByteArray) (w : World) (hn : s.size ≤ 1000000) :
    Calls Tryz.prog 18 #[.string s] w fun e w' => e = .returned (.int .i64 (nblk s.size : Nat)) ∧ w = w' := by
  go_enter Tryz.func18, Tryz.ntmps18
  go_wp2
  go_ret
  exact ⟨ret_i (by unfold nblk; omega), rfl⟩
end Go.Proofs.YtaibmdjcppeopaaGreatDoor

/- The contract of the reference's Blocks. Conditions: lengths as the callers have them. -/
namespace Go.Proofs.YtaibmdjcppeopaaGreatDoor
open Go Go.RowKit

/-- A call of the reference's number as one step of a region. -/
theorem step_call {ops : Array Oper} {o : Oper} {a : Act} {w : World} {K : Act → World → Prop} {Q : Exit → Act → World → Prop} {E : Prop} (hgd : o.guard = none) (x y : Operand)
    (ho : o.op = .call { callee := .value (.func 38), args := #[x, y], argTypes := #[3, 3] }) (n k : Int) (hx : a.eval x = .int .i64 n) (hy : a.eval y = .int .i64 k) (S : ByteArray)
    (hc : Calls Tryz.prog 38 #[.int .i64 n, .int .i64 k] w fun e w' => e = .returned (.string S) ∧ Below w.heap.size w w')
    (h : ∀ w', Below w.heap.size w w' → K (a.put o.dst (.string S)) w') :
    if Region.wanted o (yielded ops a.tmps) = true then Oper.wp Tryz.prog o a w K Q else E := by
  have hw : Region.wanted o (yielded ops a.tmps) = true := by simp [Region.wanted, hgd]
  rw [if_pos hw]
  unfold Oper.wp execOp
  simp only [ho, resolve, invoke, Sem.run_bind, List.map_toArray, List.map_cons, List.map_nil, hx, hy]
  go_simp
  refine hc.mono ?_
  rintro e w5 ⟨rfl, hb⟩
  exact h w5 hb
theorem step_num {ops : Array Oper} {o : Oper} {a : Act} {w : World} {K : Act → World → Prop} {Q : Exit → Act → World → Prop} {E : Prop} (hgd : o.guard = none) (x y : Operand)
    (ho : o.op = .call { callee := .value (.func 38), args := #[x, y], argTypes := #[3, 3] }) (n k : Nat) (hx : a.eval x = .int .i64 (n : Int)) (hy : a.eval y = .int .i64 (k : Int)) (hk : k ≤ 4) (hn : n < 4294967296)
    (h : ∀ w', Below w.heap.size w w' → K (a.put o.dst (.string (bst (leB k n)))) w') :
    if Region.wanted o (yielded ops a.tmps) = true then Oper.wp Tryz.prog o a w K Q else E := by
  have hw : Region.wanted o (yielded ops a.tmps) = true := by simp [Region.wanted, hgd]
  rw [if_pos hw]
  have hc := (rnum_c n k w hk hn)
  unfold Oper.wp execOp
  simp only [ho, resolve, invoke, Sem.run_bind, List.map_toArray, List.map_cons, List.map_nil, hx, hy]
  go_simp
  refine hc.mono ?_
  rintro e w5 ⟨rfl, hb⟩
  exact h w5 hb

set_option maxHeartbeats 1600000 in
set_option maxRecDepth 100000 in
theorem rblocks_bad (q : Int) (d : ByteArray) (w : World) (hd : d.size ≤ 9223372036854775807) (h : q < 1 ∨ 2147483647 < q ∨ 6000 < d.size) :
    Calls Tryz.prog 21 #[.int .i64 q, .string d] w fun e w' => e = .returned (.tuple #[.slice none 0 0, .bool false]) ∧ w = w' := by
  go_enter Tryz.func21, Tryz.ntmps21
  go_wp2_with fail
  all_goals first | (go_ret2; exact ⟨rfl, rfl⟩) | (exfalso; omega)

/-- What the padding's loop begins with. -/
def DRel (H : List UInt8) (pad : Nat) (s : Value) : Prop := ∃ m : Nat, m ≤ pad ∧ s = .string (bst (H ++ List.replicate m 0))
theorem DRel.step {H : List UInt8} {pad m : Nat} (hm : m < pad) : DRel H pad (.string (bst (H ++ List.replicate m 0) ++ ⟨#[0]⟩)) := by
  refine ⟨m + 1, hm, val_str ?_⟩
  rw [show (⟨#[0]⟩ : ByteArray) = bst [0] from rfl, bst_cat, List.append_assoc, List.replicate_succ']
/-- What a round of the loop over the blocks begins with. -/
def SRelB (w : World) (base q : Nat) (L : List UInt8) (l i : Value) (wr : World) : Prop :=
  ∃ (j : Nat) (v : Value), v = l ∧ i = .int .i64 j ∧ j ≤ nblk L.length ∧ wr.ownsRow base 9 1 v j (strVs ((framesF q L).take j)) ∧ Below w.heap.size w wr ∧ base ≤ wr.heap.size
theorem SRelB.step {w wr W w3 : World} {base q j N : Nat} {L b : List UInt8} {v v' : Value} (hj : j < nblk L.length) (hb : Below w.heap.size w wr) (hN : N = j + 1)
    (hown : w3.ownsRow base 9 1 v' N (strVs ((framesF q L).take j) ++ strVs [b])) (hat : b = blkF q (nblk L.length) (payF L) j) (hW : Below wr.heap.size wr W) (hg : W.grownBy w3 v.ownBlock) (hob : ∀ x, v.ownBlock = some x → base ≤ x) (hw : w.heap.size ≤ base) (hbs : base ≤ wr.heap.size) :
    SRelB w base q L v' (.int .i64 ((j : Int) + 1)) w3 := by
  subst hN
  refine ⟨j + 1, v', rfl, ret_v (by omega), hj, ?_, (hb.trans (hW.mono hb.size)).grown hg (Nat.le_trans hb.size hW.size) (fun x hx => Nat.le_trans hw (hob x hx)), Nat.le_trans hbs (Nat.le_trans hW.size hg.size)⟩
  rw [strVs_app] at hown
  rw [List.take_add_one, framesF_get q L j hj, ← hat]
  exact hown
theorem SRelB.drew {w wr : World} {base q : Nat} {L : List UInt8} {l i : Value} (h : SRelB w base q L l i wr) : SRelB w base q L l i wr.drew := by
  obtain ⟨j, v, h1, h2, h3, h4, h5, h6⟩ := h
  exact ⟨j, v, h1, h2, h3, own_same h4 (fun _ _ => rfl), h5.drew, h6⟩
theorem SRelB.drewN {w wr : World} {base q : Nat} {L : List UInt8} {l i : Value} (h : SRelB w base q L l i wr) (n : Nat) : SRelB w base q L l i (wr.drewN n) := by
  obtain ⟨j, v, h1, h2, h3, h4, h5, h6⟩ := h
  exact ⟨j, v, h1, h2, h3, own_same h4 (fun _ _ => rfl), below_drewN h5 n, h6⟩

set_option maxHeartbeats 6400000 in
set_option maxRecDepth 100000 in
theorem rblocks_ok (q : Nat) (d : ByteArray) (w : World) (h1 : 1 ≤ q) (h2 : q ≤ 2147483647) (hd : d.size ≤ 6000) :
    Calls Tryz.prog 21 #[.int .i64 (q : Int), .string d] w fun e w' => (∃ v base, e = .returned (.tuple #[v, .bool true]) ∧ w'.ownsRow base 9 1 v (nblk d.size) (strVs (framesF q d.data.toList))) ∧ Below w.heap.size w w' := by
  obtain ⟨L, hL⟩ : ∃ L, d.data.toList = L := ⟨_, rfl⟩
  have hsl : d.size = L.length := by rw [← hL, size_len]
  obtain ⟨n, hn⟩ : ∃ n, nblk L.length = n := ⟨_, rfl⟩
  have hn1 : 1 ≤ n ∧ n ≤ 108 := by rw [← hn]; unfold nblk; omega
  have hn2 : L.length + 8 ≤ 56 * n ∧ 56 * n < L.length + 8 + 56 := by rw [← hn]; unfold nblk; omega
  obtain ⟨c, hc⟩ : ∃ c, crcN L = c := ⟨_, rfl⟩
  have hcrc := crcN_lt L
  rw [show (256 : Nat) ^ 4 = 4294967296 from rfl, hc] at hcrc
  have HN1 : Hid (∀ W, _) := Lib.hid fun W => rnum_c L.length 4 W (by omega) (by omega)
  have HN2 : Hid (∀ W, _) := Lib.hid fun W => rnum_c c 4 W (by omega) hcrc
  have hmore : moreI 1 L = ((c : Nat) : Int) := by
    have := (moreI_bd L 1 (by unfold U32; omega)); unfold U32 at this; unfold crcN at hc; omega
  have hsum := fun W => sum_rof_c d W (by omega)
  rw [hL, hmore] at hsum
  have HS := Lib.hid hsum; clear hsum hmore
  obtain ⟨X, hX⟩ : ∃ X, bst (leB 4 L.length) = X := ⟨_, rfl⟩
  obtain ⟨Y, hY⟩ : ∃ Y, bst (leB 4 c) = Y := ⟨_, rfl⟩
  have xs : X.size = 4 := by rw [← hX, bst_size, leB_len]
  have ys : Y.size = 4 := by rw [← hY, bst_size, leB_len]
  rw [hX] at HN1
  rw [hY] at HN2
  have hH : X ++ Y ++ d = bst (leB 4 L.length ++ leB 4 c ++ L) := by
    rw [← hX, ← hY, bst_of d, hL, bst_cat, bst_cat]
  have HH := Lib.hid hH; clear hH
  have q0 : ¬ ((q : Int) < 1) := by omega
  have q1 : ¬ (2147483647 < (q : Int)) := by omega
  have d1 : ¬ (6000 < (L.length : Int)) := by omega
  have z1 : ¬ 9223372036854775807 < 4 + 4 := by omega
  have z2 : ¬ 9223372036854775807 < 4 + 4 + L.length := by omega
  rw [hL, hsl, hn]
  have hcl := Lib.hid hc
  clear hX hY hc
  go_enter Tryz.func21, Tryz.ntmps21
  go_wp2_with fail
  refine (HN1.out _).mono ?_
  rintro e w1 ⟨rfl, b1⟩
  go_wp2_with fail
  refine (HS.out _).mono ?_
  rintro e w1' ⟨rfl, rfl⟩
  go_wp2_with fail
  refine (HN2.out _).mono ?_
  rintro e w2 ⟨rfl, b2⟩
  have B2 : Hid (Below w.heap.size w w2) := Lib.hid (b1.trans (b2.mono b1.size))
  clear b1 b2
  go_wp2_with fail
  rw [HH.out]
  have HPAY : Hid (payF L = leB 4 L.length ++ leB 4 c ++ L ++ List.replicate (56 * n - (L.length + 8)) 0) := Lib.hid (by unfold payF; rw [hcl.out, hn])
  have hHl : (leB 4 L.length ++ leB 4 c ++ L).length = L.length + 8 := by rw [List.length_append, List.length_append, leB_len, leB_len]; omega
  obtain ⟨H, hH⟩ : ∃ H, leB 4 L.length ++ leB 4 c ++ L = H := ⟨_, rfl⟩
  rw [hH] at hHl HPAY ⊢
  clear HH HN1 HN2 HS hH xs ys z1 z2
  have HST : Hid (DRel H (56 * n - (L.length + 8)) (.string (bst H))) := Lib.hid ⟨0, Nat.zero_le _, by simp⟩
  go_loop [6] (fun s => DRel H (56 * n - (L.length + 8)) s) (fun s => 56 * n - Lib.strSize s)
  case atStart => exact HST.out
  case round =>
    obtain ⟨m, hm, rfl⟩ := hrel
    clear HST
    obtain ⟨T, hT⟩ : ∃ T, bst (H ++ List.replicate m 0) = T := ⟨_, rfl⟩
    have hts : T.size = L.length + 8 + m := by rw [← hT, bst_size, List.length_append, List.length_replicate, hHl]
    by_cases hmp : m < 56 * n - (L.length + 8)
    · have hmod : ¬ ((T.size : Int) % 56 = 0) := by omega
      have hR := DRel.step (H := H) hmp
      rw [hT] at hR ⊢
      have HR := Lib.hid hR
      have hz : ¬ 9223372036854775807 < T.size + 1 := by omega
      have HTS := Lib.hid hts
      clear hR hT hts
      go_wp2_with fail
      go_round
      case rel => exact HR.out
      case measure =>
        rw [Lib.strSize_string, Lib.strSize_string, ByteArray.size_append]
        have := HTS.out
        show 56 * n - (T.size + 1) < 56 * n - T.size
        omega
    · obtain rfl : m = 56 * n - (L.length + 8) := by omega
      rw [hT]
      rw [← HPAY.out] at hT
      have hps : T.size = n * 56 := by omega
      have hmod : (T.size : Int) % 56 = 0 := by omega
      have hdiv : (T.size : Int) / 56 = (n : Int) := by omega
      have hdiv2 : (T.size : Int).tdiv 56 = (n : Int) := by rw [Int.tdiv_eq_ediv_of_nonneg (by omega)]; exact hdiv
      have hbase := B2.out.size
      have hst : SRelB w w2.heap.size q L (.slice (some ⟨w2.heap.size, 0, none⟩) 0 0) (.int .i64 0) (w2.alloc (.cells #[] 9)) :=
        ⟨0, _, rfl, rfl, Nat.zero_le _, World.ownsRow_made w2 #[] 0 (Nat.le_refl _) (by unfold maxLen; omega) (by simp), B2.out.alloc B2.out.size _, by rw [World.size_alloc]; omega⟩
      have HST2 := Lib.hid hst; clear hst hts
      go_wp2_with fail
      clear hdiv hdiv2 hmod
      go_loopw [7, 9] (fun l i wr => SRelB w w2.heap.size q L l i wr) (fun _ i _ => n - (intOf i).toNat)
      case atStart => exact HST2.out
      case round =>
        obtain ⟨j, l, rfl, rfl, hj, hown, hb, hbz⟩ := hrel
        clear HST2
        rw [hn] at hj
        by_cases hjn : j < n
        · have hob : ∀ x, l.ownBlock = some x → w2.heap.size ≤ x := fun x hx => (hown.lt x hx).1
          have OB := Lib.hid hob; clear hob
          obtain ⟨A, hA⟩ : ∃ A, bst (leB 4 q) = A := ⟨_, rfl⟩
          obtain ⟨Bj, hB⟩ : ∃ Bj, bst (leB 2 j) = Bj := ⟨_, rfl⟩
          obtain ⟨Cn, hC⟩ : ∃ Cn, bst (leB 2 n) = Cn := ⟨_, rfl⟩
          have sA : A.size = 4 := by rw [← hA, bst_size, leB_len]
          have sB : Bj.size = 2 := by rw [← hB, bst_size, leB_len]
          have sC : Cn.size = 2 := by rw [← hC, bst_size, leB_len]
          have cut : (T.extract (56 * j) (56 * j + 56)).size = 56 := by rw [cut_size _ _ _ (by omega) (by omega)]; omega
          have hz : T.extract (56 * j) (56 * j + 56) ++ A ++ Bj ++ Cn = bst (blkF q (nblk L.length) (payF L) j) := by
            rw [← hT, ← hA, ← hB, ← hC, bst_cut, bst_cat, bst_cat, bst_cat, hn, show 56 * j + 56 - 56 * j = 56 by omega]
            unfold blkF trailF
            simp only [List.append_assoc]
          have HZ := Lib.hid hz; clear hz
          have HS2 : Hid (∀ W v' w3, Below wr.heap.size wr W → w3.ownsRow w2.heap.size 9 1 v' (j + 1) (strVs ((framesF q L).take j) ++ strVs [blkF q (nblk L.length) (payF L) j]) → W.grownBy w3 l.ownBlock → SRelB w w2.heap.size q L v' (.int .i64 ((j : Int) + 1)) w3) := Lib.hid fun W v' w3 g0 g1 g2 =>
            SRelB.step (by omega) hb rfl g1 rfl g0 g2 OB.out hbase hbz
          have HO : Hid (∀ W, Below wr.heap.size wr W → W.ownsRow w2.heap.size 9 1 l j (strVs ((framesF q L).take j))) := Lib.hid fun W g0 => own_same hown fun x hx => g0.block x (hown.lt x hx).2
          have s1 := fun W => run_cut T (56 * (j : Int)) (56 * (j : Int) + 56) (56 * j) (56 * j + 56) W (by omega) (by omega) (by omega) (by omega)
          have g1 : IntKind.i64.wrap (56 * (j : Int)) = 56 * (j : Int) := IntWalk.i64_in _ (by omega)
          have g2 : IntKind.i64.wrap (56 * (j : Int) + 56) = 56 * (j : Int) + 56 := IntWalk.i64_in _ (by omega)
          have ji : (j : Int) < (n : Int) := by omega
          have hj4 : j ≤ 4096 := by omega
          have N1 : ∀ w' : World, Calls Tryz.prog 38 #[.int .i64 (q : Int), .int .i64 4] w' fun e w'' => e = .returned (.string (bst (leB 4 q))) ∧ Below w'.heap.size w' w'' := fun w' => rnum_c q 4 w' (by omega) (by omega)
          rw [hA] at N1
          have N2 : ∀ w' : World, Calls Tryz.prog 38 #[.int .i64 (j : Int), .int .i64 2] w' fun e w'' => e = .returned (.string (bst (leB 2 j))) ∧ Below w'.heap.size w' w'' := fun w' => rnum_c j 2 w' (by omega) (by omega)
          rw [hB] at N2
          have N3 : ∀ w' : World, Calls Tryz.prog 38 #[.int .i64 (n : Int), .int .i64 2] w' fun e w'' => e = .returned (.string (bst (leB 2 n))) ∧ Below w'.heap.size w' w'' := fun w' => rnum_c n 2 w' (by omega) (by omega)
          rw [hC] at N3
          have M1 := Lib.hid N1; have M2 := Lib.hid N2; have M3 := Lib.hid N3
          clear N1 N2 N3 hA hB hC hT hown hb
          go_wp2_with fail
          go_region_law (first
            | (refine step_call rfl (.tmp 54) (.const (.int .i64 4)) rfl (q : Int) 4 (by go_simp) (by go_simp) A (M1.out _) ?_; intro w5 b5)
            | (refine step_call rfl (.tmp 57) (.const (.int .i64 2)) rfl (j : Int) 2 (by go_simp) (by go_simp) Bj (M2.out _) ?_; intro w6 b6)
            | (refine step_call rfl (.tmp 60) (.const (.int .i64 2)) rfl (n : Int) 2 (by go_simp) (by go_simp) Cn (M3.out _) ?_; intro w7 b7)
            | (refine step_app rfl (.tmp 46) (.tmp 63) rfl w2.heap.size j _ (blkF q (nblk L.length) (payF L) j) l (by go_simp) ⟨w7.heap.size, 0, none⟩ 1 (by go_simp) (by rw [← HZ.out]; first | exact cell_n1 _ _ _ | exact cell_n0 _ _ _) (HO.out _ (by (repeat' (first | (with_reducible exact Below.refl _ _) | (with_reducible refine below_drewN ?_ _) | (with_reducible refine Below.drew ?_) | (with_reducible refine Below.alloc ?_ ?_ _) | (with_reducible refine Below.setCell ?_ ?_ _) | (with_reducible refine Below.trans ?_ (Below.mono (by with_reducible assumption) ?_)) | omega | (simp only [World.size_drew] at *; omega) | (with_reducible refine Below.size (B := 0) ?_))))) hj4 (Nat.le_trans hbz (show Below wr.heap.size wr _ by (repeat' (first | (with_reducible exact Below.refl _ _) | (with_reducible refine below_drewN ?_ _) | (with_reducible refine Below.drew ?_) | (with_reducible refine Below.alloc ?_ ?_ _) | (with_reducible refine Below.setCell ?_ ?_ _) | (with_reducible refine Below.trans ?_ (Below.mono (by with_reducible assumption) ?_)) | omega | (simp only [World.size_drew] at *; omega) | (with_reducible refine Below.size (B := 0) ?_)))).size) ?_; intro v' w8 g8 g9; have G := Lib.hid (HS2.out _ v' w8 (by (repeat' (first | (with_reducible exact Below.refl _ _) | (with_reducible refine below_drewN ?_ _) | (with_reducible refine Below.drew ?_) | (with_reducible refine Below.alloc ?_ ?_ _) | (with_reducible refine Below.setCell ?_ ?_ _) | (with_reducible refine Below.trans ?_ (Below.mono (by with_reducible assumption) ?_)) | omega | (simp only [World.size_drew] at *; omega) | (with_reducible refine Below.size (B := 0) ?_)))) g8 g9); clear g8 g9))
          all_goals go_wp2_with fail
          all_goals go_roundw
          all_goals first
            | (simp [intOf]; omega)
            | (repeat' (first | (with_reducible exact G.out) | (with_reducible refine SRelB.drew ?_) | (with_reducible refine SRelB.drewN ?_ _)))
        · obtain rfl : j = n := by omega
          rw [List.take_of_length_le (by rw [framesF_len, hn]; exact Nat.le_refl _)] at hown
          have HO := Lib.hid hown
          have HB := Lib.hid hb
          clear hown hb
          go_wp2_with fail
          go_ret2
          exact ⟨⟨_, _, rfl, HO.out⟩, HB.out⟩
end Go.Proofs.YtaibmdjcppeopaaGreatDoor

/- The contract of the reference's Read: it returns what the plain arithmetic says. Condition: the row is no longer than memory allows. -/
namespace Go.Proofs.YtaibmdjcppeopaaGreatDoor
open Go Go.RowKit

/-- What the reference's Read returns. -/
def RReadV (e : Ending) : Except Nat (List UInt8 × Nat × Nat) → Prop
  | .error i => e = .returned (.tuple #[.string ⟨#[]⟩, .int .i64 0, .int .i64 0, .int .i64 (i : Int)])
  | .ok (d, q, n) => e = .returned (.tuple #[.string (bst d), .int .i64 (q : Int), .int .i64 (n : Int), .int .i64 (-1)])
theorem rval_at (t : ByteArray) (i j : Nat) (W : World) (k : Nat) (hij : i ≤ j) (hj : j ≤ t.size) (h4 : j - i ≤ 4) (hk : valB ((t.data.toList.drop i).take (j - i)) = k) :
    Calls Tryz.prog 47 #[.string (t.extract i j)] W fun e w' => e = .returned (.int .i64 (k : Int)) ∧ W = w' := by
  have h := rval_c (t.extract i j) W (by rw [cut_size _ _ _ hij hj]; exact h4)
  rw [cut_list, hk] at h
  exact h

set_option maxHeartbeats 1600000 in
set_option maxRecDepth 100000 in
/-- The first block is none. -/
theorem rread_none (B c : Nat) (A : Option Addr) (l : List ByteArray) (w : World) (hl : l.length ≤ 9223372036854775807) (h : SRow w B A l) (hz : ∀ z, l[0]? = some z → z.size ≠ 64) :
    Calls Tryz.prog 29 #[.slice A l.length c] w fun e w' => RReadV e (.error 0) ∧ w = w' := by
  by_cases h0 : l.length = 0
  · rw [h0]
    go_enter Tryz.func29, Tryz.ntmps29
    go_wp2_with fail
    exact bodyPost_ret (v := .tuple #[.string ⟨#[]⟩, .int .i64 0, .int .i64 0, .int .i64 0]) (by simp [results, Tryz.results29, go_sem]) rfl ⟨rfl, rfl⟩
  · obtain ⟨z, hi⟩ : ∃ z, l[0]? = some z := ⟨_, List.getElem?_eq_getElem (by omega)⟩
    obtain ⟨a, rfl, ha, hc⟩ := h.cell hi
    have hzi : ((z.size : Int) != 64) = true := by rw [bne_iff_ne]; have := hz z hi; omega
    have hli : ((l.length : Int) == 0) = false := by rw [beq_eq_false_iff_ne]; omega
    have hl0 : (0 : Int) < (l.length : Int) := by omega
    have hl1 : 0 < l.length := by omega
    rw [show a.add 0 = a from rfl] at hc
    clear hz h0 hi h
    go_enter Tryz.func29, Tryz.ntmps29
    go_wp2_with fail
    exact bodyPost_ret (v := .tuple #[.string ⟨#[]⟩, .int .i64 0, .int .i64 0, .int .i64 0]) (by simp [results, Tryz.results29, go_sem]) rfl ⟨rfl, rfl⟩

set_option maxHeartbeats 3200000 in
set_option maxRecDepth 100000 in
/-- The first block is no frame's first. -/
theorem rread_begins (B c : Nat) (A : Option Addr) (l : List ByteArray) (z : ByteArray) (q j n : Nat) (w : World) (hl : l.length ≤ 9223372036854775807) (h : SRow w B A l) (hi : l[0]? = some z) (hz : z.size = 64)
    (hq : seqOf z.data.toList = q) (hj : idxOf z.data.toList = j) (hn : cntOf z.data.toList = n) (hbad : q < 1 ∨ 2147483647 < q ∨ j ≠ 0 ∨ n < 1 ∨ 108 < n) :
    Calls Tryz.prog 29 #[.slice A l.length c] w fun e w' => RReadV e (.error 0) ∧ w = w' := by
  obtain ⟨q4, j4, n4⟩ := seq_bd (b := z.data.toList) (by rw [size_len]; exact hz)
  rw [hq] at q4
  rw [hj] at j4
  rw [hn] at n4
  have hlen := (List.getElem?_eq_some_iff.1 hi).1
  obtain ⟨a, rfl, ha, hc⟩ := h.cell hi
  have V1 : Hid (∀ W, _) := Lib.hid fun W => rval_at z 56 60 W q (by omega) (by omega) (by omega) hq
  have V2 : Hid (∀ W, _) := Lib.hid fun W => rval_at z 62 64 W n (by omega) (by omega) (by omega) hn
  have V3 : Hid (∀ W, _) := Lib.hid fun W => rval_at z 60 62 W j (by omega) (by omega) (by omega) hj
  have hzi : (z.size : Int) = 64 := by omega
  have hli : ((l.length : Int) == 0) = false := by rw [beq_eq_false_iff_ne]; omega
  have hl0 : (0 : Int) < (l.length : Int) := by omega
  rw [show a.add 0 = a from rfl] at hc
  clear hi h hq hj hn
  go_enter Tryz.func29, Tryz.ntmps29
  go_wp2_with (go_at_call 47; (first | (with_reducible refine (V1.out _).mono ?_) | (with_reducible refine (V2.out _).mono ?_) | (with_reducible refine (V3.out _).mono ?_)); rintro e w5 ⟨rfl, rfl⟩)
  all_goals first
    | (exfalso; omega)
    | exact bodyPost_ret (v := .tuple #[.string ⟨#[]⟩, .int .i64 0, .int .i64 0, .int .i64 0]) (by simp [results, Tryz.results29, go_sem]) rfl ⟨rfl, rfl⟩
    | trace_state
end Go.Proofs.YtaibmdjcppeopaaGreatDoor

/- The contract of the reference's Read: it returns what the plain arithmetic says. Condition: the row is no longer than memory allows. -/
namespace Go.Proofs.YtaibmdjcppeopaaGreatDoor
open Go Go.RowKit

theorem readF_at {l : List (List UInt8)} {b : List UInt8} {q n m : Nat} (h0 : l[0]? = some b) (h64 : b.length = 64) (hq : seqOf b = q) (hn : cntOf b = n) (hok : ¬ (q < 1 ∨ 2147483647 < q ∨ idxOf b ≠ 0 ∨ n < 1 ∨ 108 < n))
    (hg : ∀ k, k < m → goodAt l q n k = true) (hb : goodAt l q n m = false) (hm : m < n) : readF l = .error m := by
  rw [← readP_eq]; exact readP_at h0 h64 hq hn hok hg hb hm
theorem readF_all {l : List (List UInt8)} {b : List UInt8} {q n : Nat} (h0 : l[0]? = some b) (h64 : b.length = 64) (hq : seqOf b = q) (hn : cntOf b = n) (hok : ¬ (q < 1 ∨ 2147483647 < q ∨ idxOf b ≠ 0 ∨ n < 1 ∨ 108 < n))
    (hg : ∀ k, k < n → goodAt l q n k = true) : readF l = if 6000 < valB ((joinF l n).take 4) ∨ (joinF l n).length < valB ((joinF l n).take 4) + 8 then .error 0
      else if framesF q (((joinF l n).drop 8).take (valB ((joinF l n).take 4))) = l.take n then .ok (((joinF l n).drop 8).take (valB ((joinF l n).take 4)), q, n) else .error 0 := by
  have e : badFrom l q n n 0 = n := by rw [bad_all n 0 (fun j _ hj => hg j (by omega))]; omega
  unfold readF
  rw [h0]
  simp only [h64, hq, hn, e]
  rw [if_neg (by omega), if_neg hok, if_neg (by omega)]

theorem join_len {l : List (List UInt8)} {q n m : Nat} (hg : ∀ k, k < m → goodAt l q n k = true) : ∀ j, j ≤ m → (joinF l j).length = 56 * j
  | 0, _ => rfl
  | j + 1, hj => by
    obtain ⟨b, hb, h64, _⟩ := goodAt_iff.1 (hg j (by omega))
    rw [join_succ hb, List.length_append, join_len hg j (by omega), List.length_take, h64]
    omega
/-- What a round of the reference's second loop begins with. -/
def VRel (w : World) (g : Nat) (n : Nat) (l : List ByteArray) (B : Nat) (A : Option Addr) (F : List (List UInt8)) (i : Value) (wr : World) : Prop :=
  ∃ j : Nat, i = .int .i64 j ∧ j ≤ n ∧ (∀ t, t < j → F[t]? = (rows l)[t]?) ∧ SRow wr wr.heap.size (some ⟨g, 0, none⟩) (F.map bst) ∧ SRow wr B A l ∧ Below w.heap.size w wr
theorem VRel.drew {w wr : World} {g n B : Nat} {l : List ByteArray} {A : Option Addr} {F : List (List UInt8)} {i : Value} (h : VRel w g n l B A F i wr) : VRel w g n l B A F i wr.drew := by
  obtain ⟨j, h1, h2, h3, h4, h5, h6⟩ := h
  exact ⟨j, h1, h2, h3, h4, h5, h6.drew⟩
theorem VRel.drewN {w wr : World} {g n B : Nat} {l : List ByteArray} {A : Option Addr} {F : List (List UInt8)} {i : Value} (h : VRel w g n l B A F i wr) (m : Nat) : VRel w g n l B A F i (wr.drewN m) := by
  obtain ⟨j, h1, h2, h3, h4, h5, h6⟩ := h
  exact ⟨j, h1, h2, h3, h4, h5, below_drewN h6 m⟩
theorem take_ne {F G : List (List UInt8)} {n t : Nat} (ht : t < n) (h : F[t]? ≠ G[t]?) : F ≠ G.take n := fun e => h (by rw [e, List.getElem?_take_of_lt ht])
theorem take_eq {F G : List (List UInt8)} {n : Nat} (hl : F.length = n) (hn : n ≤ G.length) (h : ∀ t, t < n → F[t]? = G[t]?) : F = G.take n := by
  apply List.ext_getElem?
  intro i
  by_cases hi : i < n
  · rw [h i hi, List.getElem?_take_of_lt hi]
  · rw [List.getElem?_eq_none (by omega), List.getElem?_eq_none (by simp; omega)]
/-- What a round of the reference's first loop begins with. -/
def URel (w : World) (q n : Nat) (l : List ByteArray) (s i : Value) (wr : World) : Prop :=
  ∃ j : Nat, i = .int .i64 j ∧ j ≤ n ∧ s = .string (bst (joinF (rows l) j)) ∧ (∀ k, k < j → goodAt (rows l) q n k = true) ∧ Below w.heap.size w wr
theorem URel.drew {w wr : World} {q n : Nat} {l : List ByteArray} {s i : Value} (h : URel w q n l s i wr) : URel w q n l s i wr.drew := by
  obtain ⟨j, h1, h2, h3, h4, h5⟩ := h
  exact ⟨j, h1, h2, h3, h4, h5.drew⟩
theorem URel.drewN {w wr : World} {q n : Nat} {l : List ByteArray} {s i : Value} (h : URel w q n l s i wr) (m : Nat) : URel w q n l s i (wr.drewN m) := by
  obtain ⟨j, h1, h2, h3, h4, h5⟩ := h
  exact ⟨j, h1, h2, h3, h4, below_drewN h5 m⟩

set_option maxHeartbeats 6400000 in
set_option maxRecDepth 100000 in
theorem rread_loop (B c : Nat) (A : Option Addr) (l : List ByteArray) (z : ByteArray) (q n : Nat) (w : World) (hl : l.length ≤ 9223372036854775807) (h : SRow w B A l) (hB : B ≤ w.heap.size) (hi : l[0]? = some z) (hz : z.size = 64)
    (hq : seqOf z.data.toList = q) (hj : idxOf z.data.toList = 0) (hn : cntOf z.data.toList = n) (hok : ¬ (q < 1 ∨ 2147483647 < q ∨ (0 : Nat) ≠ 0 ∨ n < 1 ∨ 108 < n)) :
    Calls Tryz.prog 29 #[.slice A l.length c] w fun e w' => RReadV e (readF (rows l)) ∧ Below w.heap.size w w' := by
  have h64 : z.data.toList.length = 64 := by rw [size_len]; exact hz
  have hrow : (rows l)[0]? = some z.data.toList := by rw [rows_get, hi]; rfl
  have hok' : ¬ (q < 1 ∨ 2147483647 < q ∨ idxOf z.data.toList ≠ 0 ∨ n < 1 ∨ 108 < n) := by rw [hj]; exact hok
  have RA : Hid (∀ m, (∀ k, k < m → goodAt (rows l) q n k = true) → goodAt (rows l) q n m = false → m < n → readF (rows l) = .error m) := Lib.hid fun m a b d => readF_at hrow h64 hq hn hok' a b d
  have RB := Lib.hid (fun a => readF_all hrow h64 hq hn hok' a)
  have hlen := (List.getElem?_eq_some_iff.1 hi).1
  have hsr := h
  obtain ⟨a, rfl, ha, hc⟩ := h.cell hi
  have V1 : Hid (∀ W, _) := Lib.hid fun W => rval_at z 56 60 W q (by omega) (by omega) (by omega) hq
  have V2 : Hid (∀ W, _) := Lib.hid fun W => rval_at z 62 64 W n (by omega) (by omega) (by omega) hn
  have V3 : Hid (∀ W, _) := Lib.hid fun W => rval_at z 60 62 W 0 (by omega) (by omega) (by omega) hj
  have hzi : (z.size : Int) = 64 := by omega
  have hli : ((l.length : Int) == 0) = false := by rw [beq_eq_false_iff_ne]; omega
  have hl0 : (0 : Int) < (l.length : Int) := by omega
  rw [show a.add 0 = a from rfl] at hc
  have HSR := Lib.hid hsr
  have HL := Lib.hid hl
  clear hi h hq hj hn h64 hrow hok' hsr
  go_enter Tryz.func29, Tryz.ntmps29
  go_wp2_with (go_at_call 47; (first | (with_reducible refine (V1.out _).mono ?_) | (with_reducible refine (V2.out _).mono ?_) | (with_reducible refine (V3.out _).mono ?_)); rintro e w5 ⟨rfl, rfl⟩)
  have HST : Hid (URel w q n l (.string ⟨#[]⟩) (.int .i64 0) w) := Lib.hid ⟨0, rfl, Nat.zero_le _, rfl, fun k hk => absurd hk (by omega), Below.refl _ _⟩
  go_loopw [8, 9] (fun s i wr => URel w q n l s i wr) (fun _ i _ => n - (intOf i).toNat)
  case atStart => exact HST.out
  case round =>
    obtain ⟨j, rfl, hj, rfl, hg, hb⟩ := hrel
    clear HST V1 V2 V3
    by_cases hjn : j < n
    · have ji : (j : Int) < (n : Int) := by omega
      have j0 : (0 : Int) ≤ (j : Int) := by omega
      have hsr := HSR.out.below hb hB
      by_cases hjl : l.length ≤ j
      · have HR := Lib.hid (RA.out j hg (good_no fun b hb' => by rw [rows_get, List.getElem?_eq_none hjl] at hb'; cases hb') hjn)
        have d1 : decide ((l.length : Int) ≤ (j : Int)) = true := decide_eq_true (by omega)
        have HB := Lib.hid hb
        have hji : (l.length : Int) ≤ (j : Int) := by omega
        clear hg hb hsr
        go_wp2_with fail
        go_region
        all_goals go_wp2_with fail
        all_goals refine bodyPost_ret (v := .tuple #[.string ⟨#[]⟩, .int .i64 0, .int .i64 0, .int .i64 (j : Int)]) (by simp [results, Tryz.results29, go_sem]) rfl ⟨?_, by first | exact HB.out.drew | exact below_drewN HB.out _ | exact HB.out⟩
        all_goals rw [HR.out]
        all_goals exact rfl
      · obtain ⟨y, hy⟩ : ∃ y, l[j]? = some y := ⟨_, List.getElem?_eq_getElem (by omega)⟩
        obtain ⟨ad, e1, hal, hcy⟩ := hsr.cell hy
        cases e1
        have hbk : (a.add j).block < wr.heap.size := by rw [block_addS]; have := hb.size; omega
        have hjli : ¬ (l.length : Int) ≤ (j : Int) := by omega
        have hjl2 : (j : Int) < (l.length : Int) := by omega
        have hjl3 : j < l.length := by omega
        by_cases hy64 : y.size = 64
        · have hyr : (rows l)[j]? = some y.data.toList := by rw [rows_get, hy]; rfl
          have hyl : y.data.toList.length = 64 := by rw [size_len]; exact hy64
          obtain ⟨A4, hA⟩ : ∃ A4, bst (leB 4 q) = A4 := ⟨_, rfl⟩
          obtain ⟨Bj, hBj⟩ : ∃ Bj, bst (leB 2 j) = Bj := ⟨_, rfl⟩
          obtain ⟨Cn, hC⟩ : ∃ Cn, bst (leB 2 n) = Cn := ⟨_, rfl⟩
          have sA : A4.size = 4 := by rw [← hA, bst_size, leB_len]
          have sB : Bj.size = 2 := by rw [← hBj, bst_size, leB_len]
          have sC : Cn.size = 2 := by rw [← hC, bst_size, leB_len]
          have hcm : ((y.extract 56 64).toList == (A4 ++ Bj ++ Cn).toList) = goodAt (rows l) q n j := by
            rw [str_beq, ← hA, ← hBj, ← hC, bst_cat, bst_cat, Bool.eq_iff_iff, decide_eq_true_eq, goodAt_iff]
            constructor
            · intro e
              refine ⟨_, hyr, hyl, ?_⟩
              have := congrArg (fun s : ByteArray => s.data.toList) e
              simp only [cut_list, bst_list] at this
              rw [List.take_of_length_le (by rw [List.length_drop, hyl]; omega)] at this
              exact this
            · rintro ⟨b, hb', _, h3⟩
              cases hyr.symm.trans hb'
              refine bst_ext ?_
              rw [cut_list, bst_list, List.take_of_length_le (by rw [List.length_drop, hyl]; omega), h3]
              rfl
          have N1 : ∀ w' : World, Calls Tryz.prog 38 #[.int .i64 (q : Int), .int .i64 4] w' fun e w'' => e = .returned (.string (bst (leB 4 q))) ∧ Below w'.heap.size w' w'' := fun w' => rnum_c q 4 w' (by omega) (by omega)
          rw [hA] at N1
          have N2 : ∀ w' : World, Calls Tryz.prog 38 #[.int .i64 (j : Int), .int .i64 2] w' fun e w'' => e = .returned (.string (bst (leB 2 j))) ∧ Below w'.heap.size w' w'' := fun w' => rnum_c j 2 w' (by omega) (by omega)
          rw [hBj] at N2
          have N3 : ∀ w' : World, Calls Tryz.prog 38 #[.int .i64 (n : Int), .int .i64 2] w' fun e w'' => e = .returned (.string (bst (leB 2 n))) ∧ Below w'.heap.size w' w'' := fun w' => rnum_c n 2 w' (by omega) (by omega)
          rw [hC] at N3
          have M1 := Lib.hid N1; have M2 := Lib.hid N2; have M3 := Lib.hid N3
          have HSS : Hid (∀ W, Below wr.heap.size wr W → (W.cell? (a.add j) = some (.string y) ∧ Below wr.heap.size wr W)) := Lib.hid fun W hW => ⟨(hW.cell hbk).trans hcy, hW⟩
          have hyi : (y.size : Int) = 64 := by omega
          have z1 : ¬ 9223372036854775807 < 4 + 2 := by omega
          have z2 : ¬ 9223372036854775807 < 4 + 2 + 2 := by omega
          have HRA : Hid (goodAt (rows l) q n j = false → readF (rows l) = .error j) := Lib.hid fun g => RA.out j hg g hjn
          have HG : Hid (goodAt (rows l) q n j = true → ∀ W, Below wr.heap.size wr W → URel w q n l (.string (bst (joinF (rows l) j) ++ y.extract 0 56)) (.int .i64 ((j : Int) + 1)) W) := Lib.hid fun g W hW =>
            ⟨j + 1, ret_v (by omega), hjn, val_str (by rw [join_succ hyr, ← bst_cat]; congr 1; exact bst_ext (by rw [cut_list]; rfl)), fun k hk => by
              by_cases e : k = j
              · subst e; exact g
              · exact hg k (by omega), hb.trans (hW.mono hb.size)⟩
          have hjs : (bst (joinF (rows l) j)).size = 56 * j := by
            rw [bst_size]; exact join_len hg j (Nat.le_refl _)
          obtain ⟨J, hJ⟩ : ∃ J, bst (joinF (rows l) j) = J := ⟨_, rfl⟩
          rw [hJ] at hjs HG ⊢
          have z3 : ¬ 9223372036854775807 < 56 * j + 56 := by omega
          have y56 : (y.extract 0 56).size = 56 := by rw [cut_size _ _ _ (by omega) (by omega)]
          have HB := Lib.hid hb
          have hsz := hb.size
          clear N1 N2 N3 hA hBj hC hJ hyr hyl hg hb hsr hy
          cases hgood : goodAt (rows l) q n j with
          | false =>
            rw [hgood] at hcm
            have HR := Lib.hid (HRA.out hgood)
            clear hgood HG
            go_wp2_with fail
            go_region_held3 (fun W => W.cell? (a.add j) = some (.string y) ∧ Below wr.heap.size wr W)
              (exact HSS.out _ (by (repeat' (first | (with_reducible exact Below.refl _ _) | (with_reducible refine below_drewN ?_ _) | (with_reducible refine Below.drew ?_) | (with_reducible refine Below.alloc ?_ ?_ _) | (with_reducible refine Below.setCell ?_ ?_ _) | (with_reducible refine Below.trans ?_ (Below.mono (by with_reducible assumption) ?_)) | omega | (simp only [World.size_drew] at *; omega) | (with_reducible refine Below.size (B := 0) ?_)))))
              (first | (go_at_call 38; (first | (with_reducible refine (M1.out _).mono ?_) | (with_reducible refine (M2.out _).mono ?_) | (with_reducible refine (M3.out _).mono ?_)); rintro e w5 ⟨rfl, b5⟩))
            all_goals go_wp2_with fail
            all_goals refine bodyPost_ret (v := .tuple #[.string ⟨#[]⟩, .int .i64 0, .int .i64 0, .int .i64 (j : Int)]) (by simp [results, Tryz.results29, go_sem]) rfl ⟨?_, HB.out.trans ((show Below wr.heap.size wr _ by (repeat' (first | (with_reducible exact Below.refl _ _) | (with_reducible refine below_drewN ?_ _) | (with_reducible refine Below.drew ?_) | (with_reducible refine Below.alloc ?_ ?_ _) | (with_reducible refine Below.setCell ?_ ?_ _) | (with_reducible refine Below.trans ?_ (Below.mono (by with_reducible assumption) ?_)) | omega | (simp only [World.size_drew] at *; omega) | (with_reducible refine Below.size (B := 0) ?_)))).mono hsz)⟩
            all_goals rw [HR.out]
            all_goals exact rfl
          | true =>
            rw [hgood] at hcm
            have HN := Lib.hid (HG.out hgood)
            clear hgood HRA HG
            go_wp2_with fail
            go_region_held3 (fun W => W.cell? (a.add j) = some (.string y) ∧ Below wr.heap.size wr W)
              (exact HSS.out _ (by (repeat' (first | (with_reducible exact Below.refl _ _) | (with_reducible refine below_drewN ?_ _) | (with_reducible refine Below.drew ?_) | (with_reducible refine Below.alloc ?_ ?_ _) | (with_reducible refine Below.setCell ?_ ?_ _) | (with_reducible refine Below.trans ?_ (Below.mono (by with_reducible assumption) ?_)) | omega | (simp only [World.size_drew] at *; omega) | (with_reducible refine Below.size (B := 0) ?_)))))
              (first | (go_at_call 38; (first | (with_reducible refine (M1.out _).mono ?_) | (with_reducible refine (M2.out _).mono ?_) | (with_reducible refine (M3.out _).mono ?_)); rintro e w5 ⟨rfl, b5⟩))
            all_goals go_wp2_with fail
            all_goals go_roundw
            all_goals first
              | (simp [intOf]; omega)
              | exact HN.out _ (by (repeat' (first | (with_reducible exact Below.refl _ _) | (with_reducible refine below_drewN ?_ _) | (with_reducible refine Below.drew ?_) | (with_reducible refine Below.alloc ?_ ?_ _) | (with_reducible refine Below.setCell ?_ ?_ _) | (with_reducible refine Below.trans ?_ (Below.mono (by with_reducible assumption) ?_)) | omega | (simp only [World.size_drew] at *; omega) | (with_reducible refine Below.size (B := 0) ?_))))
        · have HR := Lib.hid (RA.out j hg (good_no fun b hb' => by rw [rows_get, hy] at hb'; cases hb'; rw [size_len]; exact hy64) hjn)
          have HB := Lib.hid hb
          have hyi : ((y.size : Int) != 64) = true := by rw [bne_iff_ne]; omega
          clear hg hb hsr hy
          go_wp2_with fail
          go_region
          all_goals go_wp2_with fail
          all_goals refine bodyPost_ret (v := .tuple #[.string ⟨#[]⟩, .int .i64 0, .int .i64 0, .int .i64 (j : Int)]) (by simp [results, Tryz.results29, go_sem]) rfl ⟨?_, by first | exact HB.out.drew | exact below_drewN HB.out _ | exact HB.out⟩
          all_goals rw [HR.out]
          all_goals exact rfl
    · obtain rfl : j = n := by omega
      have hRB := RB.out hg
      have hjl := join_len hg j (Nat.le_refl _)
      have hll : j ≤ l.length := by
        obtain ⟨b, hb', _⟩ := goodAt_iff.1 (hg (j - 1) (by omega))
        have := (List.getElem?_eq_some_iff.1 hb').1; rw [rows_len] at this; omega
      obtain ⟨J, hJ⟩ : ∃ J, joinF (rows l) j = J := ⟨_, rfl⟩
      rw [hJ] at hRB hjl ⊢
      obtain ⟨k, hk⟩ : ∃ k, valB (J.take 4) = k := ⟨_, rfl⟩
      rw [hk] at hRB
      obtain ⟨P, hP⟩ : ∃ P, bst J = P := ⟨_, rfl⟩
      have hPs : P.size = 56 * j := by rw [← hP, bst_size, hjl]
      have hPl : P.data.toList = J := by rw [← hP]; rfl
      rw [hP]
      have VK : Hid (∀ W, _) := Lib.hid fun W => rval_at P 0 4 W k (by omega) (by omega) (by omega) (by rw [hPl]; exact hk)
      have hk4 : k < 4294967296 := by
        have := valB_lt (J.take 4)
        rw [hk, show (J.take 4).length = 4 by rw [List.length_take, hjl]; omega] at this
        exact this
      have hsr := HSR.out.below hb hB
      have HB := Lib.hid hb
      have hsz := hb.size
      have p4 : (4 : Int) ≤ (P.size : Int) := by omega
      have p56 : 8 ≤ P.size := by omega
      rw [hjl] at hRB
      by_cases hbad : 6000 < k ∨ 56 * j < k + 8
      · rw [if_pos hbad] at hRB
        have HRB := Lib.hid hRB
        clear hRB hg hb hsr RA RB hJ hP hPl hjl hk
        go_wp2_with fail
        refine (VK.out _).mono ?_
        rintro e w5 ⟨rfl, rfl⟩
        go_wp2_with fail
        all_goals first
          | (exfalso; omega)
          | (refine bodyPost_ret (v := .tuple #[.string ⟨#[]⟩, .int .i64 0, .int .i64 0, .int .i64 0]) (by simp [results, Tryz.results29, go_sem]) rfl ⟨?_, HB.out⟩; rw [HRB.out]; exact rfl)
          | trace_state
      · rw [if_neg hbad] at hRB
        obtain ⟨D, hD⟩ : ∃ D, P.extract 8 (8 + k) = D := ⟨_, rfl⟩
        have hDs : D.size = k := by rw [← hD, cut_size _ _ _ (by omega) (by omega)]; omega
        have hDl : D.data.toList = (J.drop 8).take k := by rw [← hD, cut_list, hPl, show 8 + k - 8 = k by omega]
        rw [← hDl] at hRB
        have hbk := fun W => rblocks_ok q D W (by omega) (by omega) (by omega)
        obtain ⟨F, hF⟩ : ∃ F, framesF q D.data.toList = F := ⟨_, rfl⟩
        rw [hF] at hRB hbk
        have hFl : F.length = nblk k := by rw [← hF, framesF_len, size_len, hDs]
        rw [hDs] at hbk
        have HBK := Lib.hid hbk
        have HRB := Lib.hid hRB
        have s1 := fun W => run_cut P 8 (8 + (k : Int)) 8 (8 + k) W (by omega) (by omega) (by omega) (by omega)
        rw [hD] at s1
        have k1 : ¬ (6000 : Int) < (k : Int) := by omega
        have hnb : nblk k ≤ 108 := by unfold nblk; omega
        have hnb1 : 1 ≤ nblk k := by unfold nblk; omega
        have HDb := Lib.hid (bst_of D)
        clear hRB hg hb RA RB hJ hP hPl hjl hk hbk hF hD hDs
        go_wp2_with fail
        refine (VK.out _).mono ?_
        rintro e w5 ⟨rfl, rfl⟩
        go_wp2_with fail
        refine (HBK.out _).mono ?_
        rintro e w6 ⟨⟨v, base, rfl, ho⟩, b6⟩
        obtain ⟨g, cap, rfl, hcap, hsF, hnF⟩ := own_srow ho (by omega)
        have HB6 : Hid (Below w.heap.size w w6) := Lib.hid (HB.out.trans (b6.mono hsz))
        have hsl6 := HSR.out.below HB6.out hB
        rw [← hnF]
        clear ho hcap b6 hsr
        by_cases hkn : nblk k = j
        · have hnei : (((nblk k : Nat) : Int) != (j : Int)) = false := by rw [bne_eq_false_iff_eq]; omega
          have hlF : F.length = j := by omega
          have HST2 : Hid (VRel w g j l B (some a) F (.int .i64 0) w6) := Lib.hid ⟨0, rfl, Nat.zero_le _, fun t ht => absurd ht (by omega), hsF, hsl6, HB6.out⟩
          have HTK : Hid (∀ t, t < j → F[t]? ≠ (rows l)[t]? → readF (rows l) = .error 0) := Lib.hid fun t ht hne => by rw [HRB.out, if_neg (take_ne ht hne)]
          have HTE : Hid ((∀ t, t < j → F[t]? = (rows l)[t]?) → readF (rows l) = .ok (D.data.toList, q, j)) := Lib.hid fun he => by rw [HRB.out, if_pos (take_eq hlF (by rw [rows_len]; exact hll) he)]
          clear hsF hsl6 HBK HRB VK hnF
          rw [hkn]
          go_wp2_with fail
          go_loopw [13] (fun i wr => VRel w g j l B (some a) F i wr) (fun i _ => j - (intOf i).toNat)
          case atStart => exact HST2.out
          case round =>
            obtain ⟨t, rfl, ht, he, hsF, hsl, hb⟩ := hrel
            clear HST2
            by_cases htj : t < j
            · obtain ⟨x, hx⟩ : ∃ x, F[t]? = some x := ⟨_, List.getElem?_eq_getElem (by omega)⟩
              obtain ⟨y, hy⟩ : ∃ y, l[t]? = some y := ⟨_, List.getElem?_eq_getElem (by omega)⟩
              obtain ⟨a1, e1, l1, c1⟩ := hsF.cell (i := t) (z := bst x) (by rw [List.getElem?_map, hx]; rfl)
              cases e1
              obtain ⟨a2, e2, l2, c2⟩ := hsl.cell hy
              cases e2
              rw [adr0] at c1
              obtain ⟨S, hS⟩ : ∃ S, bst x = S := ⟨_, rfl⟩
              rw [hS] at c1
              have hyr : (rows l)[t]? = some y.data.toList := by rw [rows_get, hy]; rfl
              have hcm : (S.toList == y.toList) = decide (x = y.data.toList) := by
                rw [str_beq, ← hS, Bool.eq_iff_iff, decide_eq_true_eq, decide_eq_true_eq]
                constructor
                · intro h; rw [← h]; rfl
                · intro h; rw [h, ← bst_of]
              have ti : (t : Int) < (j : Int) := by omega
              have t0 : (0 : Int) ≤ (t : Int) := by omega
              have tl : (t : Int) < (l.length : Int) := by omega
              have tl2 : t < l.length := by omega
              have hz1 := hb.size
              have HBB := Lib.hid hb
              have tlF : (t : Int) < (F.length : Int) := by omega
              by_cases hxy : x = y.data.toList
              · rw [decide_eq_true hxy] at hcm
                have HN : Hid (VRel w g j l B (some a) F (.int .i64 ((t : Int) + 1)) wr) := Lib.hid ⟨t + 1, ret_v (by omega), htj, fun r hr => by
                  by_cases e : r = t
                  · subst e; rw [hx, hyr, hxy]
                  · exact he r (by omega), hsF, hsl, hb⟩
                clear he hsF hsl hb hS hx hy hyr hxy
                go_wp2_with fail
                go_region
                all_goals go_wp2_with fail
                all_goals go_roundw
                all_goals first
                  | (simp [intOf]; omega)
                  | (repeat' (first | (with_reducible exact HN.out) | (with_reducible refine VRel.drew ?_) | (with_reducible refine VRel.drewN ?_ _)))
              · rw [decide_eq_false hxy] at hcm
                have HE := Lib.hid (HTK.out t htj (by rw [hx, hyr]; intro h; exact hxy (Option.some.inj h)))
                clear he hsF hsl hb hS hx hy hyr hxy
                go_wp2_with fail
                go_region
                all_goals go_wp2_with fail
                all_goals refine bodyPost_ret (v := .tuple #[.string ⟨#[]⟩, .int .i64 0, .int .i64 0, .int .i64 0]) (by simp [results, Tryz.results29, go_sem]) rfl ⟨?_, by first | exact HBB.out.drew | exact below_drewN HBB.out _ | exact HBB.out⟩
                all_goals rw [HE.out]
                all_goals exact rfl
            · obtain rfl : t = j := by omega
              have HE := Lib.hid (HTE.out he)
              have HBB := Lib.hid hb
              clear he hsF hsl hb
              go_wp2_with fail
              refine bodyPost_ret (v := .tuple #[.string D, .int .i64 (q : Int), .int .i64 (t : Int), .int .i64 (-1)]) (by simp [results, Tryz.results29, go_sem]) rfl ⟨?_, HBB.out⟩
              rw [HE.out]
              show Ending.returned _ = .returned _
              rw [← HDb.out]
        · have hnei : (((nblk k : Nat) : Int) != (j : Int)) = true := by rw [bne_iff_ne]; omega
          have HE : Hid (readF (rows l) = .error 0) := Lib.hid (by
            rw [HRB.out, if_neg]
            intro e
            have := congrArg List.length e
            rw [List.length_take, rows_len, Nat.min_eq_left hll, hFl] at this
            exact hkn this)
          have HBB := HB6
          have hnei2 : ((F.length : Int) != (j : Int)) = true := by rw [hFl]; exact hnei
          clear hsF hsl6 HBK HRB VK hFl hnF hkn
          go_wp2_with fail
          refine bodyPost_ret (v := .tuple #[.string ⟨#[]⟩, .int .i64 0, .int .i64 0, .int .i64 0]) (by simp [results, Tryz.results29, go_sem]) rfl ⟨?_, HBB.out⟩
          rw [HE.out]
          exact rfl
end Go.Proofs.YtaibmdjcppeopaaGreatDoor
