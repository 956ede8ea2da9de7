/- The contract of the reference's Blocks. Conditions: lengths as the callers have them. -/
import Derived.Test.YtbiofjdlfppfoaaDoorFrQ
namespace Go.Proofs.YtbiofjdlfppfoaaDoor
open Go Go.RowKit

/-- A call of the reference's number as one step of a region. -/
theorem step_call {ops : Array Oper} {o : Oper} {a : Act} {w : World} {K : Act → World → Prop} {Q : Exit → Act → World → Prop} {E : Prop} (hgd : o.guard = none) (x y : Operand)
    (ho : o.op = .call { callee := .value (.func 18), args := #[x, y], argTypes := #[3, 3] }) (n k : Int) (hx : a.eval x = .int .i64 n) (hy : a.eval y = .int .i64 k) (S : ByteArray)
    (hc : Calls Tryd.prog 18 #[.int .i64 n, .int .i64 k] w fun e w' => e = .returned (.string S) ∧ Below w.heap.size w w')
    (h : ∀ w', Below w.heap.size w w' → K (a.put o.dst (.string S)) w') :
    if Region.wanted o (yielded ops a.tmps) = true then Oper.wp Tryd.prog o a w K Q else E := by
  have hw : Region.wanted o (yielded ops a.tmps) = true := by simp [Region.wanted, hgd]
  rw [if_pos hw]
  unfold Oper.wp execOp
  simp only [ho, resolve, invoke, Sem.run_bind, Sem.run_pure, Result.andThen_ok, List.map_toArray, List.map_cons, List.map_nil, hx, hy]
  go_simp
  refine hc.mono ?_
  rintro e w5 ⟨rfl, hb⟩
  exact h w5 hb
theorem step_num {ops : Array Oper} {o : Oper} {a : Act} {w : World} {K : Act → World → Prop} {Q : Exit → Act → World → Prop} {E : Prop} (hgd : o.guard = none) (x y : Operand)
    (ho : o.op = .call { callee := .value (.func 18), args := #[x, y], argTypes := #[3, 3] }) (n k : Nat) (hx : a.eval x = .int .i64 (n : Int)) (hy : a.eval y = .int .i64 (k : Int)) (hk : k ≤ 4) (hn : n < 4294967296)
    (h : ∀ w', Below w.heap.size w w' → K (a.put o.dst (.string (bst (leB k n)))) w') :
    if Region.wanted o (yielded ops a.tmps) = true then Oper.wp Tryd.prog o a w K Q else E := by
  have hw : Region.wanted o (yielded ops a.tmps) = true := by simp [Region.wanted, hgd]
  rw [if_pos hw]
  have hc := (rnum_c n k w hk hn)
  unfold Oper.wp execOp
  simp only [ho, resolve, invoke, Sem.run_bind, Sem.run_pure, Result.andThen_ok, List.map_toArray, List.map_cons, List.map_nil, hx, hy]
  go_simp
  refine hc.mono ?_
  rintro e w5 ⟨rfl, hb⟩
  exact h w5 hb

set_option maxHeartbeats 1600000 in
set_option maxRecDepth 100000 in
theorem rblocks_bad (q : Int) (d : ByteArray) (w : World) (hd : d.size ≤ 9223372036854775807) (h : q < 1 ∨ 2147483647 < q ∨ 6000 < d.size) :
    Calls Tryd.prog 9 #[.int .i64 q, .string d] w fun e w' => e = .returned (.tuple #[.slice none 0 0, .bool false]) ∧ w = w' := by
  go_enter Tryd.func9, Tryd.ntmps9
  go_wp2_with fail
  all_goals first | (go_ret2; exact ⟨rfl, rfl⟩) | (exfalso; omega)

/-- What the padding's loop begins with. -/
def DRel (H : List UInt8) (pad : Nat) (s : Value) : Prop := ∃ m : Nat, m ≤ pad ∧ s = .string (bst (H ++ List.replicate m 0))
theorem DRel.step {H : List UInt8} {pad m : Nat} (hm : m < pad) : DRel H pad (.string (bst (H ++ List.replicate m 0) ++ ⟨#[0]⟩)) := by
  refine ⟨m + 1, hm, val_str ?_⟩
  rw [show (⟨#[0]⟩ : ByteArray) = bst [0] from rfl, bst_cat, List.append_assoc, List.replicate_succ']
/-- What a round of the loop over the blocks begins with. -/
def SRelB (w : World) (base q : Nat) (L : List UInt8) (l i : Value) (wr : World) : Prop :=
  ∃ (j : Nat) (v : Value), v = l ∧ i = .int .i64 j ∧ j ≤ nblk L.length ∧ wr.ownsRow base 9 1 v j (strVs ((framesF q L).take j)) ∧ Below w.heap.size w wr ∧ base ≤ wr.heap.size
theorem SRelB.step {w wr W w3 : World} {base q j N : Nat} {L b : List UInt8} {v v' : Value} (hj : j < nblk L.length) (hb : Below w.heap.size w wr) (hN : N = j + 1)
    (hown : w3.ownsRow base 9 1 v' N (strVs ((framesF q L).take j) ++ strVs [b])) (hat : b = blkF q (nblk L.length) (payF L) j) (hW : Below wr.heap.size wr W) (hg : W.grownBy w3 v.ownBlock) (hob : ∀ x, v.ownBlock = some x → base ≤ x) (hw : w.heap.size ≤ base) (hbs : base ≤ wr.heap.size) :
    SRelB w base q L v' (.int .i64 ((j : Int) + 1)) w3 := by
  subst hN
  refine ⟨j + 1, v', rfl, ret_v (by omega), hj, ?_, (hb.trans (hW.mono hb.size)).grown hg (Nat.le_trans hb.size hW.size) (fun x hx => Nat.le_trans hw (hob x hx)), Nat.le_trans hbs (Nat.le_trans hW.size hg.size)⟩
  rw [strVs_app] at hown
  rw [List.take_add_one, framesF_get q L j hj, ← hat]
  exact hown
theorem SRelB.drew {w wr : World} {base q : Nat} {L : List UInt8} {l i : Value} (h : SRelB w base q L l i wr) : SRelB w base q L l i wr.drew := by
  obtain ⟨j, v, h1, h2, h3, h4, h5, h6⟩ := h
  exact ⟨j, v, h1, h2, h3, own_same h4 (fun _ _ => rfl), h5.drew, h6⟩
theorem SRelB.drewN {w wr : World} {base q : Nat} {L : List UInt8} {l i : Value} (h : SRelB w base q L l i wr) (n : Nat) : SRelB w base q L l i (wr.drewN n) := by
  obtain ⟨j, v, h1, h2, h3, h4, h5, h6⟩ := h
  exact ⟨j, v, h1, h2, h3, own_same h4 (fun _ _ => rfl), below_drewN h5 n, h6⟩

set_option maxHeartbeats 6400000 in
set_option maxRecDepth 100000 in
theorem rblocks_ok (q : Nat) (d : ByteArray) (w : World) (h1 : 1 ≤ q) (h2 : q ≤ 2147483647) (hd : d.size ≤ 6000) :
    Calls Tryd.prog 9 #[.int .i64 (q : Int), .string d] w fun e w' => (∃ v base, e = .returned (.tuple #[v, .bool true]) ∧ w'.ownsRow base 9 1 v (nblk d.size) (strVs (framesF q d.data.toList))) ∧ Below w.heap.size w w' := by
  obtain ⟨L, hL⟩ : ∃ L, d.data.toList = L := ⟨_, rfl⟩
  have hsl : d.size = L.length := by rw [← hL, size_len]
  obtain ⟨n, hn⟩ : ∃ n, nblk L.length = n := ⟨_, rfl⟩
  have hn1 : 1 ≤ n ∧ n ≤ 108 := by rw [← hn]; unfold nblk; omega
  have hn2 : L.length + 8 ≤ 56 * n ∧ 56 * n < L.length + 8 + 56 := by rw [← hn]; unfold nblk; omega
  obtain ⟨c, hc⟩ : ∃ c, crcN L = c := ⟨_, rfl⟩
  have hcrc := crcN_lt L
  rw [show (256 : Nat) ^ 4 = 4294967296 from rfl, hc] at hcrc
  have HN1 : Hid (∀ W, _) := Lib.hid fun W => rnum_c L.length 4 W (by omega) (by omega)
  have HN2 : Hid (∀ W, _) := Lib.hid fun W => rnum_c c 4 W (by omega) hcrc
  have hmore : moreI 1 L = ((c : Nat) : Int) := by
    have := (moreI_bd L 1 (by unfold U32; omega)); unfold U32 at this; unfold crcN at hc; omega
  have hsum := fun W => sum_rof_c d W (by omega)
  rw [hL, hmore] at hsum
  have HS := Lib.hid hsum; clear hsum hmore
  obtain ⟨X, hX⟩ : ∃ X, bst (leB 4 L.length) = X := ⟨_, rfl⟩
  obtain ⟨Y, hY⟩ : ∃ Y, bst (leB 4 c) = Y := ⟨_, rfl⟩
  have xs : X.size = 4 := by rw [← hX, bst_size, leB_len]
  have ys : Y.size = 4 := by rw [← hY, bst_size, leB_len]
  rw [hX] at HN1
  rw [hY] at HN2
  have hH : X ++ Y ++ d = bst (leB 4 L.length ++ leB 4 c ++ L) := by
    rw [← hX, ← hY, bst_of d, hL, bst_cat, bst_cat]
  have HH := Lib.hid hH; clear hH
  have q0 : ¬ ((q : Int) < 1) := by omega
  have q1 : ¬ (2147483647 < (q : Int)) := by omega
  have d1 : ¬ (6000 < (L.length : Int)) := by omega
  have z1 : ¬ 9223372036854775807 < 4 + 4 := by omega
  have z2 : ¬ 9223372036854775807 < 4 + 4 + L.length := by omega
  rw [hL, hsl, hn]
  have hcl := Lib.hid hc
  clear hX hY hc
  go_enter Tryd.func9, Tryd.ntmps9
  go_wp2_with fail
  refine (HN1.out _).mono ?_
  rintro e w1 ⟨rfl, b1⟩
  go_wp2_with fail
  refine (HS.out _).mono ?_
  rintro e w1' ⟨rfl, rfl⟩
  go_wp2_with fail
  refine (HN2.out _).mono ?_
  rintro e w2 ⟨rfl, b2⟩
  have B2 : Hid (Below w.heap.size w w2) := Lib.hid (b1.trans (b2.mono b1.size))
  clear b1 b2
  go_wp2_with fail
  rw [HH.out]
  have HPAY : Hid (payF L = leB 4 L.length ++ leB 4 c ++ L ++ List.replicate (56 * n - (L.length + 8)) 0) := Lib.hid (by unfold payF; rw [hcl.out, hn])
  have hHl : (leB 4 L.length ++ leB 4 c ++ L).length = L.length + 8 := by rw [List.length_append, List.length_append, leB_len, leB_len]; omega
  obtain ⟨H, hH⟩ : ∃ H, leB 4 L.length ++ leB 4 c ++ L = H := ⟨_, rfl⟩
  rw [hH] at hHl HPAY ⊢
  clear HH HN1 HN2 HS hH xs ys z1 z2
  have HST : Hid (DRel H (56 * n - (L.length + 8)) (.string (bst H))) := Lib.hid ⟨0, Nat.zero_le _, by simp⟩
  go_loop [6] (fun s => DRel H (56 * n - (L.length + 8)) s) (fun s => 56 * n - Lib.strSize s)
  case atStart => exact HST.out
  case round =>
    obtain ⟨m, hm, rfl⟩ := hrel
    clear HST
    obtain ⟨T, hT⟩ : ∃ T, bst (H ++ List.replicate m 0) = T := ⟨_, rfl⟩
    have hts : T.size = L.length + 8 + m := by rw [← hT, bst_size, List.length_append, List.length_replicate, hHl]
    by_cases hmp : m < 56 * n - (L.length + 8)
    · have hmod : ¬ ((T.size : Int) % 56 = 0) := by omega
      have hR := DRel.step (H := H) hmp
      rw [hT] at hR ⊢
      have HR := Lib.hid hR
      have hz : ¬ 9223372036854775807 < T.size + 1 := by omega
      have HTS := Lib.hid hts
      clear hR hT hts
      go_wp2_with fail
      go_round
      case rel => exact HR.out
      case measure =>
        rw [Lib.strSize_string, Lib.strSize_string, ByteArray.size_append]
        have := HTS.out
        show 56 * n - (T.size + 1) < 56 * n - T.size
        omega
    · obtain rfl : m = 56 * n - (L.length + 8) := by omega
      rw [hT]
      rw [← HPAY.out] at hT
      have hps : T.size = n * 56 := by omega
      have hmod : (T.size : Int) % 56 = 0 := by omega
      have hdiv : (T.size : Int) / 56 = (n : Int) := by omega
      have hdiv2 : (T.size : Int).tdiv 56 = (n : Int) := by rw [Int.tdiv_eq_ediv_of_nonneg (by omega)]; exact hdiv
      have hbase := B2.out.size
      have hst : SRelB w w2.heap.size q L (.slice (some ⟨w2.heap.size, 0, none⟩) 0 0) (.int .i64 0) (w2.alloc (.cells #[] 9)) :=
        ⟨0, _, rfl, rfl, Nat.zero_le _, World.ownsRow_made w2 #[] 0 (Nat.le_refl _) (by unfold maxLen; omega) (by simp), B2.out.alloc B2.out.size _, by rw [World.size_alloc]; omega⟩
      have HST2 := Lib.hid hst; clear hst hts
      go_wp2_with fail
      clear hdiv hdiv2 hmod
      go_loopw [7, 9] (fun l i wr => SRelB w w2.heap.size q L l i wr) (fun _ i _ => n - (intOf i).toNat)
      case atStart => exact HST2.out
      case round =>
        obtain ⟨j, l, rfl, rfl, hj, hown, hb, hbz⟩ := hrel
        clear HST2
        rw [hn] at hj
        by_cases hjn : j < n
        · have hob : ∀ x, l.ownBlock = some x → w2.heap.size ≤ x := fun x hx => (hown.lt x hx).1
          have OB := Lib.hid hob; clear hob
          obtain ⟨A, hA⟩ : ∃ A, bst (leB 4 q) = A := ⟨_, rfl⟩
          obtain ⟨Bj, hB⟩ : ∃ Bj, bst (leB 2 j) = Bj := ⟨_, rfl⟩
          obtain ⟨Cn, hC⟩ : ∃ Cn, bst (leB 2 n) = Cn := ⟨_, rfl⟩
          have sA : A.size = 4 := by rw [← hA, bst_size, leB_len]
          have sB : Bj.size = 2 := by rw [← hB, bst_size, leB_len]
          have sC : Cn.size = 2 := by rw [← hC, bst_size, leB_len]
          have cut : (T.extract (56 * j) (56 * j + 56)).size = 56 := by rw [cut_size _ _ _ (by omega) (by omega)]; omega
          have hz : T.extract (56 * j) (56 * j + 56) ++ A ++ Bj ++ Cn = bst (blkF q (nblk L.length) (payF L) j) := by
            rw [← hT, ← hA, ← hB, ← hC, bst_cut, bst_cat, bst_cat, bst_cat, hn, show 56 * j + 56 - 56 * j = 56 by omega]
            unfold blkF trailF
            simp only [List.append_assoc]
          have HZ := Lib.hid hz; clear hz
          have HS2 : Hid (∀ W v' w3, Below wr.heap.size wr W → w3.ownsRow w2.heap.size 9 1 v' (j + 1) (strVs ((framesF q L).take j) ++ strVs [blkF q (nblk L.length) (payF L) j]) → W.grownBy w3 l.ownBlock → SRelB w w2.heap.size q L v' (.int .i64 ((j : Int) + 1)) w3) := Lib.hid fun W v' w3 g0 g1 g2 =>
            SRelB.step (by omega) hb rfl g1 rfl g0 g2 OB.out hbase hbz
          have HO : Hid (∀ W, Below wr.heap.size wr W → W.ownsRow w2.heap.size 9 1 l j (strVs ((framesF q L).take j))) := Lib.hid fun W g0 => own_same hown fun x hx => g0.block x (hown.lt x hx).2
          have s1 := fun W => run_cut T (56 * (j : Int)) (56 * (j : Int) + 56) (56 * j) (56 * j + 56) W (by omega) (by omega) (by omega) (by omega)
          have g1 : IntKind.i64.wrap (56 * (j : Int)) = 56 * (j : Int) := IntWalk.i64_in _ (by omega)
          have g2 : IntKind.i64.wrap (56 * (j : Int) + 56) = 56 * (j : Int) + 56 := IntWalk.i64_in _ (by omega)
          have ji : (j : Int) < (n : Int) := by omega
          have hj4 : j ≤ 4096 := by omega
          have N1 : ∀ w' : World, Calls Tryd.prog 18 #[.int .i64 (q : Int), .int .i64 4] w' fun e w'' => e = .returned (.string (bst (leB 4 q))) ∧ Below w'.heap.size w' w'' := fun w' => rnum_c q 4 w' (by omega) (by omega)
          rw [hA] at N1
          have N2 : ∀ w' : World, Calls Tryd.prog 18 #[.int .i64 (j : Int), .int .i64 2] w' fun e w'' => e = .returned (.string (bst (leB 2 j))) ∧ Below w'.heap.size w' w'' := fun w' => rnum_c j 2 w' (by omega) (by omega)
          rw [hB] at N2
          have N3 : ∀ w' : World, Calls Tryd.prog 18 #[.int .i64 (n : Int), .int .i64 2] w' fun e w'' => e = .returned (.string (bst (leB 2 n))) ∧ Below w'.heap.size w' w'' := fun w' => rnum_c n 2 w' (by omega) (by omega)
          rw [hC] at N3
          have M1 := Lib.hid N1; have M2 := Lib.hid N2; have M3 := Lib.hid N3
          clear N1 N2 N3 hA hB hC hT hown hb
          go_wp2_with fail
          go_region_law (first
            | (refine step_call rfl (.tmp 54) (.const (.int .i64 4)) rfl (q : Int) 4 (by go_simp) (by go_simp) A (M1.out _) ?_; intro w5 b5)
            | (refine step_call rfl (.tmp 57) (.const (.int .i64 2)) rfl (j : Int) 2 (by go_simp) (by go_simp) Bj (M2.out _) ?_; intro w6 b6)
            | (refine step_call rfl (.tmp 60) (.const (.int .i64 2)) rfl (n : Int) 2 (by go_simp) (by go_simp) Cn (M3.out _) ?_; intro w7 b7)
            | (refine step_app rfl (.tmp 46) (.tmp 63) rfl w2.heap.size j _ (blkF q (nblk L.length) (payF L) j) l (by go_simp) ⟨w7.heap.size, 0, none⟩ 1 (by go_simp) (by rw [← HZ.out]; first | exact cell_n1 _ _ _ | exact cell_n0 _ _ _) (HO.out _ (by (repeat' (first | (with_reducible exact Below.refl _ _) | (with_reducible refine below_drewN ?_ _) | (with_reducible refine Below.drew ?_) | (with_reducible refine Below.alloc ?_ ?_ _) | (with_reducible refine Below.setCell ?_ ?_ _) | (with_reducible refine Below.trans ?_ (Below.mono (by with_reducible assumption) ?_)) | omega | (simp only [World.size_alloc, World.size_setCell, World.size_drew, Go.Proofs.YtbiofjdlfppfoaaDoor.World.size_drewN] at *; omega) | (with_reducible refine Below.size (B := 0) ?_))))) hj4 (Nat.le_trans hbz (show Below wr.heap.size wr _ by (repeat' (first | (with_reducible exact Below.refl _ _) | (with_reducible refine below_drewN ?_ _) | (with_reducible refine Below.drew ?_) | (with_reducible refine Below.alloc ?_ ?_ _) | (with_reducible refine Below.setCell ?_ ?_ _) | (with_reducible refine Below.trans ?_ (Below.mono (by with_reducible assumption) ?_)) | omega | (simp only [World.size_alloc, World.size_setCell, World.size_drew, Go.Proofs.YtbiofjdlfppfoaaDoor.World.size_drewN] at *; omega) | (with_reducible refine Below.size (B := 0) ?_)))).size) ?_; intro v' w8 g8 g9; have G := Lib.hid (HS2.out _ v' w8 (by (repeat' (first | (with_reducible exact Below.refl _ _) | (with_reducible refine below_drewN ?_ _) | (with_reducible refine Below.drew ?_) | (with_reducible refine Below.alloc ?_ ?_ _) | (with_reducible refine Below.setCell ?_ ?_ _) | (with_reducible refine Below.trans ?_ (Below.mono (by with_reducible assumption) ?_)) | omega | (simp only [World.size_alloc, World.size_setCell, World.size_drew, Go.Proofs.YtbiofjdlfppfoaaDoor.World.size_drewN] at *; omega) | (with_reducible refine Below.size (B := 0) ?_)))) g8 g9); clear g8 g9))
          all_goals go_wp2_with fail
          all_goals go_roundw
          all_goals first
            | (simp [intOf]; omega)
            | (repeat' (first | (with_reducible exact G.out) | (with_reducible refine SRelB.drew ?_) | (with_reducible refine SRelB.drewN ?_ _)))
        · obtain rfl : j = n := by omega
          rw [List.take_of_length_le (by rw [framesF_len, hn]; exact Nat.le_refl _)] at hown
          have HO := Lib.hid hown
          have HB := Lib.hid hb
          clear hown hb
          go_wp2_with fail
          go_ret2
          exact ⟨⟨_, _, rfl, HO.out⟩, HB.out⟩
end Go.Proofs.YtbiofjdlfppfoaaDoor
