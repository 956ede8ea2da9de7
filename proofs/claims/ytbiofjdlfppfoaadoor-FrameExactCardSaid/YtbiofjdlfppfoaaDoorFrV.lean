/- The contract of the reference's Read: it returns what the plain arithmetic says. Condition: the row is no longer than memory allows. -/
import Derived.Test.YtbiofjdlfppfoaaDoorFrU
namespace Go.Proofs.YtbiofjdlfppfoaaDoor
open Go Go.RowKit

theorem readF_at {l : List (List UInt8)} {b : List UInt8} {q n m : Nat} (h0 : l[0]? = some b) (h64 : b.length = 64) (hq : seqOf b = q) (hn : cntOf b = n) (hok : ¬ (q < 1 ∨ 2147483647 < q ∨ idxOf b ≠ 0 ∨ n < 1 ∨ 108 < n))
    (hg : ∀ k, k < m → goodAt l q n k = true) (hb : goodAt l q n m = false) (hm : m < n) : readF l = .error m := by
  rw [← readP_eq]; exact readP_at h0 h64 hq hn hok hg hb hm
theorem readF_all {l : List (List UInt8)} {b : List UInt8} {q n : Nat} (h0 : l[0]? = some b) (h64 : b.length = 64) (hq : seqOf b = q) (hn : cntOf b = n) (hok : ¬ (q < 1 ∨ 2147483647 < q ∨ idxOf b ≠ 0 ∨ n < 1 ∨ 108 < n))
    (hg : ∀ k, k < n → goodAt l q n k = true) : readF l = if 6000 < valB ((joinF l n).take 4) ∨ (joinF l n).length < valB ((joinF l n).take 4) + 8 then .error 0
      else if framesF q (((joinF l n).drop 8).take (valB ((joinF l n).take 4))) = l.take n then .ok (((joinF l n).drop 8).take (valB ((joinF l n).take 4)), q, n) else .error 0 := by
  have e : badFrom l q n n 0 = n := by rw [bad_all n 0 (fun j _ hj => hg j (by omega))]; omega
  unfold readF
  rw [h0]
  simp only [h64, hq, hn, e]
  rw [if_neg (by omega), if_neg hok, if_neg (by omega)]

theorem join_len {l : List (List UInt8)} {q n m : Nat} (hg : ∀ k, k < m → goodAt l q n k = true) : ∀ j, j ≤ m → (joinF l j).length = 56 * j
  | 0, _ => rfl
  | j + 1, hj => by
    obtain ⟨b, hb, h64, _⟩ := goodAt_iff.1 (hg j (by omega))
    rw [join_succ hb, List.length_append, join_len hg j (by omega), List.length_take, h64]
    omega
/-- What a round of the reference's second loop begins with. -/
def VRel (w : World) (g : Nat) (n : Nat) (l : List ByteArray) (B : Nat) (A : Option Addr) (F : List (List UInt8)) (i : Value) (wr : World) : Prop :=
  ∃ j : Nat, i = .int .i64 j ∧ j ≤ n ∧ (∀ t, t < j → F[t]? = (rows l)[t]?) ∧ SRow wr wr.heap.size (some ⟨g, 0, none⟩) (F.map bst) ∧ SRow wr B A l ∧ Below w.heap.size w wr
theorem VRel.drew {w wr : World} {g n B : Nat} {l : List ByteArray} {A : Option Addr} {F : List (List UInt8)} {i : Value} (h : VRel w g n l B A F i wr) : VRel w g n l B A F i wr.drew := by
  obtain ⟨j, h1, h2, h3, h4, h5, h6⟩ := h
  exact ⟨j, h1, h2, h3, h4, h5, h6.drew⟩
theorem VRel.drewN {w wr : World} {g n B : Nat} {l : List ByteArray} {A : Option Addr} {F : List (List UInt8)} {i : Value} (h : VRel w g n l B A F i wr) (m : Nat) : VRel w g n l B A F i (wr.drewN m) := by
  obtain ⟨j, h1, h2, h3, h4, h5, h6⟩ := h
  exact ⟨j, h1, h2, h3, h4, h5, below_drewN h6 m⟩
theorem take_ne {F G : List (List UInt8)} {n t : Nat} (ht : t < n) (h : F[t]? ≠ G[t]?) : F ≠ G.take n := fun e => h (by rw [e, List.getElem?_take_of_lt ht])
theorem take_eq {F G : List (List UInt8)} {n : Nat} (hl : F.length = n) (hn : n ≤ G.length) (h : ∀ t, t < n → F[t]? = G[t]?) : F = G.take n := by
  apply List.ext_getElem?
  intro i
  by_cases hi : i < n
  · rw [h i hi, List.getElem?_take_of_lt hi]
  · rw [List.getElem?_eq_none (by omega), List.getElem?_eq_none (by simp; omega)]
/-- What a round of the reference's first loop begins with. -/
def URel (w : World) (q n : Nat) (l : List ByteArray) (s i : Value) (wr : World) : Prop :=
  ∃ j : Nat, i = .int .i64 j ∧ j ≤ n ∧ s = .string (bst (joinF (rows l) j)) ∧ (∀ k, k < j → goodAt (rows l) q n k = true) ∧ Below w.heap.size w wr
theorem URel.drew {w wr : World} {q n : Nat} {l : List ByteArray} {s i : Value} (h : URel w q n l s i wr) : URel w q n l s i wr.drew := by
  obtain ⟨j, h1, h2, h3, h4, h5⟩ := h
  exact ⟨j, h1, h2, h3, h4, h5.drew⟩
theorem URel.drewN {w wr : World} {q n : Nat} {l : List ByteArray} {s i : Value} (h : URel w q n l s i wr) (m : Nat) : URel w q n l s i (wr.drewN m) := by
  obtain ⟨j, h1, h2, h3, h4, h5⟩ := h
  exact ⟨j, h1, h2, h3, h4, below_drewN h5 m⟩

set_option maxHeartbeats 6400000 in
set_option maxRecDepth 100000 in
theorem rread_loop (B c : Nat) (A : Option Addr) (l : List ByteArray) (z : ByteArray) (q n : Nat) (w : World) (hl : l.length ≤ 9223372036854775807) (h : SRow w B A l) (hB : B ≤ w.heap.size) (hi : l[0]? = some z) (hz : z.size = 64)
    (hq : seqOf z.data.toList = q) (hj : idxOf z.data.toList = 0) (hn : cntOf z.data.toList = n) (hok : ¬ (q < 1 ∨ 2147483647 < q ∨ (0 : Nat) ≠ 0 ∨ n < 1 ∨ 108 < n)) :
    Calls Tryd.prog 14 #[.slice A l.length c] w fun e w' => RReadV e (readF (rows l)) ∧ Below w.heap.size w w' := by
  have h64 : z.data.toList.length = 64 := by rw [size_len]; exact hz
  have hrow : (rows l)[0]? = some z.data.toList := by rw [rows_get, hi]; rfl
  have hok' : ¬ (q < 1 ∨ 2147483647 < q ∨ idxOf z.data.toList ≠ 0 ∨ n < 1 ∨ 108 < n) := by rw [hj]; exact hok
  have RA : Hid (∀ m, (∀ k, k < m → goodAt (rows l) q n k = true) → goodAt (rows l) q n m = false → m < n → readF (rows l) = .error m) := Lib.hid fun m a b d => readF_at hrow h64 hq hn hok' a b d
  have RB := Lib.hid (fun a => readF_all hrow h64 hq hn hok' a)
  have hlen := (List.getElem?_eq_some_iff.1 hi).1
  have hsr := h
  obtain ⟨a, rfl, ha, hc⟩ := h.cell hi
  have V1 : Hid (∀ W, _) := Lib.hid fun W => rval_at z 56 60 W q (by omega) (by omega) (by omega) hq
  have V2 : Hid (∀ W, _) := Lib.hid fun W => rval_at z 62 64 W n (by omega) (by omega) (by omega) hn
  have V3 : Hid (∀ W, _) := Lib.hid fun W => rval_at z 60 62 W 0 (by omega) (by omega) (by omega) hj
  have hzi : (z.size : Int) = 64 := by omega
  have hli : ((l.length : Int) == 0) = false := by rw [beq_eq_false_iff_ne]; omega
  have hl0 : (0 : Int) < (l.length : Int) := by omega
  rw [show a.add 0 = a from rfl] at hc
  have HSR := Lib.hid hsr
  have HL := Lib.hid hl
  clear hi h hq hj hn h64 hrow hok' hsr
  go_enter Tryd.func14, Tryd.ntmps14
  go_wp2_with (go_at_call 28; (first | (with_reducible refine (V1.out _).mono ?_) | (with_reducible refine (V2.out _).mono ?_) | (with_reducible refine (V3.out _).mono ?_)); rintro e w5 ⟨rfl, rfl⟩)
  have HST : Hid (URel w q n l (.string ⟨#[]⟩) (.int .i64 0) w) := Lib.hid ⟨0, rfl, Nat.zero_le _, rfl, fun k hk => absurd hk (by omega), Below.refl _ _⟩
  go_loopw [8, 9] (fun s i wr => URel w q n l s i wr) (fun _ i _ => n - (intOf i).toNat)
  case atStart => exact HST.out
  case round =>
    obtain ⟨j, rfl, hj, rfl, hg, hb⟩ := hrel
    clear HST V1 V2 V3
    by_cases hjn : j < n
    · have ji : (j : Int) < (n : Int) := by omega
      have j0 : (0 : Int) ≤ (j : Int) := by omega
      have hsr := HSR.out.below hb hB
      by_cases hjl : l.length ≤ j
      · have HR := Lib.hid (RA.out j hg (good_no fun b hb' => by rw [rows_get, List.getElem?_eq_none hjl] at hb'; cases hb') hjn)
        have d1 : decide ((l.length : Int) ≤ (j : Int)) = true := decide_eq_true (by omega)
        have HB := Lib.hid hb
        have hji : (l.length : Int) ≤ (j : Int) := by omega
        clear hg hb hsr
        go_wp2_with fail
        go_region
        all_goals go_wp2_with fail
        all_goals refine bodyPost_ret (v := .tuple #[.string ⟨#[]⟩, .int .i64 0, .int .i64 0, .int .i64 (j : Int)]) (by simp [results, Tryd.results14, go_sem]) rfl ⟨?_, by first | exact HB.out.drew | exact below_drewN HB.out _ | exact HB.out⟩
        all_goals rw [HR.out]
        all_goals exact rfl
      · obtain ⟨y, hy⟩ : ∃ y, l[j]? = some y := ⟨_, List.getElem?_eq_getElem (by omega)⟩
        obtain ⟨ad, e1, hal, hcy⟩ := hsr.cell hy
        cases e1
        have hbk : (a.add j).block < wr.heap.size := by rw [block_addS]; have := hb.size; omega
        have hjli : ¬ (l.length : Int) ≤ (j : Int) := by omega
        have hjl2 : (j : Int) < (l.length : Int) := by omega
        have hjl3 : j < l.length := by omega
        by_cases hy64 : y.size = 64
        · have hyr : (rows l)[j]? = some y.data.toList := by rw [rows_get, hy]; rfl
          have hyl : y.data.toList.length = 64 := by rw [size_len]; exact hy64
          obtain ⟨A4, hA⟩ : ∃ A4, bst (leB 4 q) = A4 := ⟨_, rfl⟩
          obtain ⟨Bj, hBj⟩ : ∃ Bj, bst (leB 2 j) = Bj := ⟨_, rfl⟩
          obtain ⟨Cn, hC⟩ : ∃ Cn, bst (leB 2 n) = Cn := ⟨_, rfl⟩
          have sA : A4.size = 4 := by rw [← hA, bst_size, leB_len]
          have sB : Bj.size = 2 := by rw [← hBj, bst_size, leB_len]
          have sC : Cn.size = 2 := by rw [← hC, bst_size, leB_len]
          have hcm : ((y.extract 56 64).toList == (A4 ++ Bj ++ Cn).toList) = goodAt (rows l) q n j := by
            rw [str_beq, ← hA, ← hBj, ← hC, bst_cat, bst_cat, Bool.eq_iff_iff, decide_eq_true_eq, goodAt_iff]
            constructor
            · intro e
              refine ⟨_, hyr, hyl, ?_⟩
              have := congrArg (fun s : ByteArray => s.data.toList) e
              simp only [cut_list, bst_list] at this
              rw [List.take_of_length_le (by rw [List.length_drop, hyl]; omega)] at this
              exact this
            · rintro ⟨b, hb', _, h3⟩
              cases hyr.symm.trans hb'
              refine bst_ext ?_
              rw [cut_list, bst_list, List.take_of_length_le (by rw [List.length_drop, hyl]; omega), h3]
              rfl
          have N1 : ∀ w' : World, Calls Tryd.prog 18 #[.int .i64 (q : Int), .int .i64 4] w' fun e w'' => e = .returned (.string (bst (leB 4 q))) ∧ Below w'.heap.size w' w'' := fun w' => rnum_c q 4 w' (by omega) (by omega)
          rw [hA] at N1
          have N2 : ∀ w' : World, Calls Tryd.prog 18 #[.int .i64 (j : Int), .int .i64 2] w' fun e w'' => e = .returned (.string (bst (leB 2 j))) ∧ Below w'.heap.size w' w'' := fun w' => rnum_c j 2 w' (by omega) (by omega)
          rw [hBj] at N2
          have N3 : ∀ w' : World, Calls Tryd.prog 18 #[.int .i64 (n : Int), .int .i64 2] w' fun e w'' => e = .returned (.string (bst (leB 2 n))) ∧ Below w'.heap.size w' w'' := fun w' => rnum_c n 2 w' (by omega) (by omega)
          rw [hC] at N3
          have M1 := Lib.hid N1; have M2 := Lib.hid N2; have M3 := Lib.hid N3
          have HSS : Hid (∀ W, Below wr.heap.size wr W → (W.cell? (a.add j) = some (.string y) ∧ Below wr.heap.size wr W)) := Lib.hid fun W hW => ⟨(hW.cell hbk).trans hcy, hW⟩
          have hyi : (y.size : Int) = 64 := by omega
          have z1 : ¬ 9223372036854775807 < 4 + 2 := by omega
          have z2 : ¬ 9223372036854775807 < 4 + 2 + 2 := by omega
          have HRA : Hid (goodAt (rows l) q n j = false → readF (rows l) = .error j) := Lib.hid fun g => RA.out j hg g hjn
          have HG : Hid (goodAt (rows l) q n j = true → ∀ W, Below wr.heap.size wr W → URel w q n l (.string (bst (joinF (rows l) j) ++ y.extract 0 56)) (.int .i64 ((j : Int) + 1)) W) := Lib.hid fun g W hW =>
            ⟨j + 1, ret_v (by omega), hjn, val_str (by rw [join_succ hyr, ← bst_cat]; congr 1; exact bst_ext (by rw [cut_list]; rfl)), fun k hk => by
              by_cases e : k = j
              · subst e; exact g
              · exact hg k (by omega), hb.trans (hW.mono hb.size)⟩
          have hjs : (bst (joinF (rows l) j)).size = 56 * j := by
            rw [bst_size]; exact join_len hg j (Nat.le_refl _)
          obtain ⟨J, hJ⟩ : ∃ J, bst (joinF (rows l) j) = J := ⟨_, rfl⟩
          rw [hJ] at hjs HG ⊢
          have z3 : ¬ 9223372036854775807 < 56 * j + 56 := by omega
          have y56 : (y.extract 0 56).size = 56 := by rw [cut_size _ _ _ (by omega) (by omega)]
          have HB := Lib.hid hb
          have hsz := hb.size
          clear N1 N2 N3 hA hBj hC hJ hyr hyl hg hb hsr hy
          cases hgood : goodAt (rows l) q n j with
          | false =>
            rw [hgood] at hcm
            have HR := Lib.hid (HRA.out hgood)
            clear hgood HG
            go_wp2_with fail
            go_region_held3 (fun W => W.cell? (a.add j) = some (.string y) ∧ Below wr.heap.size wr W)
              (exact HSS.out _ (by (repeat' (first | (with_reducible exact Below.refl _ _) | (with_reducible refine below_drewN ?_ _) | (with_reducible refine Below.drew ?_) | (with_reducible refine Below.alloc ?_ ?_ _) | (with_reducible refine Below.setCell ?_ ?_ _) | (with_reducible refine Below.trans ?_ (Below.mono (by with_reducible assumption) ?_)) | omega | (simp only [World.size_alloc, World.size_setCell, World.size_drew, Go.Proofs.YtbiofjdlfppfoaaDoor.World.size_drewN] at *; omega) | (with_reducible refine Below.size (B := 0) ?_)))))
              (first | (go_at_call 18; (first | (with_reducible refine (M1.out _).mono ?_) | (with_reducible refine (M2.out _).mono ?_) | (with_reducible refine (M3.out _).mono ?_)); rintro e w5 ⟨rfl, b5⟩))
            all_goals go_wp2_with fail
            all_goals refine bodyPost_ret (v := .tuple #[.string ⟨#[]⟩, .int .i64 0, .int .i64 0, .int .i64 (j : Int)]) (by simp [results, Tryd.results14, go_sem]) rfl ⟨?_, HB.out.trans ((show Below wr.heap.size wr _ by (repeat' (first | (with_reducible exact Below.refl _ _) | (with_reducible refine below_drewN ?_ _) | (with_reducible refine Below.drew ?_) | (with_reducible refine Below.alloc ?_ ?_ _) | (with_reducible refine Below.setCell ?_ ?_ _) | (with_reducible refine Below.trans ?_ (Below.mono (by with_reducible assumption) ?_)) | omega | (simp only [World.size_alloc, World.size_setCell, World.size_drew, Go.Proofs.YtbiofjdlfppfoaaDoor.World.size_drewN] at *; omega) | (with_reducible refine Below.size (B := 0) ?_)))).mono hsz)⟩
            all_goals rw [HR.out]
            all_goals exact rfl
          | true =>
            rw [hgood] at hcm
            have HN := Lib.hid (HG.out hgood)
            clear hgood HRA HG
            go_wp2_with fail
            go_region_held3 (fun W => W.cell? (a.add j) = some (.string y) ∧ Below wr.heap.size wr W)
              (exact HSS.out _ (by (repeat' (first | (with_reducible exact Below.refl _ _) | (with_reducible refine below_drewN ?_ _) | (with_reducible refine Below.drew ?_) | (with_reducible refine Below.alloc ?_ ?_ _) | (with_reducible refine Below.setCell ?_ ?_ _) | (with_reducible refine Below.trans ?_ (Below.mono (by with_reducible assumption) ?_)) | omega | (simp only [World.size_alloc, World.size_setCell, World.size_drew, Go.Proofs.YtbiofjdlfppfoaaDoor.World.size_drewN] at *; omega) | (with_reducible refine Below.size (B := 0) ?_)))))
              (first | (go_at_call 18; (first | (with_reducible refine (M1.out _).mono ?_) | (with_reducible refine (M2.out _).mono ?_) | (with_reducible refine (M3.out _).mono ?_)); rintro e w5 ⟨rfl, b5⟩))
            all_goals go_wp2_with fail
            all_goals go_roundw
            all_goals first
              | (simp [intOf]; omega)
              | exact HN.out _ (by (repeat' (first | (with_reducible exact Below.refl _ _) | (with_reducible refine below_drewN ?_ _) | (with_reducible refine Below.drew ?_) | (with_reducible refine Below.alloc ?_ ?_ _) | (with_reducible refine Below.setCell ?_ ?_ _) | (with_reducible refine Below.trans ?_ (Below.mono (by with_reducible assumption) ?_)) | omega | (simp only [World.size_alloc, World.size_setCell, World.size_drew, Go.Proofs.YtbiofjdlfppfoaaDoor.World.size_drewN] at *; omega) | (with_reducible refine Below.size (B := 0) ?_))))
        · have HR := Lib.hid (RA.out j hg (good_no fun b hb' => by rw [rows_get, hy] at hb'; cases hb'; rw [size_len]; exact hy64) hjn)
          have HB := Lib.hid hb
          have hyi : ((y.size : Int) != 64) = true := by rw [bne_iff_ne]; omega
          clear hg hb hsr hy
          go_wp2_with fail
          go_region
          all_goals go_wp2_with fail
          all_goals refine bodyPost_ret (v := .tuple #[.string ⟨#[]⟩, .int .i64 0, .int .i64 0, .int .i64 (j : Int)]) (by simp [results, Tryd.results14, go_sem]) rfl ⟨?_, by first | exact HB.out.drew | exact below_drewN HB.out _ | exact HB.out⟩
          all_goals rw [HR.out]
          all_goals exact rfl
    · obtain rfl : j = n := by omega
      have hRB := RB.out hg
      have hjl := join_len hg j (Nat.le_refl _)
      have hll : j ≤ l.length := by
        obtain ⟨b, hb', _⟩ := goodAt_iff.1 (hg (j - 1) (by omega))
        have := (List.getElem?_eq_some_iff.1 hb').1; rw [rows_len] at this; omega
      obtain ⟨J, hJ⟩ : ∃ J, joinF (rows l) j = J := ⟨_, rfl⟩
      rw [hJ] at hRB hjl ⊢
      obtain ⟨k, hk⟩ : ∃ k, valB (J.take 4) = k := ⟨_, rfl⟩
      rw [hk] at hRB
      obtain ⟨P, hP⟩ : ∃ P, bst J = P := ⟨_, rfl⟩
      have hPs : P.size = 56 * j := by rw [← hP, bst_size, hjl]
      have hPl : P.data.toList = J := by rw [← hP]; rfl
      rw [hP]
      have VK : Hid (∀ W, _) := Lib.hid fun W => rval_at P 0 4 W k (by omega) (by omega) (by omega) (by rw [hPl]; exact hk)
      have hk4 : k < 4294967296 := by
        have := valB_lt (J.take 4)
        rw [hk, show (J.take 4).length = 4 by rw [List.length_take, hjl]; omega] at this
        exact this
      have hsr := HSR.out.below hb hB
      have HB := Lib.hid hb
      have hsz := hb.size
      have p4 : (4 : Int) ≤ (P.size : Int) := by omega
      have p56 : 8 ≤ P.size := by omega
      rw [hjl] at hRB
      by_cases hbad : 6000 < k ∨ 56 * j < k + 8
      · rw [if_pos hbad] at hRB
        have HRB := Lib.hid hRB
        clear hRB hg hb hsr RA RB hJ hP hPl hjl hk
        go_wp2_with fail
        refine (VK.out _).mono ?_
        rintro e w5 ⟨rfl, rfl⟩
        go_wp2_with fail
        all_goals first
          | (exfalso; omega)
          | (refine bodyPost_ret (v := .tuple #[.string ⟨#[]⟩, .int .i64 0, .int .i64 0, .int .i64 0]) (by simp [results, Tryd.results14, go_sem]) rfl ⟨?_, HB.out⟩; rw [HRB.out]; exact rfl)
          | trace_state
      · rw [if_neg hbad] at hRB
        obtain ⟨D, hD⟩ : ∃ D, P.extract 8 (8 + k) = D := ⟨_, rfl⟩
        have hDs : D.size = k := by rw [← hD, cut_size _ _ _ (by omega) (by omega)]; omega
        have hDl : D.data.toList = (J.drop 8).take k := by rw [← hD, cut_list, hPl, show 8 + k - 8 = k by omega]
        rw [← hDl] at hRB
        have hbk := fun W => rblocks_ok q D W (by omega) (by omega) (by omega)
        obtain ⟨F, hF⟩ : ∃ F, framesF q D.data.toList = F := ⟨_, rfl⟩
        rw [hF] at hRB hbk
        have hFl : F.length = nblk k := by rw [← hF, framesF_len, size_len, hDs]
        rw [hDs] at hbk
        have HBK := Lib.hid hbk
        have HRB := Lib.hid hRB
        have s1 := fun W => run_cut P 8 (8 + (k : Int)) 8 (8 + k) W (by omega) (by omega) (by omega) (by omega)
        rw [hD] at s1
        have k1 : ¬ (6000 : Int) < (k : Int) := by omega
        have hnb : nblk k ≤ 108 := by unfold nblk; omega
        have hnb1 : 1 ≤ nblk k := by unfold nblk; omega
        have HDb := Lib.hid (bst_of D)
        clear hRB hg hb RA RB hJ hP hPl hjl hk hbk hF hD hDs
        go_wp2_with fail
        refine (VK.out _).mono ?_
        rintro e w5 ⟨rfl, rfl⟩
        go_wp2_with fail
        refine (HBK.out _).mono ?_
        rintro e w6 ⟨⟨v, base, rfl, ho⟩, b6⟩
        obtain ⟨g, cap, rfl, hcap, hsF, hnF⟩ := own_srow ho (by omega)
        have HB6 : Hid (Below w.heap.size w w6) := Lib.hid (HB.out.trans (b6.mono hsz))
        have hsl6 := HSR.out.below HB6.out hB
        rw [← hnF]
        clear ho hcap b6 hsr
        by_cases hkn : nblk k = j
        · have hnei : (((nblk k : Nat) : Int) != (j : Int)) = false := by rw [bne_eq_false_iff_eq]; omega
          have hlF : F.length = j := by omega
          have HST2 : Hid (VRel w g j l B (some a) F (.int .i64 0) w6) := Lib.hid ⟨0, rfl, Nat.zero_le _, fun t ht => absurd ht (by omega), hsF, hsl6, HB6.out⟩
          have HTK : Hid (∀ t, t < j → F[t]? ≠ (rows l)[t]? → readF (rows l) = .error 0) := Lib.hid fun t ht hne => by rw [HRB.out, if_neg (take_ne ht hne)]
          have HTE : Hid ((∀ t, t < j → F[t]? = (rows l)[t]?) → readF (rows l) = .ok (D.data.toList, q, j)) := Lib.hid fun he => by rw [HRB.out, if_pos (take_eq hlF (by rw [rows_len]; exact hll) he)]
          clear hsF hsl6 HBK HRB VK hnF
          rw [hkn]
          go_wp2_with fail
          go_loopw [13] (fun i wr => VRel w g j l B (some a) F i wr) (fun i _ => j - (intOf i).toNat)
          case atStart => exact HST2.out
          case round =>
            obtain ⟨t, rfl, ht, he, hsF, hsl, hb⟩ := hrel
            clear HST2
            by_cases htj : t < j
            · obtain ⟨x, hx⟩ : ∃ x, F[t]? = some x := ⟨_, List.getElem?_eq_getElem (by omega)⟩
              obtain ⟨y, hy⟩ : ∃ y, l[t]? = some y := ⟨_, List.getElem?_eq_getElem (by omega)⟩
              obtain ⟨a1, e1, l1, c1⟩ := hsF.cell (i := t) (z := bst x) (by rw [List.getElem?_map, hx]; rfl)
              cases e1
              obtain ⟨a2, e2, l2, c2⟩ := hsl.cell hy
              cases e2
              rw [adr0] at c1
              obtain ⟨S, hS⟩ : ∃ S, bst x = S := ⟨_, rfl⟩
              rw [hS] at c1
              have hyr : (rows l)[t]? = some y.data.toList := by rw [rows_get, hy]; rfl
              have hcm : (S.toList == y.toList) = decide (x = y.data.toList) := by
                rw [str_beq, ← hS, Bool.eq_iff_iff, decide_eq_true_eq, decide_eq_true_eq]
                constructor
                · intro h; rw [← h]; rfl
                · intro h; rw [h, ← bst_of]
              have ti : (t : Int) < (j : Int) := by omega
              have t0 : (0 : Int) ≤ (t : Int) := by omega
              have tl : (t : Int) < (l.length : Int) := by omega
              have tl2 : t < l.length := by omega
              have hz1 := hb.size
              have HBB := Lib.hid hb
              have tlF : (t : Int) < (F.length : Int) := by omega
              by_cases hxy : x = y.data.toList
              · rw [decide_eq_true hxy] at hcm
                have HN : Hid (VRel w g j l B (some a) F (.int .i64 ((t : Int) + 1)) wr) := Lib.hid ⟨t + 1, ret_v (by omega), htj, fun r hr => by
                  by_cases e : r = t
                  · subst e; rw [hx, hyr, hxy]
                  · exact he r (by omega), hsF, hsl, hb⟩
                clear he hsF hsl hb hS hx hy hyr hxy
                go_wp2_with fail
                go_region
                all_goals go_wp2_with fail
                all_goals go_roundw
                all_goals first
                  | (simp [intOf]; omega)
                  | (repeat' (first | (with_reducible exact HN.out) | (with_reducible refine VRel.drew ?_) | (with_reducible refine VRel.drewN ?_ _)))
              · rw [decide_eq_false hxy] at hcm
                have HE := Lib.hid (HTK.out t htj (by rw [hx, hyr]; intro h; exact hxy (Option.some.inj h)))
                clear he hsF hsl hb hS hx hy hyr hxy
                go_wp2_with fail
                go_region
                all_goals go_wp2_with fail
                all_goals refine bodyPost_ret (v := .tuple #[.string ⟨#[]⟩, .int .i64 0, .int .i64 0, .int .i64 0]) (by simp [results, Tryd.results14, go_sem]) rfl ⟨?_, by first | exact HBB.out.drew | exact below_drewN HBB.out _ | exact HBB.out⟩
                all_goals rw [HE.out]
                all_goals exact rfl
            · obtain rfl : t = j := by omega
              have HE := Lib.hid (HTE.out he)
              have HBB := Lib.hid hb
              clear he hsF hsl hb
              go_wp2_with fail
              refine bodyPost_ret (v := .tuple #[.string D, .int .i64 (q : Int), .int .i64 (t : Int), .int .i64 (-1)]) (by simp [results, Tryd.results14, go_sem]) rfl ⟨?_, HBB.out⟩
              rw [HE.out]
              show Ending.returned _ = .returned _
              rw [← HDb.out]
        · have hnei : (((nblk k : Nat) : Int) != (j : Int)) = true := by rw [bne_iff_ne]; omega
          have HE : Hid (readF (rows l) = .error 0) := Lib.hid (by
            rw [HRB.out, if_neg]
            intro e
            have := congrArg List.length e
            rw [List.length_take, rows_len, Nat.min_eq_left hll, hFl] at this
            exact hkn this)
          have HBB := HB6
          have hnei2 : ((F.length : Int) != (j : Int)) = true := by rw [hFl]; exact hnei
          clear hsF hsl6 HBK HRB VK hFl hnF hkn
          go_wp2_with fail
          refine bodyPost_ret (v := .tuple #[.string ⟨#[]⟩, .int .i64 0, .int .i64 0, .int .i64 0]) (by simp [results, Tryd.results14, go_sem]) rfl ⟨?_, HBB.out⟩
          rw [HE.out]
          exact rfl
end Go.Proofs.YtbiofjdlfppfoaaDoor
