/- The walk of the law FrameBack: whatever the arguments, it returns true. Condition: the sentinels lie as the program's text lays them. -/
import Derived.Test.YtbiofjdlfppfoaaDoorFrOw
import Derived.Test.YtbiofjdlfppfoaaDoorFrSz
namespace Go.Proofs.YtbiofjdlfppfoaaDoor
open Go Go.RowKit

/-- Do the first j of two rows' blocks agree, and are the rows of one length? -/
def eqUp (X Y : List (List UInt8)) (j : Nat) : Bool := decide (X.length = Y.length) && decide (X.take j = Y.take j)
theorem eqUp_succ {X Y : List (List UInt8)} {j : Nat} {x y : List UInt8} (h : eqUp X Y j = true) (hx : X[j]? = some x) (hy : Y[j]? = some y) : eqUp X Y (j + 1) = decide (x = y) := by
  unfold eqUp at h ⊢
  simp only [Bool.and_eq_true, decide_eq_true_eq] at h
  rw [decide_eq_true h.1, Bool.true_and, Bool.eq_iff_iff, decide_eq_true_eq, decide_eq_true_eq, List.take_add_one, List.take_add_one, hx, hy, h.2]
  constructor
  · intro e
    have := List.append_cancel_left e
    simpa using this
  · rintro rfl; rfl
theorem eqUp_all {X Y : List (List UInt8)} (h : eqUp X Y X.length = true) : X = Y := by
  unfold eqUp at h
  simp only [Bool.and_eq_true, decide_eq_true_eq] at h
  rw [List.take_of_length_le (Nat.le_refl _), List.take_of_length_le (by omega)] at h
  exact h.2
theorem eqUp_no {X Y : List (List UInt8)} {j : Nat} (h : eqUp X Y j = false) : X ≠ Y := by
  rintro rfl
  unfold eqUp at h
  simp at h
/-- What a round of the loop begins with. -/
def KRel (w : World) (gx gy : Nat) (X Y : List (List UInt8)) (sm i : Value) (wr : World) : Prop :=
  ∃ j : Nat, i = .int .i64 j ∧ j ≤ X.length ∧ sm = .bool (eqUp X Y j) ∧ RowV wr gx (strVs X) ∧ RowV wr gy (strVs Y) ∧ Below w.heap.size w wr
theorem KRel.start {w wr : World} {gx gy : Nat} {X Y : List (List UInt8)} (hx : RowV wr gx (strVs X)) (hy : RowV wr gy (strVs Y)) (hb : Below w.heap.size w wr) : KRel w gx gy X Y (.bool ((X.length : Int) == (Y.length : Int))) (.int .i64 0) wr :=
  ⟨0, rfl, Nat.zero_le _, by unfold eqUp; simp; rw [Bool.eq_iff_iff]; simp; omega, hx, hy, hb⟩
theorem KRel.drew {w wr : World} {gx gy : Nat} {X Y : List (List UInt8)} {sm i : Value} (h : KRel w gx gy X Y sm i wr) : KRel w gx gy X Y sm i wr.drew := by
  obtain ⟨j, h1, h2, h3, h4, h5, h6⟩ := h
  exact ⟨j, h1, h2, h3, h4, h5, h6.drew⟩
theorem KRel.drewN {w wr : World} {gx gy : Nat} {X Y : List (List UInt8)} {sm i : Value} (h : KRel w gx gy X Y sm i wr) (n : Nat) : KRel w gx gy X Y sm i (wr.drewN n) := by
  obtain ⟨j, h1, h2, h3, h4, h5, h6⟩ := h
  exact ⟨j, h1, h2, h3, h4, h5, below_drewN h6 n⟩
/-- The last comparison. -/
theorem last_is {X Y : List (List UInt8)} {a b : ByteArray} {i k : Nat} (hX : X = framesF i a.data.toList) (hY : Y = framesF k b.data.toList) (hi : 1 ≤ i ∧ i ≤ 2147483647) (hk : 1 ≤ k ∧ k ≤ 2147483647) (ha : a.size ≤ 6000) (hb : b.size ≤ 6000) : X = Y ↔ a = b ∧ i = k := by
  rw [hX, hY]
  constructor
  · intro e
    obtain ⟨h1, h2⟩ := frames_inj hi hk (by rw [size_len]; exact ha) (by rw [size_len]; exact hb) e
    exact ⟨bst_ext h1, h2⟩
  · rintro ⟨rfl, rfl⟩; rfl
theorem str_beq (a b : ByteArray) : (a.toList == b.toList) = decide (a = b) := by
  rw [Bool.eq_iff_iff, beq_iff_eq, decide_eq_true_eq, toList_is, toList_is]
  exact ⟨bst_ext, fun h => by rw [h]⟩

theorem mod_one (m : Int) : ∃ i : Nat, 1 ≤ i ∧ i ≤ 1000 ∧ wrap64 (1 + wrap64 ((IntKind.u64.wrap m).tmod 1000)) = (i : Int) := by
  obtain ⟨j, hj, e⟩ := mod_pos m 1000 (by omega) (by omega)
  have e' : wrap64 ((IntKind.u64.wrap m).tmod 1000) = (j : Int) := e
  exact ⟨j + 1, by omega, by omega, by rw [e']; unfold wrap64; omega⟩
theorem Tryd.infoS4 : ∃ i, Tryd.prog.info? 9 = some i ∧ i.zero = some (.string ⟨#[]⟩) ∧ i.size = 1 ∧ i.bytes = 16 := by
  obtain ⟨i, hi, h⟩ := Option.map_eq_some_iff.1 Tryd.infoS
  simp only [Prod.mk.injEq] at h
  exact ⟨i, hi, h.1, h.2.1, h.2.2⟩

set_option maxHeartbeats 6400000 in
set_option maxRecDepth 100000 in
theorem back_any (s : Nat → Addr) (a b : ByteArray) (m n : Int) (w : World) (hs : Sent s w) (ha : a.size ≤ 9223372036854775807) (hb : b.size ≤ 9223372036854775807) :
    Calls Tryd.prog 4 #[.string a, .string b, .int .i64 m, .int .i64 n] w fun e w' => e = .returned (.bool true) ∧ Below w.heap.size w w' := by
  by_cases hbig : 400 < a.size ∨ 400 < b.size
  · by_cases h1 : 400 < a.size
    · have h1i : (400 : Int) < (a.size : Int) := by omega
      go_enter Tryd.func4, Tryd.ntmps4
      go_wp2_with fail
      refine (awake_c s _ hs).mono ?_
      rintro e w1 ⟨rfl, b1⟩
      go_wp2_with fail
      go_ret
      exact ⟨rfl, b1⟩
    · have h1i : ¬ (400 : Int) < (a.size : Int) := by omega
      have h2i : (400 : Int) < (b.size : Int) := by omega
      go_enter Tryd.func4, Tryd.ntmps4
      go_wp2_with fail
      refine (awake_c s _ hs).mono ?_
      rintro e w1 ⟨rfl, b1⟩
      go_wp2_with fail
      go_ret
      exact ⟨rfl, b1⟩
  · have h1i : ¬ (400 : Int) < (a.size : Int) := by omega
    have h2i : ¬ (400 : Int) < (b.size : Int) := by omega
    obtain ⟨i, hi1, hi2, ei⟩ := mod_one m
    obtain ⟨k, hk1, hk2, ek⟩ := mod_one n
    obtain ⟨X, hX⟩ : ∃ X, framesF i a.data.toList = X := ⟨_, rfl⟩
    obtain ⟨Y, hY⟩ : ∃ Y, framesF k b.data.toList = Y := ⟨_, rfl⟩
    have lX : X.length = nblk a.size := by rw [← hX, framesF_len, size_len]
    have lY : Y.length = nblk b.size := by rw [← hY, framesF_len, size_len]
    have hbx := fun W => blocks_ok i a W (by omega) (by omega) (by omega)
    have hby := fun W => blocks_ok k b W (by omega) (by omega) (by omega)
    have hsx := fun W => sizeS_c a W (by omega)
    have hsy := fun W => sizeS_c b W (by omega)
    rw [hX, ← lX] at hbx
    rw [hY, ← lY] at hby
    rw [← lX] at hsx
    rw [← lY] at hsy
    have BX := Lib.hid hbx; have BY := Lib.hid hby; have SX := Lib.hid hsx; have SY := Lib.hid hsy
    clear hbx hby hsx hsy
    have nx : 1 ≤ X.length ∧ X.length ≤ 108 := by rw [lX]; unfold nblk; omega
    have ny : 1 ≤ Y.length ∧ Y.length ≤ 108 := by rw [lY]; unfold nblk; omega
    have hread := read_frames i a.data.toList Y (by omega) (by omega) (by rw [size_len]; omega)
    rw [hX, size_len, ← lX] at hread
    have HRD := Lib.hid hread
    have HX := Lib.hid hX.symm; have HY := Lib.hid hY.symm; have LX := Lib.hid lX
    clear hread hX hY lX lY
    have HEI := Lib.hid ei; have HEK := Lib.hid ek
    clear ei ek
    go_enter Tryd.func4, Tryd.ntmps4
    go_wp2_with fail
    refine (awake_c s _ hs).mono ?_
    rintro e w1 ⟨rfl, b1⟩
    go_wp2_with fail
    rw [HEI.out, HEK.out]
    refine (BX.out _).mono ?_
    rintro e w2 ⟨⟨gx, rfl, rx, hgx⟩, b2⟩
    go_wp2_with fail
    refine (BY.out _).mono ?_
    rintro e w3 ⟨⟨gy, rfl, ry, hgy⟩, b3⟩
    have lx2 := rx.lt
    have rx3 := rx.below b3 lx2
    have B3 : Hid (Below w.heap.size w w3) := Lib.hid (b1.trans ((b2.trans (b3.mono b2.size)).mono b1.size))
    have lx3 := rx3.lt
    have ly3 := ry.lt
    have hxy : gx ≠ gy := by omega
    have Z := Lib.hid b1.size
    clear rx b1 b2 b3
    have RX3 := Lib.hid rx3; have RY3 := Lib.hid ry
    clear rx3 ry
    obtain ⟨ti, hi, hz0, hz1, hz2⟩ := Tryd.infoS4
    have hmade : (w3.alloc (.cells #[] 9)).ownsRow w3.heap.size 9 1 (.slice (some ⟨w3.heap.size, 0, none⟩) 0 0) 0 [] := World.ownsRow_made w3 #[] 0 (Nat.le_refl _) (by unfold maxLen; omega) rfl
    have HM := Lib.hid hmade; clear hmade
    go_wp2_with (first | (go_at_call 11; (first | (with_reducible refine (SX.out _).mono ?_) | (with_reducible refine (SY.out _).mono ?_)); rintro e w5 ⟨rfl, rfl⟩) | (at_builtin; refine wpList_append_own_at _ rfl _ _ 22 rfl w3.heap.size 9 ti _ 1 16 Tryd.underlying22 hi hz0 hz1 hz2 rfl (by decide) _ 0 [] rfl HM.out ⟨gx, 0, none⟩ X.length X.length (strVs X) rfl ?c0 ?c1 ?c2 ?c3 ?c4 ?c5 ?_))
    case c0 => rw [strVs_len, Nat.mul_one]
    case c1 => exact (RX3.out.alloc _).news
    case c2 => exact strVs_one X
    case c3 => unfold maxLen; omega
    case c4 => omega
    case c5 => rw [World.size_alloc]; omega
    intro v1 w4 o1 g1 _ _
    have B4 : Hid (Below w.heap.size w w4) := Lib.hid ((B3.out.alloc B3.out.size _).grown g1 (by rw [World.size_alloc]; have := B3.out.size; omega) (fun q hq => by simp [Value.ownBlock] at hq; have := B3.out.size; omega))
    have RX4 := Lib.hid ((RX3.out.alloc (.cells #[] 9)).grown g1 (by simp [Value.ownBlock]; omega))
    have RY4 := Lib.hid ((RY3.out.alloc (.cells #[] 9)).grown g1 (by simp [Value.ownBlock]; omega))
    have z4 : w3.heap.size ≤ w4.heap.size := by have := g1.size; rw [World.size_alloc] at this; omega
    have ob1 : ∀ q, v1.ownBlock = some q → w3.heap.size ≤ q := fun q hq => (o1.lt q hq).1
    have OB1 := Lib.hid ob1; clear ob1
    clear g1
    go_wp2_with (first | (at_builtin; refine wpList_append_own_at _ rfl _ _ 22 rfl w3.heap.size 9 ti _ 1 16 Tryd.underlying22 hi hz0 hz1 hz2 rfl (by decide) _ _ _ rfl o1 ⟨gy, 0, none⟩ Y.length Y.length (strVs Y) rfl ?c0 ?c1 ?c2 ?c3 ?c4 ?c5 ?_))
    case c0 => rw [strVs_len, Nat.mul_one]
    case c1 => exact RY4.out.news
    case c2 => exact strVs_one Y
    case c3 => unfold maxLen; omega
    case c4 => omega
    case c5 => exact z4
    intro v2 w5 o2 g2 _ _
    have hgx5 : v1.ownBlock ≠ some gx := fun e => by have := OB1.out gx e; omega
    have hgy5 : v1.ownBlock ≠ some gy := fun e => by have := OB1.out gy e; omega
    have B5 : Hid (Below w.heap.size w w5) := Lib.hid (B4.out.grown g2 B4.out.size (fun q hq => Nat.le_trans B3.out.size (OB1.out q hq)))
    have RX5 := Lib.hid (RX4.out.grown g2 hgx5)
    have RY5 := Lib.hid (RY4.out.grown g2 hgy5)
    rw [strVs_app] at o2
    obtain ⟨g, cap, hv2, hcap, hsr, hlen⟩ := own_srow o2 (by omega)
    subst hv2
    have hrd := read_c s w5.heap.size cap (some ⟨g, 0, none⟩) ((X ++ Y).map bst) w5 (hs.below B5.out (Nat.le_refl _)) (by rw [List.length_map, List.length_append]; omega) (by rw [List.length_map]; exact hcap) hsr (Nat.le_refl _)
    rw [rows_bst, HRD.out, List.length_map, List.length_append] at hrd
    have HR := Lib.hid hrd
    clear hrd hsr o2 g2 hlen hcap o1 HM
    go_wp2_with fail
    refine (HR.out).mono ?_
    rintro e w6 ⟨h6, b6⟩
    obtain rfl := h6
    have B6 : Hid (Below w.heap.size w w6) := Lib.hid (B5.out.trans (b6.mono B5.out.size))
    have RX6 := Lib.hid (RX5.out.below b6 RX5.out.lt)
    have RY6 := Lib.hid (RY5.out.below b6 RY5.out.lt)
    clear b6
    rw [← bst_of a]
    have HST := Lib.hid (KRel.start RX6.out RY6.out B6.out)
    have HL := Lib.hid (last_is HX.out HY.out (by omega) (by omega) (by omega) (by omega))
    clear hgx5 hgy5 lx2 lx3 ly3 hgx hgy z4
    go_wp2_with fail
    go_loopw [19, 20] (fun sm i wr => KRel w gx gy X Y sm i wr) (fun _ i _ => X.length - (intOf i).toNat)
    case atStart => exact HST.out
    case round =>
      obtain ⟨j, rfl, hj, rfl, hx, hy, hb⟩ := hrel
      clear HST
      by_cases hgo : j < X.length ∧ eqUp X Y j = true
      · obtain ⟨hjl, heq⟩ := hgo
        have hlen : X.length = Y.length := by unfold eqUp at heq; simp at heq; exact heq.1
        obtain ⟨x, hxj⟩ : ∃ x, X[j]? = some x := ⟨_, List.getElem?_eq_getElem hjl⟩
        obtain ⟨y, hyj⟩ : ∃ y, Y[j]? = some y := ⟨_, List.getElem?_eq_getElem (by omega)⟩
        obtain ⟨S, hS⟩ : ∃ S, bst x = S := ⟨_, rfl⟩
        obtain ⟨T, hT⟩ : ∃ T, bst y = T := ⟨_, rfl⟩
        have cx := hx.cell (j := j) (v := .string S) (by rw [strVs_get, hxj, ← hS]; rfl)
        have cy := hy.cell (j := j) (v := .string T) (by rw [strVs_get, hyj, ← hT]; rfl)
        have hcm : (S.toList == T.toList) = eqUp X Y (j + 1) := by
          rw [str_beq, eqUp_succ heq hxj hyj, ← hS, ← hT, Bool.eq_iff_iff, decide_eq_true_eq, decide_eq_true_eq]
          exact ⟨bst_inj, fun h => by rw [h]⟩
        have HN : Hid (KRel w gx gy X Y (.bool (eqUp X Y (j + 1))) (.int .i64 ((j : Int) + 1)) wr) := Lib.hid ⟨j + 1, ret_v (by omega), hjl, rfl, hx, hy, hb⟩
        have ji : (j : Int) < (X.length : Int) := by omega
        have jy : (j : Int) < (Y.length : Int) := by omega
        have j0 : (0 : Int) ≤ (j : Int) := by omega
        have jyn : j < Y.length := by omega
        have lxr := hx.lt
        have lyr := hy.lt
        clear hx hy hb hS hT hxj hyj hlen
        go_wp2_with fail
        go_region
        all_goals go_wp2_with fail
        all_goals go_roundw
        all_goals first
          | (simp [intOf]; omega)
          | (repeat' (first | (with_reducible exact HN.out) | (with_reducible refine KRel.drew ?_) | (with_reducible refine KRel.drewN ?_ _)))
      · have HB := Lib.hid hb
        cases heq : eqUp X Y j with
        | true =>
          have hjl : ¬ j < X.length := fun h => hgo ⟨h, heq⟩
          obtain rfl : j = X.length := by omega
          obtain ⟨hab, hik⟩ := (HL.out).1 (eqUp_all heq)
          have f1 : (a.toList == b.toList) = true := by rw [str_beq, hab]; simp
          have f2 : ((i : Int) == (k : Int)) = true := by rw [hik]; simp
          clear hx hy hb hgo heq hab hik hjl
          go_wp2_with fail
          go_ret
          exact ⟨rfl, HB.out⟩
        | false =>
          have hne := fun h => eqUp_no heq ((HL.out).2 h)
          clear hgo heq
          by_cases hab : a = b
          · have f1 : (a.toList == b.toList) = true := by rw [str_beq, hab]; simp
            have f2 : ((i : Int) == (k : Int)) = false := by rw [beq_eq_false_iff_ne]; intro h; exact hne ⟨hab, by omega⟩
            clear hx hy hb hne hab
            go_wp2_with fail
            all_goals go_ret
            all_goals exact ⟨rfl, HB.out⟩
          · have f1 : (a.toList == b.toList) = false := by rw [str_beq, decide_eq_false hab]
            clear hx hy hb hne hab
            go_wp2_with fail
            all_goals go_ret
            all_goals exact ⟨rfl, HB.out⟩
end Go.Proofs.YtbiofjdlfppfoaaDoor
