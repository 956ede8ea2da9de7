/- The contracts of the document's answer for layer 8: Below, Add, Drop. Condition: it lies in memory and has the tenants of a tree. -/
import Derived.Test.YtaibmdjcppeopaaDoorKnT
namespace Go.Proofs.YtaibmdjcppeopaaDoor
open Go Go.RowKit Go.Maps Go.Sort

set_option maxHeartbeats 1600000 in
set_option maxRecDepth 100000 in
theorem rbelow_c (o : Nat) (T : Kin) (x y : Int) (w : World) (h : GrAt w o (refF T)) (g : Good T) (hf : T.length ≤ 16) :
    Calls Tryd.prog 19 #[.pointer (some ⟨o, 0, none⟩), .int .i64 x, .int .i64 y] w fun e w' => e = .returned (.bool ((way T x).contains y)) ∧ Below w.heap.size w w' := by
  have cp := rpath_c o T x w h g hf
  have hl := way_few T x hf
  obtain ⟨L, hL⟩ : ∃ L, way T x = L := ⟨_, rfl⟩
  rw [hL] at cp hl ⊢
  obtain ⟨B, hB⟩ : ∃ B, L.contains y = B := ⟨_, rfl⟩
  have HB := Lib.hid hB
  rw [hB]
  clear h hL g hf hB
  go_enter Tryd.func19, Tryd.ntmps19
  go_wp2_with fail
  refine cp.mono ?_
  rintro e w1 ⟨v, rfl, ho, b1⟩
  have HR := Lib.hid ho.ri; have HB1 := Lib.hid b1
  obtain ⟨a, c, rfl, _⟩ := ho.ri
  clear ho b1 cp
  go_wp2_with fail
  go_loopw [8] (fun I wr => ∃ j : Nat, I = .int .i64 (j : Int) ∧ j ≤ L.length ∧ (∀ k, k < j → L[k]? ≠ some y) ∧ wr = w1) (fun I _ => L.length - (intOf I).toNat)
  case atStart => exact ⟨0, rfl, by omega, fun k hk => by omega, rfl⟩
  case round =>
    obtain ⟨j, rfl, hj, hno, rfl⟩ := hrel
    have HN := Lib.hid hno
    clear hno
    by_cases h : j < L.length
    · have j0 : (0 : Int) ≤ (j : Int) := by omega
      have j1 : (j : Int) < (L.length : Int) := by omega
      have hx : L[j]? = some L[j] := List.getElem?_eq_getElem h
      obtain ⟨_, _, e1, k1⟩ := HR.out
      cases e1
      obtain ⟨ad, ha, ca⟩ := k1 j _ hx
      subst ha
      obtain ⟨u, hu⟩ : ∃ u, L[j] = u := ⟨_, rfl⟩
      rw [hu] at ca hx
      have HX := Lib.hid hx
      clear k1 hx hu
      by_cases he : u = y
      · subst he
        have hee : (u == u) = true := by simp
        have HC : Hid (L.contains u = true) := Lib.hid (contains_yes' (List.mem_of_getElem? HX.out))
        go_wp2_with fail
        go_ret
        exact ⟨by rw [← HB.out, HC.out]; rfl, HB1.out⟩
      · have hee : (u == y) = false := by rw [beq_eq_false_iff_ne]; exact he
        go_wp2_with fail
        go_roundw
        case rel =>
          refine ⟨j + 1, ret_v (by omega), h, fun k hk => ?_, trivial⟩
          by_cases e : k = j
          · subst e; rw [HX.out]; simp [he]
          · exact HN.out k (by omega)
        case measure => simp [intOf]; omega
    · have j1 : ¬ (j : Int) < (L.length : Int) := by omega
      have HC : Hid (L.contains y = false) := Lib.hid (by
        cases e : L.contains y with
        | false => rfl
        | true =>
          obtain ⟨k, hk⟩ := List.getElem?_of_mem (show y ∈ L by simpa using e)
          exact absurd hk (HN.out k (by have := (List.getElem?_eq_some_iff.1 hk).1; omega)))
      go_wp2_with fail
      go_ret
      exact ⟨by rw [← HB.out, HC.out]; rfl, HB1.out⟩

theorem refF_cons (T : Kin) (i : Nat) (p : Int) : ∀ k, k < 1000 → (if k = i then p else refF T k) = refF (((i : Int), p) :: T) k := fun k _ => by
  unfold refF
  rw [up_cons]
  by_cases e : k = i
  · subst e; rw [if_pos rfl, if_pos rfl]; rfl
  · rw [if_neg e, if_neg (by omega)]
theorem refF_rid (T : Kin) (i : Nat) : ∀ k, k < 1000 → (if k = i then -1 else refF T k) = refF (rid T (i : Int)) k := fun k _ => by
  unfold refF
  rw [up_rid]
  by_cases e : k = i
  · subst e; rw [if_pos rfl, if_pos rfl]; rfl
  · rw [if_neg e, if_neg (by omega)]

set_option maxHeartbeats 1600000 in
set_option maxRecDepth 100000 in
theorem radd_c (o : Nat) (T : Kin) (x p : Int) (w : World) (h : GrAt w o (refF T)) (g : Good T) (hf : T.length ≤ 16) :
    Calls Tryd.prog 13 #[.pointer (some ⟨o, 0, none⟩), .int .i64 x, .int .i64 p] w fun e w' => e = .returned (.int .i64 (addErr T x p : Nat)) ∧ GrAt w' o (refF (added T x p)) ∧ Chg o o w w' := by
  have cx := ris_c o T x w h g
  have cp := ris_c o T p w h g
  have cn := rcount_c o T w h g
  have H := Lib.hid h
  by_cases hr : x < 1 ∨ 999 < x
  · have ha : addErr T x p = 1 := by unfold addErr; rw [if_pos hr]
    have hA : added T x p = T := by unfold added; rw [ha]; rfl
    rw [ha, hA]
    clear cx cp cn h
    rcases hr with hr | hr
    · go_enter Tryd.func13, Tryd.ntmps13
      go_wp2_with fail
      go_ret
      exact ⟨rfl, H.out, Chg.refl _ _ _⟩
    · have c1 : ¬ x < 1 := by omega
      go_enter Tryd.func13, Tryd.ntmps13
      go_wp2_with fail
      go_ret
      exact ⟨rfl, H.out, Chg.refl _ _ _⟩
  · have c1 : ¬ x < 1 := by omega
    have c2 : ¬ 999 < x := by omega
    cases hx : (up T x).isSome with
    | true =>
      have ha : addErr T x p = 6 := by unfold addErr; rw [if_neg hr, if_pos hx]
      have hA : added T x p = T := by unfold added; rw [ha]; rfl
      rw [ha, hA]
      rw [hx] at cx
      clear cp cn h hx
      go_enter Tryd.func13, Tryd.ntmps13
      go_wp2_with (go_at_call 14; refine cx.mono ?_; rintro e w ⟨rfl, rfl⟩)
      go_ret
      exact ⟨rfl, H.out, Chg.refl _ _ _⟩
    | false =>
      rw [hx] at cx
      have tok : True := trivial
      cases hp : (up T p).isSome with
      | false =>
        have ha : addErr T x p = 5 := by unfold addErr; rw [if_neg hr, if_neg (by rw [hx]; simp), if_pos (by simpa using hp)]
        have hA : added T x p = T := by unfold added; rw [ha]; rfl
        rw [ha, hA]
        rw [hp] at cp
        clear h hx hp cn
        go_enter Tryd.func13, Tryd.ntmps13
        go_wp2_with (first
          | (go_at_call 14; have _t := tok; refine cx.mono ?_; rintro e w ⟨rfl, rfl⟩; clear tok)
          | (go_at_call 14; refine cp.mono ?_; rintro e w ⟨rfl, rfl⟩))
        go_ret
        exact ⟨rfl, H.out, Chg.refl _ _ _⟩
      | true =>
        rw [hp] at cp
        by_cases hl : 16 ≤ T.length
        · have ha : addErr T x p = 7 := by unfold addErr; rw [if_neg hr, if_neg (by rw [hx]; simp), if_neg (by simpa [Option.isSome_iff_ne_none] using hp), if_pos hl]
          have hA : added T x p = T := by unfold added; rw [ha]; rfl
          rw [ha, hA]
          obtain ⟨n, hn⟩ : ∃ n, T.length = n := ⟨_, rfl⟩
          rw [hn] at cn hl
          have hl' : (16 : Int) ≤ (n : Int) := by omega
          clear h hx hp hn hf
          go_enter Tryd.func13, Tryd.ntmps13
          go_wp2_with (first
            | (go_at_call 14; have _t := tok; refine cx.mono ?_; rintro e w ⟨rfl, rfl⟩; clear tok)
            | (go_at_call 14; refine cp.mono ?_; rintro e w ⟨rfl, rfl⟩)
            | (go_at_call 26; refine cn.mono ?_; rintro e w ⟨rfl, rfl⟩))
          go_ret
          exact ⟨rfl, H.out, Chg.refl _ _ _⟩
        · have ha : addErr T x p = 0 := by unfold addErr; rw [if_neg hr, if_neg (by rw [hx]; simp), if_neg (by simpa [Option.isSome_iff_ne_none] using hp), if_neg hl]
          have hA : added T x p = (x, p) :: T := by unfold added; rw [if_pos ha]
          rw [ha, hA]
          obtain ⟨i, rfl⟩ : ∃ i : Nat, x = (i : Int) := ⟨x.toNat, by omega⟩
          have i0 : (0 : Int) ≤ (i : Int) := by omega
          have i1 : (i : Int) < 1000 := by omega
          have HE := Lib.hid (refF_cons T i p)
          have HI : Hid (i < 1000) := Lib.hid (by omega)
          obtain ⟨k1, f1⟩ := h.cell HI.out
          obtain ⟨n, hn⟩ : ∃ n, T.length = n := ⟨_, rfl⟩
          rw [hn] at cn hl
          have hl' : ¬ (16 : Int) ≤ (n : Int) := by omega
          clear h hx hp hn hf
          go_enter Tryd.func13, Tryd.ntmps13
          go_wp2_with (first
            | (go_at_call 14; have _t := tok; refine cx.mono ?_; rintro e w ⟨rfl, rfl⟩; clear tok)
            | (go_at_call 14; refine cp.mono ?_; rintro e w ⟨rfl, rfl⟩)
            | (go_at_call 26; refine cn.mono ?_; rintro e w ⟨rfl, rfl⟩))
          go_ret
          exact ⟨rfl, (H.out.set HI.out p).ext HE.out, (Chg.refl _ _ _).setCell (ad := ⟨o, i, none⟩) (.inl rfl) _⟩

set_option maxHeartbeats 1600000 in
set_option maxRecDepth 100000 in
theorem rdrop_c (o : Nat) (T : Kin) (x : Int) (w : World) (h : GrAt w o (refF T)) (g : Good T) (_hf : T.length ≤ 16) :
    Calls Tryd.prog 11 #[.pointer (some ⟨o, 0, none⟩), .int .i64 x] w fun e w' => e = .returned (.int .i64 (dropErr T x : Nat)) ∧ GrAt w' o (refF (dropped T x)) ∧ Chg o o w w' := by
  have cx := ris_c o T x w h g
  have cc := rchildren_c o T x w h g
  have H := Lib.hid h
  cases hx : (up T x).isSome with
  | false =>
    have ha : dropErr T x = 5 := by unfold dropErr; rw [if_pos (by simpa using hx)]
    have hA : dropped T x = T := by unfold dropped; rw [ha]; rfl
    rw [ha, hA]
    rw [hx] at cx
    clear h hx cc
    go_enter Tryd.func11, Tryd.ntmps11
    go_wp2_with (go_at_call 14; refine cx.mono ?_; rintro e w ⟨rfl, rfl⟩)
    go_ret
    exact ⟨rfl, H.out, Chg.refl _ _ _⟩
  | true =>
    rw [hx] at cx
    have hch : childs T x = kids T x := by unfold childs; rw [if_pos hx]
    rw [hch] at cc
    have hn : ¬ (up T x).isNone = true := by simpa [Option.isSome_iff_ne_none] using hx
    by_cases h1x : x = 1
    · have ha : dropErr T x = 13 := by unfold dropErr; rw [if_neg hn, if_pos (.inl h1x)]
      have hA : dropped T x = T := by unfold dropped; rw [ha]; rfl
      rw [ha, hA]
      subst h1x
      clear h hx cc hn hch
      go_enter Tryd.func11, Tryd.ntmps11
      go_wp2_with (go_at_call 14; refine cx.mono ?_; rintro e w ⟨rfl, rfl⟩)
      go_ret
      exact ⟨rfl, H.out, Chg.refl _ _ _⟩
    · have hx1 : (x == 1) = false := by rw [beq_eq_false_iff_ne]; exact h1x
      cases hK : kids T x with
      | cons k0 ks =>
        have ha : dropErr T x = 13 := by unfold dropErr; rw [if_neg hn, if_pos (.inr (by rw [hK]; simp))]
        have hA : dropped T x = T := by unfold dropped; rw [ha]; rfl
        rw [ha, hA]
        rw [hK] at cc
        obtain ⟨L, hL⟩ : ∃ L, k0 :: ks = L := ⟨_, rfl⟩
        have hlen : 0 < L.length := by rw [← hL]; simp
        rw [hL] at cc
        have hg1 : decide ((0 : Int) < (L.length : Int)) = true := decide_eq_true (by omega)
        clear h hx hn hch hL hK
        go_enter Tryd.func11, Tryd.ntmps11
        go_wp2_with (first
          | (go_at_call 14; refine cx.mono ?_; rintro e w ⟨rfl, rfl⟩)
          | (go_at_call 23; refine cc.mono ?_; rintro e w1 ⟨v, rfl, ho, hb⟩; obtain ⟨a, c, rfl⟩ := ho.sl))
        go_ret
        exact ⟨rfl, H.out.on hb, Chg.of_below hb⟩
      | nil =>
        have ha : dropErr T x = 0 := by unfold dropErr; rw [if_neg hn, if_neg (by rintro (e | e); exact h1x e; exact e hK)]
        have hA : dropped T x = rid T x := by unfold dropped; rw [if_pos ha]
        rw [ha, hA]
        rw [hK] at cc
        obtain ⟨p, hp⟩ := Option.isSome_iff_exists.1 hx
        have hbo := g.bounds hp
        obtain ⟨i, rfl⟩ : ∃ i : Nat, x = (i : Int) := ⟨x.toNat, by omega⟩
        have i0 : (0 : Int) ≤ (i : Int) := by omega
        have i1 : (i : Int) < 1000 := by omega
        have HE := Lib.hid (refF_rid T i)
        have HI : Hid (i < 1000) := Lib.hid (by omega)
        clear h hx hn hch hK hp
        go_enter Tryd.func11, Tryd.ntmps11
        go_wp2_with (first
          | (go_at_call 14; refine cx.mono ?_; rintro e w ⟨rfl, rfl⟩)
          | (go_at_call 23; refine cc.mono ?_; rintro e w1 ⟨v, rfl, ho, hb⟩; obtain ⟨a, c, rfl⟩ := ho.sl; obtain ⟨k1, f1⟩ := (H.out.on hb).cell HI.out))
        go_ret
        exact ⟨rfl, ((H.out.on hb).set HI.out (-1)).ext HE.out, (Chg.of_below hb).setCell (ad := ⟨o, i, none⟩) (.inl rfl) _⟩
end Go.Proofs.YtaibmdjcppeopaaDoor
