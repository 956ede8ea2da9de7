/- The contracts of the document's answer for layer 8, method by method. Condition: it lies in memory and has the tenants of a tree. -/
import Derived.Test.YtaibmdjcppeopaaDoorKnR
import Derived.Test.YtaibmdjcppeopaaDoorKnH
namespace Go.Proofs.YtaibmdjcppeopaaDoor
open Go Go.RowKit Go.Maps Go.Sort

theorem refF_some {T : Kin} {i : Nat} {p : Int} (h : up T (i : Int) = some p) : refF T i = p := by unfold refF; rw [h]; rfl
theorem refF_none {T : Kin} {i : Nat} (h : up T (i : Int) = none) : refF T i = -1 := by unfold refF; rw [h]; rfl
theorem Good.refF_ge {T : Kin} (g : Good T) (i : Nat) : (0 ≤ refF T i) ↔ (up T (i : Int)).isSome = true := by
  cases h : up T (i : Int) with
  | none => rw [refF_none h]; simp
  | some p => rw [refF_some h]; have := g.pbounds h; simp; omega
theorem Good.refF_eq {T : Kin} (_g : Good T) (i : Nat) {x : Int} (hx : 0 < x) : refF T i = x ↔ up T (i : Int) = some x := by
  cases h : up T (i : Int) with
  | none => rw [refF_none h]; constructor
            · intro k; omega
            · intro k; cases k
  | some p => rw [refF_some h]; simp
theorem Good.refF_lt {T : Kin} (g : Good T) (i : Nat) : -1 ≤ refF T i ∧ refF T i ≤ 999 := by
  cases h : up T (i : Int) with
  | none => rw [refF_none h]; omega
  | some p => rw [refF_some h]; have := g.pbounds h; omega

set_option maxHeartbeats 800000 in
theorem ris_c (o : Nat) (T : Kin) (x : Int) (w : World) (h : GrAt w o (refF T)) (g : Good T) :
    Calls Tryd.prog 14 #[.pointer (some ⟨o, 0, none⟩), .int .i64 x] w fun e w' => e = .returned (.bool (up T x).isSome) ∧ w' = w := by
  by_cases hx : 1 ≤ x ∧ x ≤ 999
  · obtain ⟨i, rfl⟩ : ∃ i : Nat, x = (i : Int) := ⟨x.toNat, by omega⟩
    obtain ⟨c1, _⟩ := h.cell (i := i) (by omega)
    have hge := g.refF_ge i
    obtain ⟨v, hv⟩ : ∃ v, refF T i = v := ⟨_, rfl⟩
    rw [hv] at c1 hge
    have h0 : (0 : Int) ≤ (i : Int) := by omega
    have h1 : (1 : Int) ≤ (i : Int) := by omega
    have h2 : (i : Int) ≤ 999 := by omega
    have h3 : (i : Int) < 1000 := by omega
    have HB : Hid (decide (0 ≤ v) = (up T (i : Int)).isSome) := Lib.hid (by
      cases e : (up T (i : Int)).isSome with
      | true => rw [e] at hge; exact decide_eq_true (hge.2 rfl)
      | false => rw [e] at hge; exact decide_eq_false (fun k => by have := hge.1 k; cases this))
    rw [← HB.out]
    clear h hge hv hx
    go_enter Tryd.func14, Tryd.ntmps14
    go_wp2_with fail
    all_goals go_ret
    all_goals exact ⟨by simp_all, rfl⟩
  · have hn : up T x = none := g.out (by omega)
    rw [hn]
    by_cases h1 : 1 ≤ x
    · have h2 : ¬ x ≤ 999 := by omega
      clear h hn hx
      go_enter Tryd.func14, Tryd.ntmps14
      go_wp2_with fail
      go_ret
      exact ⟨rfl, rfl⟩
    · clear h hn hx
      go_enter Tryd.func14, Tryd.ntmps14
      go_wp2_with fail
      go_ret
      exact ⟨rfl, rfl⟩

theorem contains_yes' {L : List Int} {x : Int} (h : x ∈ L) : L.contains x = true := by simpa using h
/-- The numbers ahead of i. -/
def ahd (i : Nat) : List Int := (List.range' 1 (i - 1)).map Int.ofNat
theorem ahd_snoc (i : Nat) (h : 1 ≤ i) : ahd (i + 1) = ahd i ++ [(i : Int)] := by
  unfold ahd
  obtain ⟨k, rfl⟩ : ∃ k, i = k + 1 := ⟨i - 1, by omega⟩
  rw [show k + 1 + 1 - 1 = k + 1 by omega, show k + 1 - 1 = k by omega, List.range'_concat, List.map_append, Nat.one_mul, Nat.add_comm 1 k]
  rfl
theorem ahd_all : ahd 1000 = ids := rfl
theorem ahd_filter (f : Int → Bool) (i : Nat) (h : 1 ≤ i) : (ahd (i + 1)).filter f = (ahd i).filter f ++ if f (i : Int) then [(i : Int)] else [] := by
  rw [ahd_snoc i h, List.filter_append]
  congr 1
  rw [List.filter_cons]
  split <;> rfl
theorem ahd_len (f : Int → Bool) (i : Nat) : ((ahd i).filter f).length ≤ i := by
  refine Nat.le_trans (List.length_filter_le _ _) ?_
  unfold ahd
  rw [List.length_map, List.length_range']
  omega

set_option maxHeartbeats 800000 in
theorem rcount_c (o : Nat) (T : Kin) (w : World) (h : GrAt w o (refF T)) (g : Good T) :
    Calls Tryd.prog 26 #[.pointer (some ⟨o, 0, none⟩)] w fun e w' => e = .returned (.int .i64 (T.length : Int)) ∧ w' = w := by
  have HL := Lib.hid g.alls_len
  have HG := Lib.hid h
  clear h
  go_enter Tryd.func26, Tryd.ntmps26
  go_wp2_with fail
  go_loopw [3, 4] (fun N I wr => ∃ i : Nat, N = .int .i64 ((((ahd i).filter fun y => (up T y).isSome).length : Nat) : Int) ∧ I = .int .i64 (i : Int) ∧ 1 ≤ i ∧ i ≤ 1000 ∧ wr = w) (fun _ I _ => 1000 - (intOf I).toNat)
  case atStart => exact ⟨1, rfl, rfl, by omega, by omega, rfl⟩
  case round =>
    obtain ⟨i, rfl, rfl, hi1, hi, rfl⟩ := hrel
    have hf := ahd_len (fun y => (up T y).isSome) i
    by_cases h : i < 1000
    · have i0 : (0 : Int) ≤ (i : Int) := by omega
      have i1 : (i : Int) < 1000 := by omega
      obtain ⟨c1, _⟩ := HG.out.cell h
      have hge := g.refF_ge i
      have HF := Lib.hid (ahd_filter (fun y => (up T y).isSome) i hi1)
      obtain ⟨v, hv⟩ : ∃ v, refF T i = v := ⟨_, rfl⟩
      rw [hv] at c1 hge
      obtain ⟨m, hm⟩ : ∃ m, ((ahd i).filter fun y => (up T y).isSome).length = m := ⟨_, rfl⟩
      have HM := Lib.hid hm
      rw [hm] at hf ⊢
      clear hv hm
      by_cases hp : 0 ≤ v
      · have HP : Hid ((up T (i : Int)).isSome = true) := Lib.hid (hge.1 hp)
        clear hge
        go_wp2_with fail
        go_roundw
        case rel =>
          refine ⟨i + 1, ret_v ?_, ret_v (by omega), by omega, by omega, trivial⟩
          rw [HF.out, if_pos HP.out, List.length_append, HM.out]; rfl
        case measure => simp [intOf]; omega
      · have HP : Hid (¬ (up T (i : Int)).isSome = true) := Lib.hid (fun k => hp (hge.2 k))
        clear hge
        go_wp2_with fail
        go_roundw
        case rel =>
          refine ⟨i + 1, ret_v ?_, ret_v (by omega), by omega, by omega, trivial⟩
          rw [HF.out, if_neg HP.out, List.append_nil, HM.out]
        case measure => simp [intOf]; omega
    · obtain rfl : i = 1000 := by omega
      rw [ahd_all, show (ids.filter fun y => (up T y).isSome).length = T.length from HL.out]
      go_wp2_with fail
      go_ret
      exact ⟨rfl, rfl⟩

theorem lit0_own (w : World) (base : Nat) (hb : base ≤ w.heap.size) : IOwn (w.alloc (.cells #[] 3)) base (.slice (some ⟨w.heap.size, 0, none⟩) 0 0) [] :=
  World.ownsRow_lit w #[] 0 hb (by decide) rfl
theorem lit1_own (w : World) (base : Nat) (x : Int) (hb : base ≤ w.heap.size) : IOwn (w.alloc (.cells #[.int .i64 x] 3)) base (.slice (some ⟨w.heap.size, 0, none⟩) 1 1) [x] :=
  World.ownsRow_lit w #[.int .i64 x] 1 hb (by decide) rfl
theorem Good.childs_pos {T : Kin} (g : Good T) {x : Int} (hx : 0 < x) : kids T x = childs T x := by
  unfold childs
  split
  · rfl
  · rename_i h
    refine nil_of_mem fun y hy => ?_
    have hu := g.kids_mem.1 hy
    rcases (g.way_some hu).2 with ⟨_, rfl⟩ | ⟨_, k⟩
    · omega
    · exact h k
theorem Good.childs_neg {T : Kin} (g : Good T) {x : Int} (hx : ¬ 0 < x) : childs T x = [] := by
  unfold childs
  rw [g.out (by omega)]; rfl

set_option maxHeartbeats 1600000 in
set_option maxRecDepth 100000 in
theorem rchildren_c (o : Nat) (T : Kin) (x : Int) (w : World) (h : GrAt w o (refF T)) (g : Good T) :
    Calls Tryd.prog 23 #[.pointer (some ⟨o, 0, none⟩), .int .i64 x] w fun e w' => ∃ v, e = .returned v ∧ IOwn w' w.heap.size v (childs T x) ∧ Below w.heap.size w w' := by
  obtain ⟨i0, hi, hz0, hz1, hz2⟩ := info_parts Tryd.infoI
  have HG := Lib.hid h
  have hst : IOwn (w.alloc (.cells #[] 3)) w.heap.size (.slice (some ⟨w.heap.size, 0, none⟩) 0 0) [] := lit0_own w w.heap.size (Nat.le_refl _)
  have HST := Lib.hid hst
  clear h hst
  obtain ⟨f, hf⟩ : ∃ f : Int → Bool, f = fun y => decide (up T y = some x) && decide (0 < x) := ⟨_, rfl⟩
  have HE : Hid ((ahd 1000).filter f = childs T x) := Lib.hid (by
    rw [ahd_all, hf]
    by_cases hx : 0 < x
    · rw [← g.childs_pos hx]
      unfold kids
      simp [hx]
    · rw [g.childs_neg hx]
      simp [hx])
  have HF : Hid (∀ i : Nat, (f (i : Int) = true ↔ (refF T i = x ∧ 0 < x))) := Lib.hid fun i => by
    rw [hf]
    by_cases hx : 0 < x
    · rw [g.refF_eq i hx]; simp [hx]
    · simp [hx]
  clear hf
  go_enter Tryd.func23, Tryd.ntmps23
  go_wp2_with fail
  go_loopw [5, 6] (fun V I wr => ∃ (v : Value) (i : Nat), v = V ∧ I = .int .i64 (i : Int) ∧ 1 ≤ i ∧ i ≤ 1000 ∧ IOwn wr w.heap.size v ((ahd i).filter f) ∧ Below w.heap.size w wr) (fun _ I _ => 1000 - (intOf I).toNat)
  case atStart => exact ⟨_, 1, rfl, rfl, by omega, by omega, HST.out, (Below.refl _ _).alloc (Nat.le_refl _) _⟩
  case round =>
    obtain ⟨v, i, rfl, rfl, hi1, hil, hown, hb⟩ := hrel
    clear HST
    by_cases h : i < 1000
    · have j0 : (0 : Int) ≤ (i : Int) := by omega
      have j1 : (i : Int) < 1000 := by omega
      have HB := Lib.hid hb
      have hs := hb.size
      obtain ⟨c1, _⟩ := (HG.out.on hb).cell h
      have HX := HF.out i
      have HN := Lib.hid (ahd_filter f i hi1)
      obtain ⟨u, hu⟩ : ∃ u, refF T i = u := ⟨_, rfl⟩
      rw [hu] at c1 HX
      have hlen := ahd_len f i
      obtain ⟨L, hL⟩ : ∃ L, (ahd i).filter f = L := ⟨_, rfl⟩
      have HL := Lib.hid hL
      rw [hL] at hown hlen
      clear hb hu hL
      by_cases hc : u = x ∧ 0 < x
      · have HP : Hid (f (i : Int) = true) := Lib.hid (HX.2 hc)
        obtain ⟨rfl, hx0⟩ := hc
        have he : (u == u) = true := by simp
        have hlow : ∀ k, v.ownBlock = some k → w.heap.size ≤ k := fun k e => (hown.lt k e).1
        have HBB : Hid (∀ (oo : Obj) (W : World), (wr.alloc oo).grownBy W v.ownBlock → Below w.heap.size w W) := Lib.hid fun oo W hg => (HB.out.alloc hs oo).grown hg (by simp; omega) hlow
        clear HX hlow
        go_wp2_with (first
          | (at_builtin; refine wpList_append_own_at _ rfl _ _ 38 rfl w.heap.size 3 i0 (.int .i64 0) 1 8 Tryd.underlying38 hi hz0 hz1 hz2 rfl (by decide) _ _ _ rfl (hown.alloc _) ⟨wr.heap.size, 0, none⟩ 1 1 [.int .i64 (i : Int)] rfl rfl (cell_one_new _ _ _) (ints_oneCell .i64 [(i : Int)]) (by unfold maxLen; omega) (by omega) (by simp; omega) ?_; intro v' w2 hown' hgrow hnil hloc))
        go_roundw
        case rel =>
          refine ⟨v', i + 1, rfl, ret_v (by omega), by omega, by omega, ?_, HBB.out _ _ hgrow⟩
          rw [HN.out, if_pos HP.out, HL.out]
          unfold IOwn; rw [List.length_append, List.map_append]; exact hown'
        case measure => simp [intOf]; omega
      · have HP : Hid (¬ f (i : Int) = true) := Lib.hid (fun k => hc (HX.1 k))
        clear HX
        by_cases hux : u = x
        · subst hux
          have he : (u == u) = true := by simp
          have hx0 : ¬ 0 < u := fun k => hc ⟨rfl, k⟩
          clear hc
          go_wp2_with fail
          go_roundw
          case rel =>
            refine ⟨v, i + 1, rfl, ret_v (by omega), by omega, by omega, ?_, HB.out⟩
            rw [HN.out, if_neg HP.out, List.append_nil, HL.out]; exact hown
          case measure => simp [intOf]; omega
        · have he : (u == x) = false := by rw [beq_eq_false_iff_ne]; exact hux
          clear hc
          go_wp2_with fail
          go_roundw
          case rel =>
            refine ⟨v, i + 1, rfl, ret_v (by omega), by omega, by omega, ?_, HB.out⟩
            rw [HN.out, if_neg HP.out, List.append_nil, HL.out]; exact hown
          case measure => simp [intOf]; omega
    · obtain rfl : i = 1000 := by omega
      rw [HE.out] at hown
      clear HF HE
      go_wp2_with fail
      go_ret
      exact ⟨v, rfl, hown, hb⟩
end Go.Proofs.YtaibmdjcppeopaaDoor
