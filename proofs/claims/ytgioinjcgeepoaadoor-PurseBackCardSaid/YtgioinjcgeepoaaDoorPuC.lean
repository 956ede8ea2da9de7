/- The contracts of purse's book: who has what, what is given, taken, held, paid, the total, the owners. Conditions: the book lies in memory as its map has it; the sentinels lie where the program's text lays them. -/
import Derived.Test.YtgioinjcgeepoaaDoorErrs
import Derived.Test.YtgioinjcgeepoaaDoorPuM
import Derived.Test.YtgioinjcgeepoaaDoorKyP
namespace Go.Proofs.YtgioinjcgeepoaaDoor
open Go Go.RowKit Go.Maps Go.Sort

/-- A purse as a value. -/
def encP (p : Int × Int) : Value := .agg #[.int .i64 p.1, .int .i64 p.2]
/-- Block b is a map that has the purses P. -/
abbrev PursAt (w : World) (b : Nat) (P : Pur) : Prop := MapI Tryd.prog 3 encP w b P
/-- Block q is a book whose map lies in block b, and has the purses P. -/
structure BookAt (w : World) (q b : Nat) (P : Pur) : Prop where
  box : w.heap[q]? = some (.cells #[.map (some b)] 46 (0, 0))
  map : PursAt w b P
  solid : Solid P
theorem BookAt.lt {w : World} {q b : Nat} {P : Pur} (h : BookAt w q b P) : q < w.heap.size := (Array.getElem?_eq_some_iff.1 h.box).1
theorem BookAt.on {w w' : World} {q b B : Nat} {P : Pur} (h : BookAt w q b P) (hb : Below B w w') (hB : w.heap.size ≤ B) : BookAt w' q b P :=
  ⟨(hb.block _ (Nat.lt_of_lt_of_le h.lt hB)).trans h.box, h.map.on hb hB, h.solid⟩
theorem BookAt.ne {w : World} {q b : Nat} {P : Pur} (h : BookAt w q b P) : q ≠ b := by
  intro e; subst e
  obtain ⟨D, ⟨es, c, hb, _⟩, _⟩ := h.map
  rw [h.box] at hb; cases hb
theorem BookAt.step {w w' : World} {q b : Nat} {P P' : Pur} (h : BookAt w q b P) (hc : Chg b b w w') (hm : PursAt w' b P') (s : Solid P') : BookAt w' q b P' :=
  ⟨(hc.block q h.lt h.ne h.ne).trans h.box, hm, s⟩
theorem Tryd.zeroP (w : World) : (zeroValue 29).run Tryd.prog w = .ok (encP (0, 0)) w := Tryd.zeroValue29 w
theorem i64_purse {w : World} {q b : Nat} {P : Pur} (h : BookAt w q b P) (x : Int) : (Lit.int .i64 (purse P x).1).wf = true ∧ (Lit.int .i64 (purse P x).2).wf = true := by
  have h1 := h.solid.free x; have h2 := h.solid.held x; have h3 := h.solid.one x; have h4 := h.solid.most
  exact ⟨wfI (by omega) (by omega), wfI (by omega) (by omega)⟩

/-- purse.New. -/
theorem pnew_c (w : World) : Calls Tryd.prog 6 #[] w fun e w' => ∃ q b, e = .returned (.pointer (some ⟨q, 0, none⟩)) ∧ BookAt w' q b [] ∧ Below w.heap.size w w' ∧ w.heap.size ≤ b ∧ w.heap.size ≤ q := by
  have hmm := @run_makeMap Tryd.prog
  have hmade := MapI.made Tryd.prog 3 encP w
  go_enter Tryd.func6, Tryd.ntmps6
  go_wp2
  go_ret
  have hb0 : Below w.heap.size w (w.alloc (.map #[] 0)) := (Below.refl _ _).alloc (Nat.le_refl _) _
  have e1 : w.heap.size + 1 = (w.alloc (.map #[] 0)).heap.size := by simp
  rw [e1]
  refine ⟨_, w.heap.size, rfl, ⟨heap_alloc_new _ _, ?_, Solid.empty⟩, hb0.alloc hb0.size _, Nat.le_refl _, hb0.size⟩
  exact hmade.on (Below.alloc (Below.refl (w.alloc (.map #[] 0)).heap.size _) (Nat.le_refl _) _) (Nat.le_refl _)
/-- The map that a book has. -/
theorem pknown_c (q b : Nat) (w : World) (h : w.heap[q]? = some (.cells #[.map (some b)] 46 (0, 0))) :
    Calls Tryd.prog 17 #[.pointer (some ⟨q, 0, none⟩)] w fun e w' => e = .returned (.map (some b)) ∧ w' = w := by
  have c := cell_of_heap h 0
  clear h
  go_enter Tryd.func17, Tryd.ntmps17
  go_wp2
  go_ret
  exact ⟨rfl, rfl⟩
set_option maxRecDepth 100000 in
/-- Book.Of. -/
theorem of_c (q b : Nat) (P : Pur) (x : Int) (w : World) (h : BookAt w q b P) (h0 : -9223372036854775808 ≤ x) (h1 : x ≤ 9223372036854775807) :
    Calls Tryd.prog 7 #[.pointer (some ⟨q, 0, none⟩), .int .i64 x] w fun e w' => e = .returned (.agg #[.int .i64 (purse P x).1, .int .i64 (purse P x).2]) ∧ Below w.heap.size w w' := by
  have H := Lib.hid h
  have hk := wfI h0 h1
  obtain ⟨u, hu⟩ : ∃ u, purse P x = u := ⟨_, rfl⟩
  rw [hu]
  have hv : encP ((look P x).getD (0, 0)) = .agg #[.int .i64 u.1, .int .i64 u.2] := by rw [show (look P x).getD (0, 0) = purse P x from rfl, hu]; rfl
  clear h h0 h1 hu
  go_enter Tryd.func7, Tryd.ntmps7
  go_wp2_with (first
    | (go_at_call 17; refine (pknown_c q b _ ((Below.heap_alloc w _ q H.out.lt).trans H.out.box)).mono ?_; rintro e w ⟨rfl, rfl⟩)
    | (at_lookup; refine wpList_lookI _ rfl _ _ 44 rfl 3 29 Tryd.underlying3 Tryd.underlying44 encP (0, 0) (Tryd.zeroP _) b P rfl (H.out.map.alloc _) x rfl hk _ hv ?_))
  refine bodyPost_ret (v := .agg #[.int .i64 u.1, .int .i64 u.2]) (by simp [results, Tryd.results7, go_sem]) rfl ?_
  exact ⟨rfl, (Below.refl _ w).alloc (Nat.le_refl _) _⟩

set_option maxRecDepth 100000 in
/-- A map's total. -/
theorem ptotal_c (b : Nat) (P : Pur) (w : World) (h : PursAt w b P) (hs : Solid P) :
    Calls Tryd.prog 18 #[.map (some b)] w fun e w' => e = .returned (.int .i64 (wealth P)) ∧ Below w.heap.size w w' := by
  have HS := Lib.hid hs
  clear hs
  go_enter Tryd.func18, Tryd.ntmps18
  go_wp2_with (at_range; refine wpList_rangeI _ rfl _ 44 rfl 3 29 Tryd.underlying3 Tryd.underlying44 encP b P rfl h ?_; intro w0 left hrg0 hl0 hg0 hs0)
  go_frame
  go_loopw [3] (fun V wr => ∃ (left : Lit → Bool) (cnt : Nat), V = .int .i64 (partOf worth left P) ∧ RangeI Tryd.prog 3 encP wr b w.heap.size P left cnt ∧ Below w.heap.size w wr)
    (fun _ wr => wr.rangeLeft b w.heap.size)
  case atStart => exact ⟨_, _, by rw [part_none worth P fun x hx => by rw [hl0, hx]], hrg0, (Below.refl _ _).grown hg0 (Nat.le_refl _) (fun k e => by cases e)⟩
  case round =>
    obtain ⟨left, cnt, rfl, hrg, hb⟩ := hrel
    clear hrg0 hl0 hg0 hs0 h
    go_wp2_with (at_next; refine wpList_nextI _ rfl _ rfl 3 Tryd.underlying3 encP b w.heap.size P _ _ rfl hrg ?_ ?_)
    · intro hc0 hl0
      clear hrg
      have e := part_all worth hl0 P
      rw [e]
      clear e hl0
      go_wp2
      go_ret
      exact ⟨rfl, hb⟩
    · intro y f g w1 cnt1 hwx hlx hat hrg1 hlt hg1 hs1 hen
      have hb1 : Below w.heap.size w w1 := hb.grown hg1 hb.size (fun k e => by cases e; exact Nat.le_refl _)
      have htk := part_take worth left HS.out.apart hlx hat
      have hpb := part_bounds worth (fun z => left z && !z.sameKey (.int .i64 y)) HS.out.mem
      have hpa := part_bounds worth left HS.out.mem
      have hone := HS.out.each y (f, g) hat
      have hmost := HS.out.most
      simp only [worth] at htk hone
      have hm2 : tot worth P ≤ 1125899906842624 := hmost
      obtain ⟨p, hp⟩ : ∃ p, partOf worth left P = p := ⟨_, rfl⟩
      obtain ⟨p', hp'⟩ : ∃ p', partOf worth (fun z => left z && !z.sameKey (.int .i64 y)) P = p' := ⟨_, rfl⟩
      rw [hp] at hpa htk ⊢
      rw [hp'] at hpb htk
      have b1 : 0 ≤ f ∧ f ≤ 1125899906842624 := by omega
      have b2 : 0 ≤ g ∧ g ≤ 1125899906842624 := by omega
      have b3 : 0 ≤ p ∧ p ≤ 1125899906842624 := by omega
      have HR : Hid (RangeI Tryd.prog 3 encP w1 b w.heap.size P (fun z => left z && !z.sameKey (.int .i64 y)) cnt1) := Lib.hid hrg1
      have HSM : Hid (w1.rangeLeft b w.heap.size < wr.rangeLeft b w.heap.size) := Lib.hid (by rw [hrg1.left_eq, hrg.left_eq]; exact hlt)
      have HP : Hid (partOf worth (fun z => left z && !z.sameKey (.int .i64 y)) P = p + (f + g)) := Lib.hid (by rw [hp', htk])
      have HB := Lib.hid hb1
      simp only [encP] at hen ⊢
      clear hrg hrg1 hlx hat hlt hg1 hs1 hpb hpa hone hmost hm2 hp hp' htk hb hb1 hwx
      go_wp2
      go_roundw
      case rel =>
        refine ⟨_, cnt1, by rw [HP.out], ?_, HB.out.alloc HB.out.size _⟩
        exact HR.out.alloc _
      case measure =>
        have := HSM.out
        rw [HR.out.left_eq] at this
        rw [(HR.out.alloc _).left_eq]; exact this
end Go.Proofs.YtgioinjcgeepoaaDoor
