/- The guests of a host that may go, by contract: Line. Conditions: the host's guests lie in memory, at most 10. -/
import Derived.Test.YtlckofoabnnlhaaDoorViS
import Derived.Test.YtlckofoabnnlhaaDoorRgC
import Derived.Deep.LoopGhost
import Derived.Deep.CutBlock
import Derived.Test.YtlckofoabnnlhaaDoorViE
import Derived.Test.YtlckofoabnnlhaaDoorVec
import Derived.Deep.QuietTactic
import Derived.Test.YtlckofoabnnlhaaDoorViT
namespace Go.Proofs.YtlckofoabnnlhaaDoor
open Go Go.RowKit

theorem filter_take {p : Gst → Bool} {L : List Gst} {k : Nat} {x : Gst} (h : L[k]? = some x) : (L.take (k + 1)).filter p = (L.take k).filter p ++ if p x = true then [x] else [] := by
  rw [List.take_add_one, h, Option.toList_some, List.filter_append]
  cases hp : p x <;> simp [hp]
set_option maxRecDepth 100000 in
set_option maxHeartbeats 3200000 in
theorem line_c (h : Hst) (band : Int) (w : World) (hr : ReadsE encGst w h.A h.on) (hl : h.on.length ≤ 10) :
    Calls Tryd.prog 10 #[.agg #[.int .i64 h.id, .int .i64 h.left.a, .int .i64 h.left.b, .int .i64 h.left.c, .int .i64 h.left.d, .slice h.A h.on.length h.c], .int .i64 band] w fun e w' => ∃ (A : Option Addr) (c : Nat) (M : List Gst), e = .returned (.slice A M.length c) ∧ M.Perm (h.on.filter (candG band)) ∧ OwnE encGst 35 w' w.heap.size (.slice A M.length c) M ∧ Below w.heap.size w w' := by
  obtain ⟨i0, hi0, hz0, hz1, hz2⟩ := info_parts Tryd.infoGs
  obtain ⟨id, ⟨l0, l1, l2, l3⟩, on, A, c⟩ := h
  simp only at hr hl
  obtain ⟨W1, hW1⟩ : ∃ W1, w.alloc (.cells #[.int .i64 id, .int .i64 l0, .int .i64 l1, .int .i64 l2, .int .i64 l3, .slice A on.length c] 31) = W1 := ⟨_, rfl⟩
  have hb1 : Below w.heap.size w W1 := by rw [← hW1]; exact (Below.refl _ _).alloc (Nat.le_refl _) _
  have hx1 : W1.heap[w.heap.size]? = some (.cells #[.int .i64 id, .int .i64 l0, .int .i64 l1, .int .i64 l2, .int .i64 l3, .slice A on.length c] 31 (0, 0)) := by rw [← hW1]; exact heap_alloc_new _ _
  have z5 := cell_of_heap hx1 5
  simp at z5
  have HR := Lib.hid hr
  have HI0 := Lib.hid hi0
  have HB1 := Lib.hid hb1
  have HW1 := Lib.hid hW1
  have HL := Lib.hid hl
  clear hr hi0 hb1 hW1 hx1
  go_enter Tryd.func10, Tryd.ntmps10
  go_upto_region 1 with fail
  rw [HW1.out]
  go_upto_region 3 with fail
  go_loopg [5, 11] on.length (fun gk s5 s11 wr => ∃ (k : Nat) (O : List Gst) (B : Option Addr) (cb : Nat), s11 = .int .i64 k ∧ s5 = .slice B O.length cb ∧ k ≤ on.length ∧ on.length - k ≤ gk ∧ Aside (O = (on.take k).filter (candG band) ∧ OwnE encGst 35 wr w.heap.size (.slice B O.length cb) O ∧ Below w.heap.size w wr))
  case atStart => exact ⟨0, [], _, _, rfl, rfl, Nat.zero_le _, Nat.le_refl _, rfl, OwnE.nil .., HB1.out⟩
  case round =>
    obtain ⟨k, O, B, cb, rfl, rfl, hk, hgk, IN⟩ := hrel
    have HF := Lib.hid IN.out.1
    have HO := Lib.hid IN.out.2.1
    have HB := Lib.hid IN.out.2.2
    clear IN
    by_cases hlt : k < on.length
    · obtain ⟨x, hx⟩ : ∃ x, on[k]? = some x := ⟨_, List.getElem?_eq_getElem hlt⟩
      obtain ⟨ad, p, rfl, had, hp, hc⟩ := HR.out k x hx
      have hltz : (k : Int) < (on.length : Int) := by omega
      have v0 := (HB.out.cell (p := p) hp).trans ((congrArg w.cell? (add_zeroE p).symm).trans (hc 0 _ rfl))
      have v1 := (HB.out.cell (p := ⟨p.block, p.off + 1, none⟩) hp).trans (hc 1 _ rfl)
      have v2 := (HB.out.cell (p := ⟨p.block, p.off + 2, none⟩) hp).trans (hc 2 _ rfl)
      have v3 := (HB.out.cell (p := ⟨p.block, p.off + 3, none⟩) hp).trans (hc 3 _ rfl)
      have v4 := (HB.out.cell (p := ⟨p.block, p.off + 4, none⟩) hp).trans (hc 4 _ rfl)
      have v5 := (HB.out.cell (p := ⟨p.block, p.off + 5, none⟩) hp).trans (hc 5 _ rfl)
      have v6 := (HB.out.cell (p := ⟨p.block, p.off + 6, none⟩) hp).trans (hc 6 _ rfl)
      have v7 := (HB.out.cell (p := ⟨p.block, p.off + 7, none⟩) hp).trans (hc 7 _ rfl)
      have hpl : p.block < wr.heap.size := Nat.lt_of_lt_of_le hp HB.out.size
      have HX := Lib.hid (filter_take (p := candG band) hx)
      obtain ⟨⟨job, ix⟩, bd, env, ⟨a, b, d, e⟩⟩ := x
      clear hx hp hc
      cases env with
      | true =>
        have hcd : candG band ⟨⟨job, ix⟩, bd, true, ⟨a, b, d, e⟩⟩ = false := by simp [candG]
        have HCD := Lib.hid hcd
        have HB2 : Hid (Below w.heap.size w (wr.alloc (.cells #[.int .i64 job, .int .i64 ix, .int .i64 bd, .bool true, .int .i64 a, .int .i64 b, .int .i64 d, .int .i64 e] 35))) := Lib.hid (HB.out.alloc HB.out.size _)
        clear hcd
        by_cases h1 : band < bd
        · go_wp2_with fail
          go_roundg (on.length - (k + 1))
          case measure => omega
          case rel => exact ⟨k + 1, O, B, cb, by go_num, rfl, by omega, Nat.le_refl _, by rw [HX.out, HCD.out, ← HF.out]; simp, HO.out.on ((Below.refl _ _).alloc (Nat.le_refl _) _), HB2.out⟩
        · go_wp2_with fail
          go_roundg (on.length - (k + 1))
          case measure => omega
          case rel => exact ⟨k + 1, O, B, cb, by go_num, rfl, by omega, Nat.le_refl _, by rw [HX.out, HCD.out, ← HF.out]; simp, HO.out.on ((Below.refl _ _).alloc (Nat.le_refl _) _), HB2.out⟩
      | false =>
        by_cases h1 : band < bd
        · have hcd : candG band ⟨⟨job, ix⟩, bd, false, ⟨a, b, d, e⟩⟩ = true := by simp [candG, h1]
          have hle : O.length ≤ 10 := by rw [HF.out]; exact Nat.le_trans (List.length_filter_le _ _) (by rw [List.length_take]; have := HL.out; omega)
          obtain ⟨W2, hW2⟩ : ∃ W2, (wr.alloc (.cells #[.int .i64 job, .int .i64 ix, .int .i64 bd, .bool false, .int .i64 a, .int .i64 b, .int .i64 d, .int .i64 e] 35)).alloc (.cells #[.int .i64 job, .int .i64 ix, .int .i64 bd, .bool false, .int .i64 a, .int .i64 b, .int .i64 d, .int .i64 e] 35) = W2 := ⟨_, rfl⟩
          have hb2 : Below wr.heap.size wr W2 := by rw [← hW2]; exact ((Below.refl _ _).alloc (Nat.le_refl _) _).alloc (by simp) _
          have A1 : Hid (OwnE encGst 35 W2 w.heap.size (.slice B O.length cb) O) := Lib.hid (HO.out.on hb2)
          have A2 : Hid (LiesE encGst W2 (.slice (some ⟨wr.heap.size + 1, 0, none⟩) 1 1) [⟨⟨job, ix⟩, bd, false, ⟨a, b, d, e⟩⟩]) := Lib.hid (by
            have h := heap_alloc_new (wr.alloc (.cells #[.int .i64 job, .int .i64 ix, .int .i64 bd, .bool false, .int .i64 a, .int .i64 b, .int .i64 d, .int .i64 e] 35)) (.cells #[.int .i64 job, .int .i64 ix, .int .i64 bd, .bool false, .int .i64 a, .int .i64 b, .int .i64 d, .int .i64 e] 35)
            rw [hW2, World.size_alloc] at h
            exact lies_lit encGst [⟨⟨job, ix⟩, bd, false, ⟨a, b, d, e⟩⟩] h)
          have A3 : Hid (O.length + [(⟨⟨job, ix⟩, bd, false, ⟨a, b, d, e⟩⟩ : Gst)].length ≤ maxLen) := by simp only [Hid, List.length_cons, List.length_nil, maxLen]; omega
          have A4 : Hid ((O.length + [(⟨⟨job, ix⟩, bd, false, ⟨a, b, d, e⟩⟩ : Gst)].length) * 64 ≤ 140737488355328) := by simp only [Hid, List.length_cons, List.length_nil]; omega
          have A5 : Hid (w.heap.size ≤ W2.heap.size) := Lib.hid (Nat.le_trans HB.out.size hb2.size)
          have HB2 : Hid (Below w.heap.size w W2) := Lib.hid (HB.out.trans (hb2.mono HB.out.size))
          have HCD := Lib.hid hcd
          have HW2 := Lib.hid hW2
          clear hcd hle hb2 hW2
          go_upto_region 6 with fail
          go_wp2_with (at_builtin; rw [HW2.out]; refine wpList_append_E rfl _ _ 29 rfl i0 _ 64 Tryd.underlying29 HI0.out hz0 hz1 hz2 rfl (by decide) rfl A1.out rfl A2.out A3.out A4.out A5.out ?_; intro v' w' hv hgr hown; obtain ⟨B', c', e'⟩ := hv.form; subst e'; have HV := Lib.hid hv; have HGR := Lib.hid hgr; clear hv hgr hown)
          go_roundg (on.length - (k + 1))
          case measure => omega
          case rel =>
            refine ⟨k + 1, _, B', c', by go_num, by rw [List.length_append]; rfl, by omega, Nat.le_refl _, ?_, HV.out, HB2.out.grown HGR.out HB2.out.size fun j hj => (A1.out.lt j hj).1⟩
            rw [HX.out, HCD.out, ← HF.out]; simp
        · have hcd : candG band ⟨⟨job, ix⟩, bd, false, ⟨a, b, d, e⟩⟩ = false := by simp [candG]; omega
          have HCD := Lib.hid hcd
          have HB2 : Hid (Below w.heap.size w (wr.alloc (.cells #[.int .i64 job, .int .i64 ix, .int .i64 bd, .bool false, .int .i64 a, .int .i64 b, .int .i64 d, .int .i64 e] 35))) := Lib.hid (HB.out.alloc HB.out.size _)
          clear hcd
          go_wp2_with fail
          go_roundg (on.length - (k + 1))
          case measure => omega
          case rel => exact ⟨k + 1, O, B, cb, by go_num, rfl, by omega, Nat.le_refl _, by rw [HX.out, HCD.out, ← HF.out]; simp, HO.out.on ((Below.refl _ _).alloc (Nat.le_refl _) _), HB2.out⟩
    · obtain rfl : k = on.length := by omega
      have hz1 : ¬ (on.length : Int) < (on.length : Int) := by omega
      rw [List.take_length] at HF
      have HS := Lib.hid (sortG_c w.heap.size B cb O wr HO.out (by rw [HF.out]; exact Nat.lt_of_le_of_lt (List.length_filter_le _ _) (by have := HL.out; omega)))
      go_wp2_with fail
      refine HS.out.mono ?_
      rintro e w2 ⟨rfl, M, hp, ho, hg⟩
      have HP := Lib.hid hp; have HO2 := Lib.hid ho; have HG := Lib.hid hg
      clear hp ho hg
      go_wp2_with fail
      go_ret
      have el : M.length = O.length := HP.out.length_eq
      exact ⟨B, cb, M, by rw [el]; rfl, by rw [← HF.out]; exact HP.out, by rw [el]; exact HO2.out, HB.out.grown HG.out HB.out.size fun j hj => (HO.out.lt j hj).1⟩
end Go.Proofs.YtlckofoabnnlhaaDoor

/- Whether hosts are valid, by contract. Conditions: the hosts lie in memory, at most 10 of at most 10 guests. -/
namespace Go.Proofs.YtlckofoabnnlhaaDoor
open Go Go.RowKit Go.Maps

/-- The closure: whether a guest's need is not valid. -/
theorem gbad_c (g : Gst) (w : World) : Calls Tryd.prog 29 #[.agg #[.int .i64 g.task.job, .int .i64 g.task.ix, .int .i64 g.band, .bool g.env, .int .i64 g.need.a, .int .i64 g.need.b, .int .i64 g.need.c, .int .i64 g.need.d]] w fun e w' => e = .returned (.bool (!goodV g.need)) ∧ Below w.heap.size w w' := by
  obtain ⟨⟨job, ix⟩, bd, env, y⟩ := g
  obtain ⟨W1, hW1⟩ : ∃ W1, w.alloc (.cells #[.int .i64 job, .int .i64 ix, .int .i64 bd, .bool env, .int .i64 y.a, .int .i64 y.b, .int .i64 y.c, .int .i64 y.d] 35) = W1 := ⟨_, rfl⟩
  have hb1 : Below w.heap.size w W1 := by rw [← hW1]; exact (Below.refl _ _).alloc (Nat.le_refl _) _
  have hx1 : W1.heap[w.heap.size]? = some (.cells #[.int .i64 job, .int .i64 ix, .int .i64 bd, .bool env, .int .i64 y.a, .int .i64 y.b, .int .i64 y.c, .int .i64 y.d] 35 (0, 0)) := by rw [← hW1]; exact heap_alloc_new _ _
  have z4 := cell_of_heap hx1 4
  have z5 := cell_of_heap hx1 5
  have z6 := cell_of_heap hx1 6
  have z7 := cell_of_heap hx1 7
  simp at z4 z5 z6 z7
  have HG := Lib.hid (good_c y W1)
  have HB1 := Lib.hid hb1
  have HW1 := Lib.hid hW1
  clear hb1 hW1 hx1
  go_enter Tryd.func29, Tryd.ntmps29
  go_upto_region 1 with fail
  rw [HW1.out]
  go_wp2_with fail
  refine HG.out.mono ?_
  rintro e w2 ⟨rfl, b2⟩
  have HB2 : Hid (Below w.heap.size w w2) := Lib.hid (HB1.out.trans (b2.mono HB1.out.size))
  clear b2 HG
  go_wp2_with fail
  go_ret
  exact ⟨rfl, HB2.out⟩
theorem any_take {p : Gst → Bool} {L : List Gst} {k : Nat} {x : Gst} (h : L[k]? = some x) : (L.take (k + 1)).any p = ((L.take k).any p || p x) := by
  rw [List.take_add_one, h, Option.toList_some, List.any_append]
  simp
set_option maxRecDepth 100000 in
set_option maxHeartbeats 1600000 in
/-- slices.IndexFunc at the closure: whether there is such a guest. -/
theorem gidx_c (A : Option Addr) (c : Nat) (L : List Gst) (w : World) (h : ReadsE encGst w A L) (hl : L.length ≤ 1000000) :
    Calls Tryd.prog 38 #[.slice A L.length c, .func (.func 29) #[] #[]] w fun e w' => ∃ z : Int, e = .returned (.int .i64 z) ∧ decide (0 ≤ z) = L.any (fun g => !goodV g.need) ∧ Below w.heap.size w w' := by
  have HR := Lib.hid h
  have HC := Lib.hid gbad_c
  have eg : ∀ args w, (callFunc 29 args).run Tryd.prog w = .ok (.enter 29 args) w := enters_of Tryd.func29 (by kernel_rfl) rfl
  clear h
  go_enter Tryd.func38, Tryd.ntmps38
  go_upto_region 2 with fail
  go_loopg [8] L.length (fun gk s8 wr => ∃ (k : Nat), s8 = .int .i64 k ∧ k ≤ L.length ∧ L.length - k ≤ gk ∧ Aside ((L.take k).any (fun g => !goodV g.need) = false ∧ Below w.heap.size w wr))
  case atStart => exact ⟨0, rfl, Nat.zero_le _, Nat.le_refl _, rfl, Below.refl _ _⟩
  case round =>
    obtain ⟨k, rfl, hk, hgk, IN⟩ := hrel
    have HF := Lib.hid IN.out.1
    have HB := Lib.hid IN.out.2
    clear IN
    by_cases hlt : k < L.length
    · obtain ⟨x, hx⟩ : ∃ x, L[k]? = some x := ⟨_, List.getElem?_eq_getElem hlt⟩
      obtain ⟨ad, p, rfl, had, hp, hc⟩ := HR.out k x hx
      have hltz : (k : Int) < (L.length : Int) := by omega
      have v0 := (HB.out.cell (p := p) hp).trans ((congrArg w.cell? (add_zeroE p).symm).trans (hc 0 _ rfl))
      have v1 := (HB.out.cell (p := ⟨p.block, p.off + 1, none⟩) hp).trans (hc 1 _ rfl)
      have v2 := (HB.out.cell (p := ⟨p.block, p.off + 2, none⟩) hp).trans (hc 2 _ rfl)
      have v3 := (HB.out.cell (p := ⟨p.block, p.off + 3, none⟩) hp).trans (hc 3 _ rfl)
      have v4 := (HB.out.cell (p := ⟨p.block, p.off + 4, none⟩) hp).trans (hc 4 _ rfl)
      have v5 := (HB.out.cell (p := ⟨p.block, p.off + 5, none⟩) hp).trans (hc 5 _ rfl)
      have v6 := (HB.out.cell (p := ⟨p.block, p.off + 6, none⟩) hp).trans (hc 6 _ rfl)
      have v7 := (HB.out.cell (p := ⟨p.block, p.off + 7, none⟩) hp).trans (hc 7 _ rfl)
      have hpl : p.block < wr.heap.size := Nat.lt_of_lt_of_le hp HB.out.size
      have HX := Lib.hid (any_take (p := fun g => !goodV g.need) hx)
      have HG := Lib.hid (HC.out x wr)
      obtain ⟨⟨job, ix⟩, bd, env, ⟨a, b, d, e⟩⟩ := x
      obtain ⟨bad, hbad⟩ : ∃ bad, (!goodV ⟨a, b, d, e⟩) = bad := ⟨_, rfl⟩
      rw [hbad] at HG
      have HX' : Hid ((L.take (k + 1)).any (fun g => !goodV g.need) = bad) := Lib.hid (by rw [HX.out, HF.out]; exact hbad)
      clear hx hp hc hbad HX
      go_wp2_with fail
      refine HG.out.mono ?_
      rintro e' w2 ⟨rfl, b2⟩
      have HB2 : Hid (Below w.heap.size w w2) := Lib.hid (HB.out.trans (b2.mono HB.out.size))
      clear b2 HG v0 v1 v2 v3 v4 v5 v6 v7
      cases bad with
      | true =>
        go_wp2_with fail
        refine bodyPost_ret (v := .int .i64 (k : Int)) (by simp [results, Tryd.results38, go_sem]) rfl ⟨(k : Int), rfl, ?_, HB2.out⟩
        rw [decide_eq_true (by omega : (0 : Int) ≤ k)]
        have h1 := HX'.out
        rw [List.any_eq_true] at h1
        obtain ⟨y, hy, hy'⟩ := h1
        exact (List.any_eq_true.2 ⟨y, List.mem_of_mem_take hy, hy'⟩).symm
      | false =>
        go_wp2_with fail
        go_roundg (L.length - (k + 1))
        case measure => omega
        case rel => exact ⟨k + 1, by go_num, by omega, Nat.le_refl _, HX'.out, HB2.out⟩
    · obtain rfl : k = L.length := by omega
      have hz1 : ¬ (L.length : Int) < (L.length : Int) := by omega
      rw [List.take_length] at HF
      go_wp2_with fail
      refine bodyPost_ret (v := .int .i64 (-1)) (by simp [results, Tryd.results38, go_sem]) rfl ⟨-1, rfl, ?_, HB.out⟩
      rw [HF.out]; rfl
/-- slices.ContainsFunc at the closure. -/
theorem gcon_c (A : Option Addr) (c : Nat) (L : List Gst) (w : World) (h : ReadsE encGst w A L) (hl : L.length ≤ 1000000) :
    Calls Tryd.prog 28 #[.slice A L.length c, .func (.func 29) #[] #[]] w fun e w' => e = .returned (.bool (L.any fun g => !goodV g.need)) ∧ Below w.heap.size w w' := by
  have HI := Lib.hid (gidx_c A c L w h hl)
  clear h
  go_enter Tryd.func28, Tryd.ntmps28
  go_wp2_with fail
  refine HI.out.mono ?_
  rintro e w1 ⟨z, rfl, hz, hb⟩
  have HZ := Lib.hid hz; have HB := Lib.hid hb
  clear hz hb HI
  go_wp2_with fail
  go_ret
  exact ⟨by rw [← HZ.out]; rfl, HB.out⟩
/-- The numbers of a row of hosts, as a map's keys. -/
def IdsG (T : List (Int × Unit)) (l : List Int) : Prop := (∀ x, (look T x).isSome = true ↔ x ∈ l) ∧ T.length ≤ l.length ∧ (T.length = l.length ↔ l.Nodup)
theorem IdsG.nil : IdsG [] [] := ⟨fun x => by simp [look], Nat.le_refl _, by simp⟩
theorem IdsG.snoc {T : List (Int × Unit)} {l : List Int} (h : IdsG T l) (ha : Apart T) (x : Int) : IdsG (enter T x ()) (l ++ [x]) := by
  obtain ⟨h1, h2, h3⟩ := h
  have hn : (l ++ [x]).Nodup ↔ l.Nodup ∧ x ∉ l := by
    rw [List.nodup_append]
    constructor
    · rintro ⟨a, _, b⟩; exact ⟨a, fun hx => b x hx x (by simp) rfl⟩
    · rintro ⟨a, b⟩; exact ⟨a, by simp, fun y hy z hz => by simp at hz; subst hz; intro e; subst e; exact b hy⟩
  refine ⟨fun y => ?_, ?_, ?_⟩
  · rw [look_enter]
    by_cases e : y = x
    · simp [e]
    · rw [if_neg e, h1 y]; simp [e]
  · have := enter_le T x (); rw [List.length_append]; simp; omega
  · rw [hn, ← h3, ← h1 x, enter_len ha, List.length_append]
    simp only [List.length_cons, List.length_nil]
    cases hs : (look T x).isSome <;> simp <;> omega
theorem valid_take {H : List Hst} {k : Nat} {x : Hst} (h : H[k]? = some x) : (H.take (k + 1)).all okH = ((H.take k).all okH && okH x) ∧ (H.take (k + 1)).map (·.id) = (H.take k).map (·.id) ++ [x.id] := by
  rw [List.take_add_one, h, Option.toList_some, List.all_append, List.map_append]
  simp
theorem okH_any (h : Hst) : okH h = (goodV h.left && !(h.on.any fun g => !goodV g.need)) := by
  unfold okH
  rw [List.not_any_eq_all_not]
  simp
theorem validH_no {H : List Hst} {x : Hst} (hx : x ∈ H) (h : okH x = false) : validH H = false := by
  unfold validH
  rw [List.all_eq_false.2 ⟨x, hx, by rw [h]; simp⟩]; rfl
set_option maxRecDepth 100000 in
set_option maxHeartbeats 3200000 in
theorem vgood_c (A : Option Addr) (c : Nat) (H : List Hst) (w : World) (h : HostsAt w A H) :
    Calls Tryd.prog 16 #[.slice A H.length c] w fun e w' => e = .returned (.bool (validH H)) ∧ Below w.heap.size w w' := by
  obtain ⟨W1, hW1⟩ : ∃ W1, w.alloc (.map #[] 0) = W1 := ⟨_, rfl⟩
  obtain ⟨mb, hmb⟩ : ∃ mb, w.heap.size = mb := ⟨_, rfl⟩
  have hb1 : Below w.heap.size w W1 := by rw [← hW1]; exact (Below.refl _ _).alloc (Nat.le_refl _) _
  have hm1 : MapG Tryd.prog 3 (Lit.int .i64) i64 (fun _ : Unit => Value.agg #[]) W1 mb [] := by rw [← hW1, ← hmb]; exact MapG.made _ _ _ _ _ w
  have HH := Lib.hid h
  have HB1 := Lib.hid hb1
  have HM1 := Lib.hid hm1
  have HW1 := Lib.hid hW1
  have HMB := Lib.hid hmb
  have hl10 := h.all
  have HL10 := Lib.hid hl10
  have hmm := @run_makeMap Tryd.prog
  clear h hb1 hm1 hW1 hmb
  go_enter Tryd.func16, Tryd.ntmps16
  go_upto_region 2 with fail
  rw [HW1.out, HMB.out]
  go_upto_region 3 with fail
  go_loopg [9] H.length (fun gk s9 wr => ∃ (k : Nat) (T : List (Int × Unit)), s9 = .int .i64 k ∧ k ≤ H.length ∧ H.length - k ≤ gk ∧ Aside ((H.take k).all okH = true ∧ IdsG T ((H.take k).map (·.id)) ∧ MapG Tryd.prog 3 (Lit.int .i64) i64 (fun _ : Unit => Value.agg #[]) wr mb T ∧ Below w.heap.size w wr))
  case atStart => exact ⟨0, [], rfl, Nat.zero_le _, Nat.le_refl _, rfl, IdsG.nil, HM1.out, HB1.out⟩
  case round =>
    obtain ⟨k, T, rfl, hk, hgk, IN⟩ := hrel
    have HA := Lib.hid IN.out.1
    have HI := Lib.hid IN.out.2.1
    have HM := Lib.hid IN.out.2.2.1
    have HB := Lib.hid IN.out.2.2.2
    clear IN
    by_cases hlt : k < H.length
    · obtain ⟨x, hx⟩ : ∃ x, H[k]? = some x := ⟨_, List.getElem?_eq_getElem hlt⟩
      obtain ⟨ad, p, rfl, had, hp, hc⟩ := HH.out.row k x hx
      have hxm : x ∈ H := List.mem_of_getElem? hx
      have HOK := Lib.hid (HH.out.ids x hxm)
      have HEA := Lib.hid (HH.out.each x hxm)
      have HFW := Lib.hid (HH.out.few x hxm)
      have hltz : (k : Int) < (H.length : Int) := by omega
      have v0 := (HB.out.cell (p := p) hp).trans ((congrArg w.cell? (add_zeroE p).symm).trans (hc 0 _ rfl))
      have v1 := (HB.out.cell (p := ⟨p.block, p.off + 1, none⟩) hp).trans (hc 1 _ rfl)
      have v2 := (HB.out.cell (p := ⟨p.block, p.off + 2, none⟩) hp).trans (hc 2 _ rfl)
      have v3 := (HB.out.cell (p := ⟨p.block, p.off + 3, none⟩) hp).trans (hc 3 _ rfl)
      have v4 := (HB.out.cell (p := ⟨p.block, p.off + 4, none⟩) hp).trans (hc 4 _ rfl)
      have v5 := (HB.out.cell (p := ⟨p.block, p.off + 5, none⟩) hp).trans (hc 5 _ rfl)
      have hpl : p.block < wr.heap.size := Nat.lt_of_lt_of_le hp HB.out.size
      have HX := Lib.hid (valid_take hx)
      have HXM0 := Lib.hid hxm
      have HAP := Lib.hid HM.out.apart
      obtain ⟨id, ⟨l0, l1, l2, l3⟩, on, A', c'⟩ := x
      obtain ⟨g, hg⟩ : ∃ g, wr.heap.size = g := ⟨_, rfl⟩
      obtain ⟨W2, hW2⟩ : ∃ W2, wr.alloc (.cells #[.int .i64 id, .int .i64 l0, .int .i64 l1, .int .i64 l2, .int .i64 l3, .slice A' on.length c'] 31) = W2 := ⟨_, rfl⟩
      have hx2 : W2.heap[g]? = some (.cells #[.int .i64 id, .int .i64 l0, .int .i64 l1, .int .i64 l2, .int .i64 l3, .slice A' on.length c'] 31 (0, 0)) := by rw [← hW2, ← hg]; exact heap_alloc_new _ _
      have hb2 : Below wr.heap.size wr W2 := by rw [← hW2]; exact (Below.refl _ _).alloc (Nat.le_refl _) _
      have HM2 : Hid (MapG Tryd.prog 3 (Lit.int .i64) i64 (fun _ : Unit => Value.agg #[]) W2 mb T) := Lib.hid (HM.out.on hb2 (Nat.le_refl _))
      have HB2 : Hid (Below w.heap.size w W2) := Lib.hid (HB.out.trans (hb2.mono HB.out.size))
      have HX2 := Lib.hid hx2
      have HTL : Hid (T.length < maxLen) := by have := HI.out.2.1; rw [List.length_map, List.length_take] at this; have := HL10.out; simp only [Hid, maxLen]; omega
      have HG2 : Hid (g < W2.heap.size ∧ g ≠ mb) := Lib.hid ⟨lt_of_row hx2, fun e => by have := HM.out.lt; omega⟩
      have HW2 := Lib.hid hW2
      have HGG := Lib.hid hg
      have z0 := cell_of_heap hx2 0
      simp at z0
      clear hx hp hc hxm hg hW2 hx2 hb2
      go_upto_region 5 with fail
      rw [HW2.out, HGG.out]
      go_upto_region 6 with (at_mapUpdate; refine wpList_putG _ kitI rfl _ _ _ 76 rfl 77 Tryd.underlying76 (fun _ : Unit => Value.agg #[]) mb T rfl HM2.out HTL.out id rfl HOK.out () rfl ?_; intro w3 hm3 hg3)
      have hx3 : w3.heap[g]? = some (.cells #[.int .i64 id, .int .i64 l0, .int .i64 l1, .int .i64 l2, .int .i64 l3, .slice A' on.length c'] 31 (0, 0)) := (hg3.block g HG2.out.1 (fun e => HG2.out.2 (Option.some.inj e))).trans HX2.out
      have hb3 : Below w.heap.size w w3 := HB2.out.grown hg3 HB2.out.size fun k hk => by cases hk; exact Nat.le_of_eq HMB.out
      have HM3 := Lib.hid hm3
      have HB3 := Lib.hid hb3
      have HGd := Lib.hid (good_c ⟨l0, l1, l2, l3⟩ w3)
      have HCn : Hid (∀ W, Below w.heap.size w W → Calls Tryd.prog 28 #[.slice A' on.length c', .func (.func 29) #[] #[]] W fun e w' => e = .returned (.bool (on.any fun g => !goodV g.need)) ∧ Below W.heap.size W w') := Lib.hid fun W hb => gcon_c A' c' on W (HEA.out.on hb) (by have := HFW.out; simp only at this; omega)
      have z1 := cell_of_heap hx3 1
      have z2 := cell_of_heap hx3 2
      have z3 := cell_of_heap hx3 3
      have z4 := cell_of_heap hx3 4
      have HX3 := Lib.hid hx3
      simp at z1 z2 z3 z4
      have hok : okH ⟨id, ⟨l0, l1, l2, l3⟩, on, A', c'⟩ = (goodV ⟨l0, l1, l2, l3⟩ && !(on.any fun g => !goodV g.need)) := okH_any _
      have HOKX := Lib.hid hok
      have HXM : Hid ((⟨id, ⟨l0, l1, l2, l3⟩, on, A', c'⟩ : Hst) ∈ H) := HXM0
      obtain ⟨gl, hgl⟩ : ∃ gl, goodV ⟨l0, l1, l2, l3⟩ = gl := ⟨_, rfl⟩
      obtain ⟨an, han⟩ : ∃ an, (on.any fun g => !goodV g.need) = an := ⟨_, rfl⟩
      rw [hgl] at HGd HOKX
      rw [han] at HCn HOKX
      clear hx3 hb3 hm3 hg3 hok hgl han HM2 HB2 HM HB HW2 HGG HX2 HM1 HB1 HW1 HXM0 v0 v1 v2 v3 v4 v5 had hpl
      go_wp2_with fail
      refine HGd.out.mono ?_
      rintro e w4 ⟨rfl, b4⟩
      have HB4 : Hid (Below w3.heap.size w3 w4) := Lib.hid b4
      have hx4 := (b4.block g (lt_of_row HX3.out)).trans HX3.out
      have z5 := cell_of_heap hx4 5
      simp at z5
      clear b4 hx4 z1 z2 z3 z4 z0 HGd
      cases gl with
      | false =>
        go_wp2_with fail
        go_ret
        refine ⟨?_, HB3.out.trans (HB4.out.mono HB3.out.size)⟩
        rw [validH_no HXM.out (by rw [HOKX.out]; rfl)]; rfl
      | true =>
        go_wp2_with fail
        refine (HCn.out w4 (HB3.out.trans (HB4.out.mono HB3.out.size))).mono ?_
        rintro e w5 ⟨rfl, b5⟩
        have HB5 : Hid (Below w3.heap.size w3 w5) := Lib.hid (HB4.out.trans (b5.mono HB4.out.size))
        clear b5 z5 HCn HB4
        cases an with
        | true =>
          go_wp2_with fail
          go_ret
          refine ⟨?_, HB3.out.trans (HB5.out.mono HB3.out.size)⟩
          rw [validH_no HXM.out (by rw [HOKX.out]; rfl)]; rfl
        | false =>
          go_wp2_with fail
          go_roundg (H.length - (k + 1))
          case measure => omega
          case rel =>
            refine ⟨k + 1, _, by go_num, by omega, Nat.le_refl _, ?_, ?_, HM3.out.on HB5.out (Nat.le_refl _), HB3.out.trans (HB5.out.mono HB3.out.size)⟩
            · rw [HX.out.1, HA.out, HOKX.out]; rfl
            · rw [HX.out.2]; exact HI.out.snoc HAP.out _
    · obtain rfl : k = H.length := by omega
      have hz1 : ¬ (H.length : Int) < (H.length : Int) := by omega
      rw [List.take_length] at HA HI
      go_wp2_with (at_len; refine wpList_lenG _ rfl _ 76 rfl 77 Tryd.underlying76 (fun _ : Unit => Value.agg #[]) mb T rfl HM.out ?_)
      go_ret
      refine ⟨?_, HB.out⟩
      have e1 : validH H = ((T.length : Int) == (H.length : Int)) := by
        unfold validH
        rw [HA.out, Bool.true_and, Bool.eq_iff_iff, decide_eq_true_eq, beq_iff_eq, ← HI.out.2.2, List.length_map]
        omega
      rw [e1]; rfl
end Go.Proofs.YtlckofoabnnlhaaDoor

/- A plan in which nothing has been chosen, by contract. Conditions: the hosts and the allowances lie in memory. -/
namespace Go.Proofs.YtlckofoabnnlhaaDoor
open Go Go.RowKit Go.Maps

/-- The first allowance of a job. -/
def alO : List Spr → Int → Option Int
  | [], _ => none
  | s :: r, j => if s.job = j then some (max s.left 0) else alO r j
theorem alO_getD (S : List Spr) (j : Int) : (alO S j).getD 0 = alS S j := by
  induction S with
  | nil => rfl
  | cons s r ih => unfold alO alS; split <;> simp [ih]
theorem alO_snoc (S : List Spr) (s : Spr) (j : Int) : alO (S ++ [s]) j = if (alO S j).isSome then alO S j else (if s.job = j then some (max s.left 0) else none) := by
  induction S with
  | nil => rfl
  | cons t r ih =>
    rw [List.cons_append]
    unfold alO
    by_cases h : t.job = j
    · simp [h]
    · rw [if_neg h, if_neg h]; exact ih
theorem alO_take {S : List Spr} {k : Nat} {s : Spr} (h : S[k]? = some s) (j : Int) : alO (S.take (k + 1)) j = if (alO (S.take k) j).isSome then alO (S.take k) j else (if s.job = j then some (max s.left 0) else none) := by
  rw [List.take_add_one, h, Option.toList_some, alO_snoc]
/-- The rooms' lines are rows that the calls have made. -/
def EachOwn (W : World) (B : Nat) (R : List Hst) : Prop := ∀ r ∈ R, OwnE encGst 35 W B (.slice r.A r.on.length r.c) r.on
theorem EachOwn.on {W W' : World} {B : Nat} {R : List Hst} (h : EachOwn W B R) (hb : Below W.heap.size W W') : EachOwn W' B R := fun r hr => (h r hr).on hb
theorem EachOwn.row {W W' : World} {B base : Nat} {R : List Hst} (h : EachOwn W B R) {v : Value} {L : List Hst} (hv : OwnE encHst 61 W base v L) (hg : W.grownBy W' v.ownBlock) : EachOwn W' B R := fun r hr =>
  (h r hr).same fun k hk => hg.block k ((h r hr).lt k hk).2 fun e => rows_apart hv (h r hr) (by decide) k e.symm hk
theorem EachOwn.put {W W' : World} {B mb : Nat} {R : List Hst} (h : EachOwn W B R) {T : List (Int × Int)} (hm : MapG Tryd.prog 3 (Lit.int .i64) i64 (Value.int .i64) W mb T) (hg : W.grownBy W' (some mb)) : EachOwn W' B R := fun r hr =>
  (h r hr).same fun k hk => hg.block k ((h r hr).lt k hk).2 fun e => own_neM (h r hr) hm (by rw [hk, e])
theorem Lined.nil (band : Int) : Lined band [] [] := ⟨rfl, fun i h r hh => by cases hh⟩
theorem Lined.snoc {band : Int} {H R : List Hst} (h : Lined band H R) {x y : Hst} (h1 : y.id = x.id) (h2 : y.left = x.left) (h3 : y.on.Perm (x.on.filter (candG band))) : Lined band (H ++ [x]) (R ++ [y]) := by
  refine ⟨by simp [h.1], fun i a b ha hb => ?_⟩
  rcases Nat.lt_or_ge i H.length with hi | hi
  · rw [List.getElem?_append_left hi] at ha
    rw [List.getElem?_append_left (by rw [h.1]; exact hi)] at hb
    exact h.2 i a b ha hb
  · rw [List.getElem?_append_right hi] at ha
    rw [List.getElem?_append_right (by rw [h.1]; exact hi), h.1] at hb
    obtain ⟨e, _⟩ := List.getElem?_eq_some_iff.1 ha
    simp only [List.length_cons, List.length_nil] at e
    rw [show i - H.length = 0 from by omega] at ha hb
    cases ha; cases hb
    exact ⟨h1, h2, h3⟩
set_option maxRecDepth 100000 in
set_option maxHeartbeats 12800000 in
theorem newPlan_c (A : Option Addr) (c : Nat) (H : List Hst) (band : Int) (As : Option Addr) (cs : Nat) (S : List Spr) (w : World) (h : HostsAt w A H) (hs : ReadsE encSpr w As S) (hsl : S.length ≤ 20) (hsj : ∀ s ∈ S, i64 s.job) :
    Calls Tryd.prog 11 #[.slice A H.length c, .int .i64 band, .slice As S.length cs] w fun e w' => ∃ (p : Nat) (A' : Option Addr) (c' : Nat) (R : List Hst) (mb : Nat) (T : List (Int × Int)), e = .returned (.pointer (some ⟨p, 0, none⟩)) ∧ PlanAt w' p w.heap.size (validH H) A' c' R mb T ∧ Lined band H R ∧ (∀ j, (look T j).getD 0 = alS S j) ∧ Below w.heap.size w w' := by
  obtain ⟨iR, hiR, hR0, hR1, hR2⟩ := info_parts Tryd.infoRm
  have hzI : ∀ W : World, (zeroValue 3).run Tryd.prog W = .ok (.int .i64 0) W := Tryd.zeroValue3
  have hmm := @run_makeMap Tryd.prog
  have HGO := Lib.hid (vgood_c A c H w h)
  generalize validH H = valid at *
  have HH := Lib.hid h
  have HS := Lib.hid hs
  have HSJ := Lib.hid hsj
  have HIR := Lib.hid hiR
  have hl10 := h.all
  clear h hs hsj hiR
  go_enter Tryd.func11, Tryd.ntmps11
  go_upto_region 1 with fail
  go_wp2_with fail
  refine HGO.out.mono ?_
  rintro e w1 ⟨rfl, b1⟩
  obtain ⟨mb, hmb⟩ : ∃ mb, w1.heap.size = mb := ⟨_, rfl⟩
  obtain ⟨p, hp⟩ : ∃ p, w1.heap.size + 1 = p := ⟨_, rfl⟩
  obtain ⟨W1, hW1⟩ : ∃ W1, (w1.alloc (.map #[] 0)).alloc (.cells #[.bool valid, .slice none 0 0, .map (some mb)] 59) = W1 := ⟨_, rfl⟩
  have hb1 : Below w1.heap.size w1 W1 := by rw [← hW1]; exact ((Below.refl _ _).alloc (Nat.le_refl _) _).alloc (by simp) _
  have hxp : W1.heap[p]? = some (.cells #[.bool valid, .slice none 0 0, .map (some mb)] 59 (0, 0)) := by rw [← hW1, ← hp]; exact heap_at_newV (by simp) _
  have hm1 : MapG Tryd.prog 3 (Lit.int .i64) i64 (Value.int .i64) W1 mb [] := by
    rw [← hW1, ← hmb]
    exact (MapG.made Tryd.prog 3 (Lit.int .i64) i64 (Value.int .i64) w1).on (w' := (w1.alloc (.map #[] 0)).alloc _) ((Below.refl _ _).alloc (Nat.le_refl _) _) (Nat.le_refl _)
  have ST1 : Hid (PlanB W1 p w.heap.size valid none 0 [] mb []) := Lib.hid ⟨hxp, OwnE.nil .., hm1, by have := b1.size; omega⟩
  have HB1 : Hid (Below w.heap.size w W1) := Lib.hid (b1.trans (hb1.mono b1.size))
  have HPB : Hid (w.heap.size ≤ p) := Lib.hid (by have := b1.size; omega)
  have HW1 := Lib.hid hW1
  have HMB := Lib.hid hmb
  have HP := Lib.hid hp
  clear hW1 hmb hp hb1 hxp hm1 b1 HGO
  go_upto_region 2 with fail
  rw [HP.out, HMB.out, HW1.out]
  go_upto_region 3 with fail
  go_loopg [21] H.length (fun gk s21 wr => ∃ (k : Nat) (R : List Hst) (A' : Option Addr) (c' : Nat), s21 = .int .i64 k ∧ k ≤ H.length ∧ H.length - k ≤ gk ∧ Aside (PlanB wr p w.heap.size valid A' c' R mb [] ∧ EachOwn wr w.heap.size R ∧ Lined band (H.take k) R ∧ Below w.heap.size w wr))
  case atStart => exact ⟨0, [], none, 0, rfl, Nat.zero_le _, Nat.le_refl _, ST1.out, (fun r hr => absurd hr (by simp)), Lined.nil _, HB1.out⟩
  case round =>
    obtain ⟨k, R, A', c', rfl, hk, hgk, IN⟩ := hrel
    have HPL := Lib.hid IN.out.1
    have HEA := Lib.hid IN.out.2.1
    have HLI := Lib.hid IN.out.2.2.1
    have HB := Lib.hid IN.out.2.2.2
    clear IN
    by_cases hlt : k < H.length
    · obtain ⟨x, hx⟩ : ∃ x, H[k]? = some x := ⟨_, List.getElem?_eq_getElem hlt⟩
      obtain ⟨ad, q, rfl, had, hq, hc⟩ := HH.out.row k x hx
      have hxm : x ∈ H := List.mem_of_getElem? hx
      have hltz : (k : Int) < (H.length : Int) := by omega
      have v0 := (HB.out.cell (p := q) hq).trans ((congrArg w.cell? (add_zeroE q).symm).trans (hc 0 _ rfl))
      have v1 := (HB.out.cell (p := ⟨q.block, q.off + 1, none⟩) hq).trans (hc 1 _ rfl)
      have v2 := (HB.out.cell (p := ⟨q.block, q.off + 2, none⟩) hq).trans (hc 2 _ rfl)
      have v3 := (HB.out.cell (p := ⟨q.block, q.off + 3, none⟩) hq).trans (hc 3 _ rfl)
      have v4 := (HB.out.cell (p := ⟨q.block, q.off + 4, none⟩) hq).trans (hc 4 _ rfl)
      have v5 := (HB.out.cell (p := ⟨q.block, q.off + 5, none⟩) hq).trans (hc 5 _ rfl)
      have hpl : q.block < wr.heap.size := Nat.lt_of_lt_of_le hq HB.out.size
      have HTK : Hid (H.take (k + 1) = H.take k ++ [x]) := Lib.hid (by rw [List.take_add_one, hx, Option.toList_some])
      have HRL : Hid (R.length ≤ 10) := Lib.hid (by rw [HLI.out.1, List.length_take]; omega)
      obtain ⟨gh, hgh⟩ : ∃ gh, wr.heap.size = gh := ⟨_, rfl⟩
      obtain ⟨W2, hW2⟩ : ∃ W2, wr.alloc (.cells #[.int .i64 x.id, .int .i64 x.left.a, .int .i64 x.left.b, .int .i64 x.left.c, .int .i64 x.left.d, .slice x.A x.on.length x.c] 31) = W2 := ⟨_, rfl⟩
      have hb2 : Below wr.heap.size wr W2 := by rw [← hW2]; exact (Below.refl _ _).alloc (Nat.le_refl _) _
      have hxh : W2.heap[gh]? = some (.cells #[.int .i64 x.id, .int .i64 x.left.a, .int .i64 x.left.b, .int .i64 x.left.c, .int .i64 x.left.d, .slice x.A x.on.length x.c] 31 (0, 0)) := by rw [← hW2, ← hgh]; exact heap_alloc_new _ _
      have HP2 := Lib.hid (HPL.out.on hb2)
      have HE2 := Lib.hid (HEA.out.on hb2)
      have HB2 : Hid (Below w.heap.size w W2) := Lib.hid (HB.out.trans (hb2.mono HB.out.size))
      have HLN : Hid (∀ W, Below w.heap.size w W → Calls Tryd.prog 10 #[.agg #[.int .i64 x.id, .int .i64 x.left.a, .int .i64 x.left.b, .int .i64 x.left.c, .int .i64 x.left.d, .slice x.A x.on.length x.c], .int .i64 band] W fun e w' => ∃ (A : Option Addr) (c : Nat) (M : List Gst), e = .returned (.slice A M.length c) ∧ M.Perm (x.on.filter (candG band)) ∧ OwnE encGst 35 w' W.heap.size (.slice A M.length c) M ∧ Below W.heap.size W w') := Lib.hid fun W hb => line_c x band W ((HH.out.each x hxm).on hb) (HH.out.few x hxm)
      have HXH := Lib.hid hxh
      have HW2 := Lib.hid hW2
      have HGH := Lib.hid hgh
      obtain ⟨id, l, on, Ah, ch⟩ := x
      simp only at HLN
      clear hx hq hc hxm hgh hW2 hb2 hxh
      go_upto_region 5 with fail
      rw [HW2.out, HGH.out]
      clear v0 v1 v2 v3 v4 v5 had hpl
      refine wp_region_last (z := 17) (S := fun W => W.heap[p]? = some (.cells #[.bool valid, .slice A' R.length c', .map (some mb)] 59 (0, 0)) ∧ W.heap[gh]? = some (.cells #[.int .i64 id, .int .i64 l.a, .int .i64 l.b, .int .i64 l.c, .int .i64 l.d, .slice Ah on.length ch] 31 (0, 0)) ∧ Below w.heap.size w W) (by kernel_rfl) ⟨HP2.out.box, HXH.out, HB2.out.drew⟩ (fun hHeld => ?_)
      refine rgl_take 0 (some 25) _ (by kernel_rfl) (by kernel_rfl) (by kernel_rfl) (by kernel_rfl) (fun _ _ _ h => h) (by kernel_rfl) (by kernel_rfl) (by intro w' hSw op_ ho; simp only [List.getElem?_toArray, List.getElem?_cons_zero, Option.some.injEq] at ho; subst ho; go_simp; with_reducible rfl) (by assumption) ?_
      try simp only [Act.put, List.setIfInBounds_toArray, List.set_cons_zero, List.set_cons_succ]
      refine rgl_take 1 (some 26) _ (by kernel_rfl) (by kernel_rfl) (by kernel_rfl) (by kernel_rfl) (fun _ _ _ h => h) (by kernel_rfl) (by kernel_rfl) (by intro w' hSw op_ ho; simp only [List.getElem?_toArray, List.getElem?_cons_succ, List.getElem?_cons_zero, Option.some.injEq] at ho; subst ho; go_simp; with_reducible rfl) (by assumption) ?_
      try simp only [Act.put, List.setIfInBounds_toArray, List.set_cons_zero, List.set_cons_succ]
      refine rgl_take 2 (some 27) _ (by kernel_rfl) (by kernel_rfl) (by kernel_rfl) (by kernel_rfl) (fun _ _ _ h => h) (by kernel_rfl) (by kernel_rfl) (by intro w' hSw op_ ho; simp only [List.getElem?_toArray, List.getElem?_cons_succ, List.getElem?_cons_zero, Option.some.injEq] at ho; subst ho; go_simp; with_reducible rfl) (by assumption) ?_
      try simp only [Act.put, List.setIfInBounds_toArray, List.set_cons_zero, List.set_cons_succ]
      refine rgl_take 3 (some 28) _ (by kernel_rfl) (by kernel_rfl) (by kernel_rfl) (by kernel_rfl) (fun _ _ _ h => h) (by kernel_rfl) (by kernel_rfl) (by intro w' hSw op_ ho; simp only [List.getElem?_toArray, List.getElem?_cons_succ, List.getElem?_cons_zero, Option.some.injEq] at ho; subst ho; go_simp; with_reducible rfl) (by assumption) ?_
      try simp only [Act.put, List.setIfInBounds_toArray, List.set_cons_zero, List.set_cons_succ]
      refine rgl_take 4 (some 29) _ (by kernel_rfl) (by kernel_rfl) (by kernel_rfl) (by kernel_rfl) (fun _ _ _ h => h) (by kernel_rfl) (by kernel_rfl) (by intro w' hSw op_ ho; simp only [List.getElem?_toArray, List.getElem?_cons_succ, List.getElem?_cons_zero, Option.some.injEq] at ho; subst ho; have p1 := cell_of_heap hSw.1 1; go_simp; with_reducible rfl) (by assumption) ?_
      try simp only [Act.put, List.setIfInBounds_toArray, List.set_cons_zero, List.set_cons_succ]
      refine rgl_take 5 (some 30) _ (by kernel_rfl) (by kernel_rfl) (by kernel_rfl) (by kernel_rfl) (fun _ _ _ h => h) (by kernel_rfl) (by kernel_rfl) (by intro w' hSw op_ ho; simp only [List.getElem?_toArray, List.getElem?_cons_succ, List.getElem?_cons_zero, Option.some.injEq] at ho; subst ho; go_simp; with_reducible rfl) (by assumption) ?_
      try simp only [Act.put, List.setIfInBounds_toArray, List.set_cons_zero, List.set_cons_succ]
      refine rgl_take 6 (some 31) _ (by kernel_rfl) (by kernel_rfl) (by kernel_rfl) (by kernel_rfl) (fun _ _ _ h => h) (by kernel_rfl) (by kernel_rfl) (by intro w' hSw op_ ho; simp only [List.getElem?_toArray, List.getElem?_cons_succ, List.getElem?_cons_zero, Option.some.injEq] at ho; subst ho; have x0 := cell_of_heap hSw.2.1 0; have x1 := cell_of_heap hSw.2.1 1; have x2 := cell_of_heap hSw.2.1 2; have x3 := cell_of_heap hSw.2.1 3; have x4 := cell_of_heap hSw.2.1 4; have x5 := cell_of_heap hSw.2.1 5; go_simp; with_reducible rfl) (by assumption) ?_
      try simp only [Act.put, List.setIfInBounds_toArray, List.set_cons_zero, List.set_cons_succ]
      refine rgl_take 7 (some 32) _ (by kernel_rfl) (by kernel_rfl) (by kernel_rfl) (by kernel_rfl) (fun _ _ _ h => h) (by kernel_rfl) (by kernel_rfl) (by intro w' hSw op_ ho; simp only [List.getElem?_toArray, List.getElem?_cons_succ, List.getElem?_cons_zero, Option.some.injEq] at ho; subst ho; go_simp; with_reducible rfl) (by assumption) ?_
      try simp only [Act.put, List.setIfInBounds_toArray, List.set_cons_zero, List.set_cons_succ]
      refine rgl_take 8 (some 33) _ (by kernel_rfl) (by kernel_rfl) (by kernel_rfl) (by kernel_rfl) (fun _ _ _ h => h) (by kernel_rfl) (by kernel_rfl) (by intro w' hSw op_ ho; simp only [List.getElem?_toArray, List.getElem?_cons_succ, List.getElem?_cons_zero, Option.some.injEq] at ho; subst ho; have x0 := cell_of_heap hSw.2.1 0; have x1 := cell_of_heap hSw.2.1 1; have x2 := cell_of_heap hSw.2.1 2; have x3 := cell_of_heap hSw.2.1 3; have x4 := cell_of_heap hSw.2.1 4; have x5 := cell_of_heap hSw.2.1 5; go_simp; with_reducible rfl) (by assumption) ?_
      try simp only [Act.put, List.setIfInBounds_toArray, List.set_cons_zero, List.set_cons_succ]
      refine rgl_take 9 (some 34) _ (by kernel_rfl) (by kernel_rfl) (by kernel_rfl) (by kernel_rfl) (fun _ _ _ h => h) (by kernel_rfl) (by kernel_rfl) (by intro w' hSw op_ ho; simp only [List.getElem?_toArray, List.getElem?_cons_succ, List.getElem?_cons_zero, Option.some.injEq] at ho; subst ho; have x0 := cell_of_heap hSw.2.1 0; have x1 := cell_of_heap hSw.2.1 1; have x2 := cell_of_heap hSw.2.1 2; have x3 := cell_of_heap hSw.2.1 3; have x4 := cell_of_heap hSw.2.1 4; have x5 := cell_of_heap hSw.2.1 5; go_simp; with_reducible rfl) (by assumption) ?_
      try simp only [Act.put, List.setIfInBounds_toArray, List.set_cons_zero, List.set_cons_succ]
      refine rgl_take 10 (some 35) _ (by kernel_rfl) (by kernel_rfl) (by kernel_rfl) (by kernel_rfl) (fun _ _ _ h => h) (by kernel_rfl) (by kernel_rfl) (by intro w' hSw op_ ho; simp only [List.getElem?_toArray, List.getElem?_cons_succ, List.getElem?_cons_zero, Option.some.injEq] at ho; subst ho; go_simp; with_reducible rfl) (by assumption) ?_
      try simp only [Act.put, List.setIfInBounds_toArray, List.set_cons_zero, List.set_cons_succ]
      refine rgl_one 11 (by kernel_rfl) (by kernel_rfl) (by decide) (fun op_ ho KK hK => ?_)
      simp only [List.getElem?_toArray, List.getElem?_cons_succ, List.getElem?_cons_zero, Option.some.injEq] at ho
      subst ho
      go_simp
      go_at_call 10
      refine (HLN.out _ hHeld.2.2).mono ?_
      rintro e w3 ⟨Al, cl, M, rfl, hpm, hom, b3⟩
      have HPM := Lib.hid hpm
      have HOM := Lib.hid hom
      have HB3 := Lib.hid b3
      have HS3 := Lib.hid (show w3.heap[p]? = some (.cells #[.bool valid, .slice A' R.length c', .map (some mb)] 59 (0, 0)) ∧ w3.heap[gh]? = some (.cells #[.int .i64 id, .int .i64 l.a, .int .i64 l.b, .int .i64 l.c, .int .i64 l.d, .slice Ah on.length ch] 31 (0, 0)) ∧ Below w.heap.size w w3 from ⟨(b3.block _ (lt_of_row hHeld.1)).trans hHeld.1, (b3.block _ (lt_of_row hHeld.2.1)).trans hHeld.2.1, hHeld.2.2.trans (b3.mono hHeld.2.2.size)⟩)
      clear hpm hom b3
      go_wp2_with fail
      refine hK.out _ _ HS3.out (fun hHeld => ?_)
      clear hK
      try simp only [Act.put, List.setIfInBounds_toArray, List.set_cons_zero, List.set_cons_succ]
      refine rgl_take 12 (some 37) _ (by kernel_rfl) (by kernel_rfl) (by kernel_rfl) (by kernel_rfl) (fun _ _ _ h => h) (by kernel_rfl) (by kernel_rfl) (by intro w' hSw op_ ho; simp only [List.getElem?_toArray, List.getElem?_cons_succ, List.getElem?_cons_zero, Option.some.injEq] at ho; subst ho; go_simp; with_reducible rfl) (by assumption) ?_
      try simp only [Act.put, List.setIfInBounds_toArray, List.set_cons_zero, List.set_cons_succ]
      refine rgl_one 13 (by kernel_rfl) (by kernel_rfl) (by decide) (fun op_ ho KK hK => ?_)
      simp only [List.getElem?_toArray, List.getElem?_cons_succ, List.getElem?_cons_zero, Option.some.injEq] at ho
      subst ho
      have hb4 : Below w3.heap.size w3 (w3.alloc (.cells #[.int .i64 id, .int .i64 l.a, .int .i64 l.b, .int .i64 l.c, .int .i64 l.d, .slice Al M.length cl] 61)) := (Below.refl _ _).alloc (Nat.le_refl _) _
      have HS4 := Lib.hid (show (w3.alloc (.cells #[.int .i64 id, .int .i64 l.a, .int .i64 l.b, .int .i64 l.c, .int .i64 l.d, .slice Al M.length cl] 61)).heap[p]? = some (.cells #[.bool valid, .slice A' R.length c', .map (some mb)] 59 (0, 0)) ∧ (w3.alloc (.cells #[.int .i64 id, .int .i64 l.a, .int .i64 l.b, .int .i64 l.c, .int .i64 l.d, .slice Al M.length cl] 61)).heap[gh]? = some (.cells #[.int .i64 id, .int .i64 l.a, .int .i64 l.b, .int .i64 l.c, .int .i64 l.d, .slice Ah on.length ch] 31 (0, 0)) ∧ Below w.heap.size w (w3.alloc (.cells #[.int .i64 id, .int .i64 l.a, .int .i64 l.b, .int .i64 l.c, .int .i64 l.d, .slice Al M.length cl] 61)) from ⟨(hb4.block _ (lt_of_row HS3.out.1)).trans HS3.out.1, (hb4.block _ (lt_of_row HS3.out.2.1)).trans HS3.out.2.1, HS3.out.2.2.trans (hb4.mono HS3.out.2.2.size)⟩)
      have HB4 := Lib.hid hb4
      clear hb4
      go_simp
      go_wp2_with fail
      refine hK.out _ _ HS4.out (fun hHeld => ?_)
      clear hK
      try simp only [Act.put, List.setIfInBounds_toArray, List.set_cons_zero, List.set_cons_succ]
      refine rgl_one 14 (by kernel_rfl) (by kernel_rfl) (by decide) (fun op_ ho KK hK => ?_)
      simp only [List.getElem?_toArray, List.getElem?_cons_succ, List.getElem?_cons_zero, Option.some.injEq] at ho
      subst ho
      have A1 : Hid (OwnE encHst 61 (w3.alloc (.cells #[.int .i64 id, .int .i64 l.a, .int .i64 l.b, .int .i64 l.c, .int .i64 l.d, .slice Al M.length cl] 61)) w.heap.size (.slice A' R.length c') R) := Lib.hid (((HP2.out.own.on ((Below.refl _ _).drew)).on HB3.out).on HB4.out)
      have A2 : Hid (LiesE encHst (w3.alloc (.cells #[.int .i64 id, .int .i64 l.a, .int .i64 l.b, .int .i64 l.c, .int .i64 l.d, .slice Al M.length cl] 61)) (.slice (some ⟨w3.heap.size, 0, none⟩) 1 1) [⟨id, l, M, Al, cl⟩]) := Lib.hid (by have h := heap_alloc_new w3 (.cells #[.int .i64 id, .int .i64 l.a, .int .i64 l.b, .int .i64 l.c, .int .i64 l.d, .slice Al M.length cl] 61); exact lies_lit encHst [⟨id, l, M, Al, cl⟩] h)
      have A3 : Hid (R.length + [(⟨id, l, M, Al, cl⟩ : Hst)].length ≤ maxLen) := by have := HRL.out; simp only [Hid, List.length_cons, List.length_nil, maxLen]; omega
      have A4 : Hid ((R.length + [(⟨id, l, M, Al, cl⟩ : Hst)].length) * 64 ≤ 140737488355328) := by have := HRL.out; simp only [Hid, List.length_cons, List.length_nil]; omega
      have A5 : Hid (w.heap.size ≤ (w3.alloc (.cells #[.int .i64 id, .int .i64 l.a, .int .i64 l.b, .int .i64 l.c, .int .i64 l.d, .slice Al M.length cl] 61)).heap.size) := Lib.hid HS4.out.2.2.size
      refine step_append_L rfl (.tmp 29) (.tmp 38) _ rfl iR _ 64 Tryd.underlying57 HIR.out hR0 hR1 hR2 rfl (by decide) (v := .slice A' R.length c') (by go_simp) A1.out (y := .slice (some ⟨w3.heap.size, 0, none⟩) 1 1) (by go_simp) A2.out A3.out A4.out A5.out ?_
      intro v5 w5 hv5 hg5 hor5
      obtain ⟨A5', c5', rfl⟩ := hv5.form
      have HV5 := Lib.hid hv5
      have HG5 := Lib.hid hg5
      have HS5 := Lib.hid (show w5.heap[p]? = some (.cells #[.bool valid, .slice A' R.length c', .map (some mb)] 59 (0, 0)) ∧ w5.heap[gh]? = some (.cells #[.int .i64 id, .int .i64 l.a, .int .i64 l.b, .int .i64 l.c, .int .i64 l.d, .slice Ah on.length ch] 31 (0, 0)) ∧ Below w.heap.size w w5 from ⟨(hg5.block _ (lt_of_row HS4.out.1) (Ne.symm (own_ne A1.out HS4.out.1 (by decide)))).trans HS4.out.1, (hg5.block _ (lt_of_row HS4.out.2.1) (Ne.symm (own_ne A1.out HS4.out.2.1 (by decide)))).trans HS4.out.2.1, HS4.out.2.2.grown hg5 HS4.out.2.2.size fun j hj => (A1.out.lt j hj).1⟩)
      clear hv5 hg5 hor5
      refine hK.out _ _ HS5.out (fun hHeld => ?_)
      clear hK
      try simp only [Act.put, List.setIfInBounds_toArray, List.set_cons_zero, List.set_cons_succ]
      refine rgl_one 15 (by kernel_rfl) (by kernel_rfl) (by decide) (fun op_ ho KK hK => ?_)
      simp only [List.getElem?_toArray, List.getElem?_cons_succ, List.getElem?_cons_zero, Option.some.injEq] at ho
      subst ho
      go_simp
      refine hK.out _ _ (by assumption) (fun hHeld => ?_)
      clear hK
      try simp only [Act.put, List.setIfInBounds_toArray, List.set_cons_zero, List.set_cons_succ]
      refine rgl_take 16 (some 41) _ (by kernel_rfl) (by kernel_rfl) (by kernel_rfl) (by kernel_rfl) (fun _ _ _ h => h) (by kernel_rfl) (by kernel_rfl) (by intro w' hSw op_ ho; simp only [List.getElem?_toArray, List.getElem?_cons_succ, List.getElem?_cons_zero, Option.some.injEq] at ho; subst ho; go_simp; with_reducible rfl) (by assumption) ?_
      try simp only [Act.put, List.setIfInBounds_toArray, List.set_cons_zero, List.set_cons_succ]
      refine rgl_last (by kernel_rfl) (by kernel_rfl) (by kernel_rfl) (fun op_ ho KK hK => ?_)
      simp only [List.getElem?_toArray, List.getElem?_cons_succ, List.getElem?_cons_zero, Option.some.injEq] at ho
      subst ho
      have sf := frozen_of_row _ _ 1 _ _ hHeld.1
      have s1 := cell_of_heap hHeld.1 1
      simp at s1
      have sl := lt_of_row hHeld.1
      go_simp
      clear sf s1 sl
      refine hK.out _ _ ?_
      clear hK
      try simp only [Act.put, List.setIfInBounds_toArray, List.set_cons_zero, List.set_cons_succ]
      have hlen : (R ++ [(⟨id, l, M, Al, cl⟩ : Hst)]).length = R.length + 1 := by simp
      have HST : Hid (PlanB (w5.setCell ⟨p, 1, none⟩ (.slice A5' (R.length + 1) c5')) p w.heap.size valid A5' c5' (R ++ [(⟨id, l, M, Al, cl⟩ : Hst)]) mb []) := Lib.hid (by
        have hm := (((HP2.out.map.on ((Below.refl _ _).drew) (Nat.le_refl _)).on HB3.out (Nat.le_refl _)).on HB4.out (Nat.le_refl _)).same (HG5.out.block _ ((((HP2.out.map.on ((Below.refl _ _).drew) (Nat.le_refl _)).on HB3.out (Nat.le_refl _)).on HB4.out (Nat.le_refl _)).lt) (Ne.symm (own_neM A1.out (((HP2.out.map.on ((Below.refl _ _).drew) (Nat.le_refl _)).on HB3.out (Nat.le_refl _)).on HB4.out (Nat.le_refl _)))))
        refine ⟨?_, HV5.out.same fun j hj => heap_setCell_other _ ⟨p, 1, none⟩ j _ fun (e : j = p) => own_ne HV5.out HS5.out.1 (by decide) (e ▸ hj), hm.same (heap_setCell_other _ ⟨p, 1, none⟩ mb _ fun e => map_ne hm HS5.out.1 e.symm), HP2.out.mB⟩
        rw [heap_setCell_same _ _ 1 _ _ _ HS5.out.1, hlen]
        simp)
      have HEE : Hid (EachOwn (w5.setCell ⟨p, 1, none⟩ (.slice A5' (R.length + 1) c5')) w.heap.size (R ++ [(⟨id, l, M, Al, cl⟩ : Hst)])) := Lib.hid (by
        have he : EachOwn (w3.alloc (.cells #[.int .i64 id, .int .i64 l.a, .int .i64 l.b, .int .i64 l.c, .int .i64 l.d, .slice Al M.length cl] 61)) w.heap.size (R ++ [(⟨id, l, M, Al, cl⟩ : Hst)]) := by
          intro r hr
          rcases List.mem_append.1 hr with h1 | h1
          · exact (((HE2.out.on ((Below.refl _ _).drew)).on HB3.out).on HB4.out) r h1
          · rw [List.mem_singleton] at h1
            subst h1
            exact (HOM.out.base HB2.out.size).on HB4.out
        have h5 := he.row A1.out HG5.out
        exact fun r hr => (h5 r hr).same fun j hj => heap_setCell_other _ ⟨p, 1, none⟩ j _ fun (e : j = p) => own_ne (h5 r hr) HS5.out.1 (by decide) (e ▸ hj))
      have HBE : Hid (Below w.heap.size w (w5.setCell ⟨p, 1, none⟩ (.slice A5' (R.length + 1) c5'))) := Lib.hid (HS5.out.2.2.setCell (p := ⟨p, 1, none⟩) HPB.out _)
      clear hHeld
      go_wp2_with fail
      go_roundg (H.length - (k + 1))
      case measure => omega
      case rel => exact ⟨k + 1, _, A5', c5', by go_num, by omega, Nat.le_refl _, HST.out, HEE.out, by rw [HTK.out]; exact HLI.out.snoc rfl rfl HPM.out, HBE.out⟩
    · obtain rfl : k = H.length := by omega
      have hz1 : ¬ (H.length : Int) < (H.length : Int) := by omega
      rw [List.take_length] at HLI
      go_upto_region 8 with fail
      go_loopg [45] S.length (fun gk s45 W => ∃ (j : Nat) (T : List (Int × Int)), s45 = .int .i64 j ∧ j ≤ S.length ∧ S.length - j ≤ gk ∧ Aside (PlanB W p w.heap.size valid A' c' R mb T ∧ EachOwn W w.heap.size R ∧ (∀ i, look T i = alO (S.take j) i) ∧ Below w.heap.size w W ∧ T.length ≤ j))
      case atStart => exact ⟨0, [], rfl, Nat.zero_le _, Nat.le_refl _, HPL.out, HEA.out, fun _ => rfl, HB.out, Nat.le_refl _⟩
      case round =>
        obtain ⟨j, T, rfl, hj, hgj, IN⟩ := hrel
        have HQ := Lib.hid IN.out.1
        have HE := Lib.hid IN.out.2.1
        have HT := Lib.hid IN.out.2.2.1
        have HC := Lib.hid IN.out.2.2.2.1
        have HTL := Lib.hid IN.out.2.2.2.2
        clear IN
        clear HPL HEA
        by_cases hlt2 : j < S.length
        · obtain ⟨y, hy⟩ : ∃ y, S[j]? = some y := ⟨_, List.getElem?_eq_getElem hlt2⟩
          obtain ⟨ad2, q2, rfl, had2, hq2, hc2⟩ := HS.out j y hy
          have hltz2 : (j : Int) < (S.length : Int) := by omega
          have HYJ := Lib.hid (HSJ.out y (List.mem_of_getElem? hy))
          have v0 := (HC.out.cell (p := q2) hq2).trans ((congrArg w.cell? (add_zeroE q2).symm).trans (hc2 0 _ rfl))
          have v1 := (HC.out.cell (p := ⟨q2.block, q2.off + 1, none⟩) hq2).trans (hc2 1 _ rfl)
          have hpl2 : q2.block < wr.heap.size := Nat.lt_of_lt_of_le hq2 HC.out.size
          have HX := Lib.hid (fun i => alO_take hy i)
          obtain ⟨job, left⟩ := y
          simp only at HYJ HX
          have qm : ∀ (ts : Array TypeId) (t : TypeId) (W : World), (Builtin.max_ ts t #[.int .i64 left, .int .i64 0]).run Tryd.prog W = .ok (.int .i64 (max left 0)) W := fun _ _ _ => (run_max_int2 _ _ _ _ _ _ _).trans (by congr 2; simp only [Int.max_def]; split <;> split <;> omega)
          obtain ⟨gs, hgs⟩ : ∃ gs, wr.heap.size = gs := ⟨_, rfl⟩
          obtain ⟨W2, hW2⟩ : ∃ W2, wr.alloc (.cells #[.int .i64 job, .int .i64 left] 45) = W2 := ⟨_, rfl⟩
          have hb2 : Below wr.heap.size wr W2 := by rw [← hW2]; exact (Below.refl _ _).alloc (Nat.le_refl _) _
          have hxs : W2.heap[gs]? = some (.cells #[.int .i64 job, .int .i64 left] 45 (0, 0)) := by rw [← hW2, ← hgs]; exact heap_alloc_new _ _
          have HQ2 := Lib.hid (HQ.out.on hb2)
          have HE2 := Lib.hid (HE.out.on hb2)
          have HC2 : Hid (Below w.heap.size w W2) := Lib.hid (HC.out.trans (hb2.mono HC.out.size))
          have HXS := Lib.hid hxs
          have HW2 := Lib.hid hW2
          have HGS := Lib.hid hgs
          have HML : Hid (T.length < maxLen) := by have := HTL.out; simp only [Hid, maxLen]; omega
          obtain ⟨o, ho⟩ : ∃ o, look T job = o := ⟨_, rfl⟩
          have HO := Lib.hid ho
          clear hy hq2 hc2 hgs hW2 hb2 hxs ho
          go_upto_region 10 with fail
          rw [HW2.out, HGS.out]
          clear v0 v1 had2 hpl2
          obtain ⟨p0, p1, p2, pl⟩ := HQ2.out.cells
          have x0 := cell_of_heap HXS.out 0
          have x1 := cell_of_heap HXS.out 1
          simp at x0 x1
          obtain ⟨vo, hvo⟩ : ∃ vo, Value.int .i64 (o.getD 0) = vo := ⟨_, rfl⟩
          obtain ⟨oi, hoi⟩ : ∃ oi, o.isSome = oi := ⟨_, rfl⟩
          have HLK : Hid ((Instr.lookup 56 (.map (some mb)) (.int .i64 job) true).run Tryd.prog W2.drew = .ok (.tuple #[vo, .bool oi]) W2.drew) := Lib.hid (by
            rw [← hvo, ← hoi, ← HO.out]
            exact run_lookG_ok kitI Tryd.underlying56 (enc := Value.int .i64) (z := 0) (hzI _) (HQ2.out.map.on ((Below.refl _ _).drew) (Nat.le_refl _)) HYJ.out)
          have HOI := Lib.hid hoi
          clear hvo hoi
          refine wp_region_held_drew (S := fun W => W = W2.drew) (by kernel_rfl) rfl (fun hHeld => ?_)
          refine rg_take 0 (some 50) _ (by kernel_rfl) (by kernel_rfl) (by kernel_rfl) (fun _ _ _ h => h) (by kernel_rfl) (by kernel_rfl) (by intro w' hSw op_ ho; simp only [List.getElem?_toArray, List.getElem?_cons_zero, Option.some.injEq] at ho; subst ho; subst hSw; go_simp; with_reducible rfl) (by assumption) ?_
          try simp only [Act.put, List.setIfInBounds_toArray, List.set_cons_zero, List.set_cons_succ]
          refine rg_take 1 (some 51) _ (by kernel_rfl) (by kernel_rfl) (by kernel_rfl) (fun _ _ _ h => h) (by kernel_rfl) (by kernel_rfl) (by intro w' hSw op_ ho; simp only [List.getElem?_toArray, List.getElem?_cons_succ, List.getElem?_cons_zero, Option.some.injEq] at ho; subst ho; subst hSw; go_simp; with_reducible rfl) (by assumption) ?_
          try simp only [Act.put, List.setIfInBounds_toArray, List.set_cons_zero, List.set_cons_succ]
          refine rg_take 2 (some 52) _ (by kernel_rfl) (by kernel_rfl) (by kernel_rfl) (fun _ _ _ h => h) (by kernel_rfl) (by kernel_rfl) (by intro w' hSw op_ ho; simp only [List.getElem?_toArray, List.getElem?_cons_succ, List.getElem?_cons_zero, Option.some.injEq] at ho; subst ho; subst hSw; go_simp; with_reducible rfl) (by assumption) ?_
          try simp only [Act.put, List.setIfInBounds_toArray, List.set_cons_zero, List.set_cons_succ]
          refine rg_take 3 (some 53) _ (by kernel_rfl) (by kernel_rfl) (by kernel_rfl) (fun _ _ _ h => h) (by kernel_rfl) (by kernel_rfl) (by intro w' hSw op_ ho; simp only [List.getElem?_toArray, List.getElem?_cons_succ, List.getElem?_cons_zero, Option.some.injEq] at ho; subst ho; subst hSw; go_simp; with_reducible rfl) (by assumption) ?_
          try simp only [Act.put, List.setIfInBounds_toArray, List.set_cons_zero, List.set_cons_succ]
          refine rg_take 4 (some 54) _ (by kernel_rfl) (by kernel_rfl) (by kernel_rfl) (fun _ _ _ h => h) (by kernel_rfl) (by kernel_rfl) (by intro w' hSw op_ ho; simp only [List.getElem?_toArray, List.getElem?_cons_succ, List.getElem?_cons_zero, Option.some.injEq] at ho; subst ho; subst hSw; go_simp; with_reducible rfl) (by assumption) ?_
          try simp only [Act.put, List.setIfInBounds_toArray, List.set_cons_zero, List.set_cons_succ]
          refine rg_take 5 (some 55) _ (by kernel_rfl) (by kernel_rfl) (by kernel_rfl) (fun _ _ _ h => h) (by kernel_rfl) (by kernel_rfl) (by intro w' hSw op_ ho; simp only [List.getElem?_toArray, List.getElem?_cons_succ, List.getElem?_cons_zero, Option.some.injEq] at ho; subst ho; subst hSw; go_simp; with_reducible rfl) (by assumption) ?_
          try simp only [Act.put, List.setIfInBounds_toArray, List.set_cons_zero, List.set_cons_succ]
          refine rg_take 6 (some 56) _ (by kernel_rfl) (by kernel_rfl) (by kernel_rfl) (fun _ _ _ h => h) (by kernel_rfl) (by kernel_rfl) (by intro w' hSw op_ ho; simp only [List.getElem?_toArray, List.getElem?_cons_succ, List.getElem?_cons_zero, Option.some.injEq] at ho; subst ho; subst hSw; have ek := HLK.out; go_simp; with_reducible rfl) (by assumption) ?_
          try simp only [Act.put, List.setIfInBounds_toArray, List.set_cons_zero, List.set_cons_succ]
          refine rg_take 7 (some 49) _ (by kernel_rfl) (by kernel_rfl) (by kernel_rfl) (fun _ _ _ h => h) (by kernel_rfl) (by kernel_rfl) (by intro w' hSw op_ ho; simp only [List.getElem?_toArray, List.getElem?_cons_succ, List.getElem?_cons_zero, Option.some.injEq] at ho; subst ho; subst hSw; go_simp; with_reducible rfl) (by assumption) ?_
          try simp only [Act.put, List.setIfInBounds_toArray, List.set_cons_zero, List.set_cons_succ]
          refine rg_take 8 (some 57) _ (by kernel_rfl) (by kernel_rfl) (by kernel_rfl) (fun _ _ _ h => h) (by kernel_rfl) (by kernel_rfl) (by intro w' hSw op_ ho; simp only [List.getElem?_toArray, List.getElem?_cons_succ, List.getElem?_cons_zero, Option.some.injEq] at ho; subst ho; subst hSw; go_simp; with_reducible rfl) (by assumption) ?_
          try simp only [Act.put, List.setIfInBounds_toArray, List.set_cons_zero, List.set_cons_succ]
          refine rg_take 9 (some 58) _ (by kernel_rfl) (by kernel_rfl) (by kernel_rfl) (fun _ _ _ h => h) (by kernel_rfl) (by kernel_rfl) (by intro w' hSw op_ ho; simp only [List.getElem?_toArray, List.getElem?_cons_succ, List.getElem?_cons_zero, Option.some.injEq] at ho; subst ho; subst hSw; go_simp; with_reducible rfl) (by assumption) ?_
          try simp only [Act.put, List.setIfInBounds_toArray, List.set_cons_zero, List.set_cons_succ]
          refine rg_take 10 (some 12) _ (by kernel_rfl) (by kernel_rfl) (by kernel_rfl) (fun _ _ _ h => h) (by kernel_rfl) (by kernel_rfl) (by intro w' hSw op_ ho; simp only [List.getElem?_toArray, List.getElem?_cons_succ, List.getElem?_cons_zero, Option.some.injEq] at ho; subst ho; subst hSw; go_simp; with_reducible rfl) (by assumption) ?_
          try simp only [Act.put, List.setIfInBounds_toArray, List.set_cons_zero, List.set_cons_succ]
          refine rg_take 11 (some 13) _ (by kernel_rfl) (by kernel_rfl) (by kernel_rfl) (fun _ _ _ h => h) (by kernel_rfl) (by kernel_rfl) (by intro w' hSw op_ ho; simp only [List.getElem?_toArray, List.getElem?_cons_succ, List.getElem?_cons_zero, Option.some.injEq] at ho; subst ho; subst hSw; go_simp; with_reducible rfl) (by assumption) ?_
          try simp only [Act.put, List.setIfInBounds_toArray, List.set_cons_zero, List.set_cons_succ]
          refine wpAnyH_done (by kernel_rfl) ?_ _
          clear hHeld
          have hHeld2 := (Below.refl W2.heap.size W2).drew
          cases oi with
          | true =>
            go_wp2_with fail
            go_roundg (S.length - (j + 1))
            case measure => omega
            case rel =>
              refine ⟨j + 1, T, by go_num, by omega, Nat.le_refl _, HQ2.out.on hHeld2, HE2.out.on hHeld2, fun i => ?_, HC2.out.drew, by have := HTL.out; omega⟩
              rw [HX.out i, ← HT.out i]
              by_cases e : job = i
              · subst e; rw [HO.out, if_pos HOI.out]
              · rw [if_neg e]; cases look T i <;> rfl
          | false =>
            go_upto_region 12 with fail
            have HQ3 := Lib.hid ((HQ2.out.on hHeld2).on ((Below.refl _ _).drew))
            have HE3 := Lib.hid ((HE2.out.on hHeld2).on ((Below.refl _ _).drew))
            obtain ⟨w3, hrun, hm3, hg3⟩ := run_putG kitI Tryd.underlying56 (enc := Value.int .i64) HQ3.out.map HML.out HYJ.out (max left 0)
            have HM3 := Lib.hid hm3
            have HG3 := Lib.hid hg3
            clear hm3 hg3
            refine wp_region_last (S := fun W => W = W2.drew.drew) (z := 9) (by kernel_rfl) rfl (fun hHeld => ?_)
            refine rgl_take 0 (some 61) _ (by kernel_rfl) (by kernel_rfl) (by kernel_rfl) (by kernel_rfl) (fun _ _ _ h => h) (by kernel_rfl) (by kernel_rfl) (by intro w' hSw op_ ho; simp only [List.getElem?_toArray, List.getElem?_cons_zero, Option.some.injEq] at ho; subst ho; subst hSw; go_simp; with_reducible rfl) (by assumption) ?_
            try simp only [Act.put, List.setIfInBounds_toArray, List.set_cons_zero, List.set_cons_succ]
            refine rgl_take 1 (some 62) _ (by kernel_rfl) (by kernel_rfl) (by kernel_rfl) (by kernel_rfl) (fun _ _ _ h => h) (by kernel_rfl) (by kernel_rfl) (by intro w' hSw op_ ho; simp only [List.getElem?_toArray, List.getElem?_cons_succ, List.getElem?_cons_zero, Option.some.injEq] at ho; subst ho; subst hSw; go_simp; with_reducible rfl) (by assumption) ?_
            try simp only [Act.put, List.setIfInBounds_toArray, List.set_cons_zero, List.set_cons_succ]
            refine rgl_take 2 (some 63) _ (by kernel_rfl) (by kernel_rfl) (by kernel_rfl) (by kernel_rfl) (fun _ _ _ h => h) (by kernel_rfl) (by kernel_rfl) (by intro w' hSw op_ ho; simp only [List.getElem?_toArray, List.getElem?_cons_succ, List.getElem?_cons_zero, Option.some.injEq] at ho; subst ho; subst hSw; go_simp; with_reducible rfl) (by assumption) ?_
            try simp only [Act.put, List.setIfInBounds_toArray, List.set_cons_zero, List.set_cons_succ]
            refine rgl_take 3 (some 64) _ (by kernel_rfl) (by kernel_rfl) (by kernel_rfl) (by kernel_rfl) (fun _ _ _ h => h) (by kernel_rfl) (by kernel_rfl) (by intro w' hSw op_ ho; simp only [List.getElem?_toArray, List.getElem?_cons_succ, List.getElem?_cons_zero, Option.some.injEq] at ho; subst ho; subst hSw; go_simp; with_reducible rfl) (by assumption) ?_
            try simp only [Act.put, List.setIfInBounds_toArray, List.set_cons_zero, List.set_cons_succ]
            refine rgl_take 4 (some 65) _ (by kernel_rfl) (by kernel_rfl) (by kernel_rfl) (by kernel_rfl) (fun _ _ _ h => h) (by kernel_rfl) (by kernel_rfl) (by intro w' hSw op_ ho; simp only [List.getElem?_toArray, List.getElem?_cons_succ, List.getElem?_cons_zero, Option.some.injEq] at ho; subst ho; subst hSw; go_simp; with_reducible rfl) (by assumption) ?_
            try simp only [Act.put, List.setIfInBounds_toArray, List.set_cons_zero, List.set_cons_succ]
            refine rgl_take 5 (some 66) _ (by kernel_rfl) (by kernel_rfl) (by kernel_rfl) (by kernel_rfl) (fun _ _ _ h => h) (by kernel_rfl) (by kernel_rfl) (by intro w' hSw op_ ho; simp only [List.getElem?_toArray, List.getElem?_cons_succ, List.getElem?_cons_zero, Option.some.injEq] at ho; subst ho; subst hSw; go_simp; with_reducible rfl) (by assumption) ?_
            try simp only [Act.put, List.setIfInBounds_toArray, List.set_cons_zero, List.set_cons_succ]
            refine rgl_take 6 (some 67) _ (by kernel_rfl) (by kernel_rfl) (by kernel_rfl) (by kernel_rfl) (fun _ _ _ h => h) (by kernel_rfl) (by kernel_rfl) (by intro w' hSw op_ ho; simp only [List.getElem?_toArray, List.getElem?_cons_succ, List.getElem?_cons_zero, Option.some.injEq] at ho; subst ho; subst hSw; go_simp; with_reducible rfl) (by assumption) ?_
            try simp only [Act.put, List.setIfInBounds_toArray, List.set_cons_zero, List.set_cons_succ]
            refine rgl_take 7 (some 68) _ (by kernel_rfl) (by kernel_rfl) (by kernel_rfl) (by kernel_rfl) (fun _ _ _ h => h) (by kernel_rfl) (by kernel_rfl) (by intro w' hSw op_ ho; simp only [List.getElem?_toArray, List.getElem?_cons_succ, List.getElem?_cons_zero, Option.some.injEq] at ho; subst ho; subst hSw; go_simp; with_reducible rfl) (by assumption) ?_
            try simp only [Act.put, List.setIfInBounds_toArray, List.set_cons_zero, List.set_cons_succ]
            refine rgl_take 8 (some 69) _ (by kernel_rfl) (by kernel_rfl) (by kernel_rfl) (by kernel_rfl) (fun _ _ _ h => h) (by kernel_rfl) (by kernel_rfl) (by intro w' hSw op_ ho; simp only [List.getElem?_toArray, List.getElem?_cons_succ, List.getElem?_cons_zero, Option.some.injEq] at ho; subst ho; subst hSw; go_simp; with_reducible rfl) (by assumption) ?_
            try simp only [Act.put, List.setIfInBounds_toArray, List.set_cons_zero, List.set_cons_succ]
            refine rgl_last (by kernel_rfl) (by kernel_rfl) (by kernel_rfl) (fun op_ ho KK hK => ?_)
            simp only [List.getElem?_toArray, List.getElem?_cons_succ, List.getElem?_cons_zero, Option.some.injEq] at ho
            subst ho
            go_simp
            refine hK.out _ _ ?_
            clear hK
            try simp only [Act.put, List.setIfInBounds_toArray, List.set_cons_zero, List.set_cons_succ]
            clear hHeld hrun p0 p1 p2 pl x0 x1 qm
            go_wp2_with fail
            go_roundg (S.length - (j + 1))
            case measure => omega
            case rel =>
              refine ⟨j + 1, enter T job (max left 0), by go_num, by omega, Nat.le_refl _, HQ3.out.put HM3.out HG3.out, HE3.out.put HQ3.out.map HG3.out, fun i => ?_, (HC2.out.drew.drew).grown HG3.out HC2.out.size fun k hk => by cases hk; exact HQ3.out.mB, ?_⟩
              · rw [look_enter, HX.out i, ← HT.out i]
                by_cases e : i = job
                · subst e; rw [HO.out]; simp [HOI.out]
                · rw [if_neg e]
                  have e' : ¬ job = i := fun h => e h.symm
                  cases look T i with
                  | none => simp [e']
                  | some v => simp
              · have h1 := enter_le T job (max left 0)
                have h2 := HTL.out
                omega
        · obtain rfl : j = S.length := by omega
          have hz2 : ¬ (S.length : Int) < (S.length : Int) := by omega
          rw [List.take_length] at HT
          go_wp2_with fail
          go_ret
          have hlie : HostsAt wr A' R := by
            refine ⟨own_reads HQ.out.own, fun r hr => own_reads (HE.out r hr), fun r hr => ?_, fun r hr g hg => ?_, fun r hr => ?_, by rw [HLI.out.1]; exact hl10⟩
            all_goals (obtain ⟨i, hi⟩ := List.getElem?_of_mem hr)
            all_goals (obtain ⟨x, hx⟩ : ∃ x, H[i]? = some x := ⟨_, List.getElem?_eq_getElem (by rw [← HLI.out.1]; exact (List.getElem?_eq_some_iff.1 hi).1)⟩)
            all_goals (obtain ⟨e1, e2, e3⟩ := HLI.out.2 i x r hx hi)
            · rw [e1]; exact HH.out.ids x (List.mem_of_getElem? hx)
            · exact HH.out.jobs x (List.mem_of_getElem? hx) g (List.mem_filter.1 (e3.mem_iff.1 hg)).1
            · rw [e3.length_eq]; exact Nat.le_trans (List.length_filter_le _ _) (HH.out.few x (List.mem_of_getElem? hx))
          exact ⟨p, rfl, A', c', R, mb, T, ⟨HQ.out.box, HQ.out.own, HQ.out.map, hlie, HPB.out, HQ.out.mB, by have := HTL.out; omega⟩, HLI.out, fun j => by rw [HT.out j, alO_getD], HC.out⟩
end Go.Proofs.YtlckofoabnnlhaaDoor
