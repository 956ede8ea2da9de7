/- The law VictimNone: where nobody may go it fits as it is, or nowhere. Condition: the sentinels lie as the program's text lays them. -/
import Derived.Test.YtlckofoabnnlhaaDoorViY
import Derived.Test.YtlckofoabnnlhaaDoorViWm
namespace Go.Proofs.YtlckofoabnnlhaaDoor
open Go Go.RowKit Go.Maps

theorem errV_pos {s : Nat → Addr} {k : Nat} (h : k ≠ 0) : ∃ v, errV s k = .iface 113 v := ⟨_, by unfold errV; rw [if_neg h]⟩
set_option maxRecDepth 100000 in
set_option maxHeartbeats 12800000 in
theorem victimNone_any (s : Nat → Addr) (A : Option Addr) (c : Nat) (H : List Hst) (x : V4) (band : Int) (w : World) (hs : Sent s w) (h : HostsIn w A H) (hl : H.length ≤ 9223372036854775807) (hn : ∀ h ∈ H, h.on.length ≤ 9223372036854775807) :
    Calls Tryd.prog 4 #[.slice A H.length c, .agg #[.int .i64 x.a, .int .i64 x.b, .int .i64 x.c, .int .i64 x.d], .int .i64 band] w fun e w' => e = .returned (.bool true) ∧ Below w.heap.size w w' := by
  obtain ⟨g4, hg4⟩ : ∃ g4, w.heap.size = g4 := ⟨_, rfl⟩
  obtain ⟨W1, hW1⟩ : ∃ W1, w.alloc (.cells #[.int .i64 x.a, .int .i64 x.b, .int .i64 x.c, .int .i64 x.d] 24) = W1 := ⟨_, rfl⟩
  have hb1 : Below w.heap.size w W1 := by rw [← hW1]; exact (Below.refl _ _).alloc (Nat.le_refl _) _
  have HX1 : Hid (W1.heap[g4]? = some (.cells #[.int .i64 x.a, .int .i64 x.b, .int .i64 x.c, .int .i64 x.d] 24 (0, 0))) := Lib.hid (by rw [← hW1, ← hg4]; exact heap_alloc_new _ _)
  have HS := Lib.hid hs
  have HH := Lib.hid h
  have HB1 := Lib.hid hb1
  have HAW := Lib.hid (awake20_c s W1 (hs.below hb1 (Nat.le_refl _)))
  have HGR : Hid (∀ W, Below w.heap.size w W → Calls Tryd.prog 6 #[.slice A H.length c] W fun e w' => e = .returned (.bool (greatH H)) ∧ Below W.heap.size W w') := Lib.hid fun W hb => great_c A c H W (h.on hb) hl hn
  have HW1 := Lib.hid hW1
  have HG := Lib.hid hg4
  clear hs h hb1 hW1 hg4 hn
  go_enter Tryd.func4, Tryd.ntmps4
  go_upto_region 1 with fail
  rw [HG.out, HW1.out]
  go_wp2_with fail
  refine HAW.out.mono ?_
  rintro e w2 ⟨rfl, b2⟩
  have HB2 : Hid (Below w.heap.size w w2) := Lib.hid (HB1.out.trans (b2.mono HB1.out.size))
  have HX2 := Lib.hid ((b2.block g4 (lt_of_row HX1.out)).trans HX1.out)
  clear b2
  go_wp2_with fail
  refine (HGR.out _ HB2.out).mono ?_
  rintro e w3 ⟨rfl, b3⟩
  have HB3 : Hid (Below w.heap.size w w3) := Lib.hid (HB2.out.trans (b3.mono HB2.out.size))
  have HX3 := Lib.hid ((b3.block g4 (lt_of_row HX2.out)).trans HX2.out)
  clear b3
  cases hgr : greatH H with
  | true =>
    go_wp2_with fail
    go_ret
    exact ⟨rfl, HB3.out⟩
  | false =>
    have HAT := Lib.hid (HH.out.at hgr)
    clear hgr hl
    have hl10 : H.length ≤ 10 := HAT.out.all
    go_upto_region 7 with fail
    go_loopg [7, 8] H.length (fun gk s7 s8 wr => ∃ (i : Nat) (m : Int), s8 = .int .i64 i ∧ s7 = .int .i64 m ∧ i ≤ H.length ∧ H.length - i ≤ gk ∧ Aside ((∀ h ∈ H.take i, ∀ g ∈ h.on, g.band ≤ m) ∧ Below w.heap.size w wr ∧ wr.heap[g4]? = some (.cells #[.int .i64 x.a, .int .i64 x.b, .int .i64 x.c, .int .i64 x.d] 24 (0, 0))))
    case atStart => exact ⟨0, band, rfl, rfl, Nat.zero_le _, Nat.le_refl _, (fun h hh => absurd hh (by simp)), HB3.out, HX3.out⟩
    case round =>
      obtain ⟨i, m, rfl, rfl, hi, hgi, IN⟩ := hrel
      have HM := Lib.hid IN.out.1
      clear HB3 HX3
      have HB3 := Lib.hid IN.out.2.1
      have HX3 := Lib.hid IN.out.2.2
      clear IN
      by_cases hlt : i < H.length
      · obtain ⟨y, hy⟩ : ∃ y, H[i]? = some y := ⟨_, List.getElem?_eq_getElem hlt⟩
        obtain ⟨ad, q, rfl, had, hq, hc⟩ := HH.out.row i y hy
        have hym : y ∈ H := List.mem_of_getElem? hy
        have hltz : (i : Int) < (H.length : Int) := by omega
        have hi0 : (0 : Int) ≤ (i : Int) := by omega
        have HTK : Hid (H.take (i + 1) = H.take i ++ [y]) := Lib.hid (by rw [List.take_add_one, hy, Option.toList_some])
        have HV5 : Hid (∀ W, Below w.heap.size w W → W.cell? ⟨q.block, q.off + 5, none⟩ = some (.slice y.A y.on.length y.c) ∧ q.block < W.heap.size) := Lib.hid fun W hW => ⟨(hW.cell (p := ⟨q.block, q.off + 5, none⟩) hq).trans (hc 5 _ rfl), Nat.lt_of_lt_of_le hq hW.size⟩
        have hyl := HAT.out.few y hym
        have HEY := Lib.hid (HH.out.each y hym)
        obtain ⟨id, l, on, A', c'⟩ := y
        simp only at hyl HEY HV5
        clear hy hq hc hym
        obtain ⟨v5, hpl⟩ := HV5.out _ HB3.out
        go_upto_region 10 with fail
        go_loopg [7, 9] on.length (fun gk s7 s9 wr => ∃ (k : Nat) (m' : Int), s9 = .int .i64 k ∧ s7 = .int .i64 m' ∧ k ≤ on.length ∧ on.length - k ≤ gk ∧ Aside (m ≤ m' ∧ (∀ g ∈ on.take k, g.band ≤ m') ∧ Below w.heap.size w wr ∧ wr.heap[g4]? = some (.cells #[.int .i64 x.a, .int .i64 x.b, .int .i64 x.c, .int .i64 x.d] 24 (0, 0))))
        case atStart => exact ⟨0, m, rfl, rfl, Nat.zero_le _, Nat.le_refl _, Int.le_refl _, (fun g hg => absurd hg (by simp)), HB3.out, HX3.out⟩
        case round =>
          obtain ⟨k, m', rfl, rfl, hk, hgk, IN⟩ := hrel
          have HM1 := Lib.hid IN.out.1
          have HM2 := Lib.hid IN.out.2.1
          clear HB3 HX3
          have HB3 := Lib.hid IN.out.2.2.1
          have HX3 := Lib.hid IN.out.2.2.2
          clear IN
          obtain ⟨v5, hpl⟩ := HV5.out _ HB3.out
          by_cases hlt2 : k < on.length
          · obtain ⟨g, hg⟩ : ∃ g, on[k]? = some g := ⟨_, List.getElem?_eq_getElem hlt2⟩
            obtain ⟨ad2, q2, rfl, had2, hq2, hc2⟩ := HEY.out k g hg
            have hltz2 : (k : Int) < (on.length : Int) := by omega
            have hk0 : (0 : Int) ≤ (k : Int) := by omega
            have HTK2 : Hid (on.take (k + 1) = on.take k ++ [g]) := Lib.hid (by rw [List.take_add_one, hg, Option.toList_some])
            have x2 := (HB3.out.cell (p := ⟨q2.block, q2.off + 2, none⟩) hq2).trans (hc2 2 _ rfl)
            have hpl2 : q2.block < wr.heap.size := Nat.lt_of_lt_of_le hq2 HB3.out.size
            have qm : ∀ (ts : Array TypeId) (t : TypeId) (W : World), (Builtin.max_ ts t #[.int .i64 m', .int .i64 g.band]).run Tryd.prog W = .ok (.int .i64 (max m' g.band)) W := fun _ _ _ => (run_max_int2 _ _ _ _ _ _ _).trans (by congr 2; simp only [Int.max_def]; split <;> split <;> omega)
            clear hg hq2 hc2
            go_wp2_with fail
            go_roundg (on.length - (k + 1))
            case measure => omega
            case rel =>
              refine ⟨k + 1, max m' g.band, by go_num, rfl, by omega, Nat.le_refl _, Int.le_trans HM1.out (Int.le_max_left ..), fun z hz => ?_, HB3.out, HX3.out⟩
              rw [HTK2.out] at hz
              rcases List.mem_append.1 hz with h1 | h1
              · exact Int.le_trans (HM2.out z h1) (Int.le_max_left ..)
              · rw [List.mem_singleton] at h1; subst h1; exact Int.le_max_right ..
          · obtain rfl : k = on.length := by omega
            have hz1 : ¬ (on.length : Int) < (on.length : Int) := by omega
            rw [List.take_length] at HM2
            go_wp2_with fail
            go_roundg (H.length - (i + 1))
            case measure => omega
            case rel =>
              refine ⟨i + 1, m', by go_num, rfl, by omega, Nat.le_refl _, fun z hz g hg => ?_, HB3.out, HX3.out⟩
              rw [HTK.out] at hz
              rcases List.mem_append.1 hz with h1 | h1
              · exact Int.le_trans (HM.out z h1 g hg) HM1.out
              · rw [List.mem_singleton] at h1; subst h1; exact HM2.out g hg
      · obtain rfl : i = H.length := by omega
        have hz1 : ¬ (H.length : Int) < (H.length : Int) := by omega
        rw [List.take_length] at HM
        have HEM : Hid (∀ h ∈ H, h.on.filter (candG m) = []) := Lib.hid fun h hh => by
          rw [List.filter_eq_nil_iff]
          intro g hg
          have := HM.out h hh g hg
          simp [candG]; omega
        have HPK : Hid (∀ W b, Below w.heap.size w W → Calls Tryd.prog 8 #[.slice A H.length c, .agg #[.int .i64 x.a, .int .i64 x.b, .int .i64 x.c, .int .i64 x.d], .int .i64 b, .slice none 0 0] W fun e w' => ∃ (host : Int) (out : List Gst) (er : Nat) (Bo : Option Addr) (cb : Nat), e = .returned (.tuple #[.agg #[.int .i64 host, .slice Bo out.length cb], errV s er]) ∧ PickR H x b [] host out er ∧ OwnE encTk 33 w' W.heap.size (.slice Bo out.length cb) (out.map (·.task)) ∧ Below W.heap.size W w') := Lib.hid fun W b hb => pick_c s A c H x b none 0 [] W (HS.out.below hb (Nat.le_refl _)) (HAT.out.on hb) (fun i x hx => by cases hx) (by simp) (fun y hy => by cases hy)
        have n0 := cell_of_heap HX3.out 0
        have n1 := cell_of_heap HX3.out 1
        have n2 := cell_of_heap HX3.out 2
        have n3 := cell_of_heap HX3.out 3
        simp at n0 n1 n2 n3
        have nl := lt_of_row HX3.out
        go_upto_region 13 with fail
        go_wp2_with fail
        refine (HPK.out _ m HB3.out).mono ?_
        rintro e w5 ⟨host, out, er, Bo, cb, rfl, hp, -, b5⟩
        obtain ⟨hp1, hp2⟩ := none_pick hp
        have hp11 := hp2 HEM.out
        obtain rfl := hp1.out
        have HP1 := Lib.hid hp1
        have HP11 := Lib.hid hp11
        clear n0 n1 n2 n3 nl hp hp1 hp2 hp11
        obtain ⟨g10, hg10⟩ : ∃ g, w5.heap.size = g := ⟨_, rfl⟩
        obtain ⟨W6, hW6⟩ : ∃ W, w5.alloc (.cells #[.int .i64 host, .slice Bo 0 cb] 38) = W := ⟨_, rfl⟩
        have hb6 : Below wr.heap.size wr W6 := by rw [← hW6]; exact b5.alloc b5.size _
        have HB6 : Hid (Below w.heap.size w W6) := Lib.hid (HB3.out.trans (hb6.mono HB3.out.size))
        have HX6 := Lib.hid ((hb6.block g4 (lt_of_row HX3.out)).trans HX3.out)
        have HC6 : Hid (W6.heap[g10]? = some (.cells #[.int .i64 host, .slice Bo 0 cb] 38 (0, 0))) := Lib.hid (by rw [← hW6, ← hg10]; exact heap_alloc_new _ _)
        have HG6 := Lib.hid (And.intro hg10 hW6)
        clear hg10 hW6 hb6 b5
        have n0 := cell_of_heap HX6.out 0
        have n1 := cell_of_heap HX6.out 1
        have n2 := cell_of_heap HX6.out 2
        have n3 := cell_of_heap HX6.out 3
        simp at n0 n1 n2 n3
        have nl := lt_of_row HX6.out
        rw [show (List.length ([] : List Gst)) = 0 from rfl]
        go_upto_region 14 with fail
        rw [HG6.out.1, HG6.out.2]
        go_wp2_with fail
        refine (HPK.out _ band HB6.out).mono ?_
        rintro e w7 ⟨host', out', er', Bo', cb', rfl, hp, -, b7⟩
        have hp1 := (none_pick hp).1
        obtain rfl := hp1.out
        have HP2 := Lib.hid hp1
        clear n0 n1 n2 n3 nl hp hp1
        obtain ⟨g12, hg12⟩ : ∃ g, w7.heap.size = g := ⟨_, rfl⟩
        obtain ⟨W9, hW9⟩ : ∃ W, w7.alloc (.cells #[.int .i64 host', .slice Bo' 0 cb'] 38) = W := ⟨_, rfl⟩
        have hb9 : Below W6.heap.size W6 W9 := by rw [← hW9]; exact b7.alloc b7.size _
        have HB9 : Hid (Below w.heap.size w W9) := Lib.hid (HB6.out.trans (hb9.mono HB6.out.size))
        have hc10 := (hb9.block g10 (lt_of_row HC6.out)).trans HC6.out
        have hc12 : W9.heap[g12]? = some (.cells #[.int .i64 host', .slice Bo' 0 cb'] 38 (0, 0)) := by rw [← hW9, ← hg12]; exact heap_alloc_new _ _
        have HC10 : Hid (∀ W, Below W9.heap.size W9 W → W.cell? ⟨g10, 0, none⟩ = some (.int .i64 host) ∧ W.cell? ⟨g10, 1, none⟩ = some (.slice Bo 0 cb)) := Lib.hid fun W hW => ⟨cell_of_heap ((hW.block g10 (lt_of_row hc10)).trans hc10) 0, cell_of_heap ((hW.block g10 (lt_of_row hc10)).trans hc10) 1⟩
        have HC12 : Hid (∀ W, Below W9.heap.size W9 W → W.cell? ⟨g12, 0, none⟩ = some (.int .i64 host') ∧ W.cell? ⟨g12, 1, none⟩ = some (.slice Bo' 0 cb')) := Lib.hid fun W hW => ⟨cell_of_heap ((hW.block g12 (lt_of_row hc12)).trans hc12) 0, cell_of_heap ((hW.block g12 (lt_of_row hc12)).trans hc12) 1⟩
        have HKD : Hid (∀ W, Below W9.heap.size W9 W → Calls Tryd.prog 9 #[errV s er] W fun e w' => e = .returned (.int .i64 er) ∧ Below W.heap.size W w') := Lib.hid fun W hW => kind_errV s er W (HS.out.below (HB9.out.trans (hW.mono HB9.out.size)) (Nat.le_refl _)) HP1.out.le
        have HLN : Hid (∀ W, Below w.heap.size w W → ∀ y ∈ H, Calls Tryd.prog 10 #[.agg #[.int .i64 y.id, .int .i64 y.left.a, .int .i64 y.left.b, .int .i64 y.left.c, .int .i64 y.left.d, .slice y.A y.on.length y.c], .int .i64 m] W fun e w' => ∃ (A : Option Addr) (c : Nat), e = .returned (.slice A 0 c) ∧ Below W.heap.size W w') := Lib.hid fun W hb y hy => by
          refine (line_c y m W ((HH.out.each y hy).on hb) (HAT.out.few y hy)).mono ?_
          rintro e w' ⟨A, c, M, rfl, hp, -, b⟩
          rw [HEM.out y hy] at hp
          rw [List.Perm.eq_nil hp]
          exact ⟨A, c, rfl, b⟩
        have HG9 := Lib.hid (And.intro hg12 hW9)
        clear hg12 hW9 hb9 b7 hc10 hc12
        rw [show (List.length ([] : List Gst)) = 0 from rfl]
        go_upto_region 15 with fail
        rw [HG9.out.1, HG9.out.2]
        have hw0 : IntKind.i64.wrap 0 = 0 := rfl
        have he11 : ((er : Int) == 11) = false := beq_eq_false_iff_ne.2 (by have := HP11.out; omega)
        rcases none_same HP1.out HP2.out with ⟨e1, e2, e3⟩ | ⟨e1, e2⟩
        · subst e1; subst e2; subst e3
          rw [show errV s 0 = .nilIface from rfl] at *
          refine wp_region_held_drew (S := fun W => Below W9.heap.size W9 W) (by kernel_rfl) ((Below.refl _ _).drew) (fun hHeld => ?_)
          refine rg_take 0 (some 61) _ (by kernel_rfl) (by kernel_rfl) (by kernel_rfl) (fun _ _ _ h => h) (by kernel_rfl) (by kernel_rfl) (by intro w' hSw op_ ho; simp only [List.getElem?_toArray, List.getElem?_cons_zero, Option.some.injEq] at ho; subst ho; go_simp; with_reducible rfl) (by assumption) ?_
          try simp only [Act.put, List.setIfInBounds_toArray, List.set_cons_zero, List.set_cons_succ]
          refine rg_take 1 (some 62) _ (by kernel_rfl) (by kernel_rfl) (by kernel_rfl) (fun _ _ _ h => h) (by kernel_rfl) (by kernel_rfl) (by intro w' hSw op_ ho; simp only [List.getElem?_toArray, List.getElem?_cons_succ, List.getElem?_cons_zero, Option.some.injEq] at ho; subst ho; obtain ⟨a0, a1⟩ := HC10.out _ hSw; go_simp; with_reducible rfl) (by assumption) ?_
          try simp only [Act.put, List.setIfInBounds_toArray, List.set_cons_zero, List.set_cons_succ]
          refine rg_take 2 (some 63) _ (by kernel_rfl) (by kernel_rfl) (by kernel_rfl) (fun _ _ _ h => h) (by kernel_rfl) (by kernel_rfl) (by intro w' hSw op_ ho; simp only [List.getElem?_toArray, List.getElem?_cons_succ, List.getElem?_cons_zero, Option.some.injEq] at ho; subst ho; go_simp; with_reducible rfl) (by assumption) ?_
          try simp only [Act.put, List.setIfInBounds_toArray, List.set_cons_zero, List.set_cons_succ]
          refine rg_take 3 (some 64) _ (by kernel_rfl) (by kernel_rfl) (by kernel_rfl) (fun _ _ _ h => h) (by kernel_rfl) (by kernel_rfl) (by intro w' hSw op_ ho; simp only [List.getElem?_toArray, List.getElem?_cons_succ, List.getElem?_cons_zero, Option.some.injEq] at ho; subst ho; go_simp; with_reducible rfl) (by assumption) ?_
          try simp only [Act.put, List.setIfInBounds_toArray, List.set_cons_zero, List.set_cons_succ]
          refine rg_take 4 (some 65) _ (by kernel_rfl) (by kernel_rfl) (by kernel_rfl) (fun _ _ _ h => h) (by kernel_rfl) (by kernel_rfl) (by intro w' hSw op_ ho; simp only [List.getElem?_toArray, List.getElem?_cons_succ, List.getElem?_cons_zero, Option.some.injEq] at ho; subst ho; obtain ⟨d0, d1⟩ := HC12.out _ hSw; go_simp; with_reducible rfl) (by assumption) ?_
          try simp only [Act.put, List.setIfInBounds_toArray, List.set_cons_zero, List.set_cons_succ]
          refine rg_take 5 (some 66) _ (by kernel_rfl) (by kernel_rfl) (by kernel_rfl) (fun _ _ _ h => h) (by kernel_rfl) (by kernel_rfl) (by intro w' hSw op_ ho; simp only [List.getElem?_toArray, List.getElem?_cons_succ, List.getElem?_cons_zero, Option.some.injEq] at ho; subst ho; go_simp; with_reducible rfl) (by assumption) ?_
          try simp only [Act.put, List.setIfInBounds_toArray, List.set_cons_zero, List.set_cons_succ]
          refine rg_take 6 (some 67) _ (by kernel_rfl) (by kernel_rfl) (by kernel_rfl) (fun _ _ _ h => h) (by kernel_rfl) (by kernel_rfl) (by intro w' hSw op_ ho; simp only [List.getElem?_toArray, List.getElem?_cons_succ, List.getElem?_cons_zero, Option.some.injEq] at ho; subst ho; go_simp; with_reducible rfl) (by assumption) ?_
          try simp only [Act.put, List.setIfInBounds_toArray, List.set_cons_zero, List.set_cons_succ]
          refine rg_take 7 (some 68) _ (by kernel_rfl) (by kernel_rfl) (by kernel_rfl) (fun _ _ _ h => h) (by kernel_rfl) (by kernel_rfl) (by intro w' hSw op_ ho; simp only [List.getElem?_toArray, List.getElem?_cons_succ, List.getElem?_cons_zero, Option.some.injEq] at ho; subst ho; go_simp; with_reducible rfl) (by assumption) ?_
          try simp only [Act.put, List.setIfInBounds_toArray, List.set_cons_zero, List.set_cons_succ]
          refine rg_take 8 (some 69) _ (by kernel_rfl) (by kernel_rfl) (by kernel_rfl) (fun _ _ _ h => h) (by kernel_rfl) (by kernel_rfl) (by intro w' hSw op_ ho; simp only [List.getElem?_toArray, List.getElem?_cons_succ, List.getElem?_cons_zero, Option.some.injEq] at ho; subst ho; go_simp; with_reducible rfl) (by assumption) ?_
          try simp only [Act.put, List.setIfInBounds_toArray, List.set_cons_zero, List.set_cons_succ]
          refine rg_take 9 (some 70) _ (by kernel_rfl) (by kernel_rfl) (by kernel_rfl) (fun _ _ _ h => h) (by kernel_rfl) (by kernel_rfl) (by intro w' hSw op_ ho; simp only [List.getElem?_toArray, List.getElem?_cons_succ, List.getElem?_cons_zero, Option.some.injEq] at ho; subst ho; go_simp; with_reducible rfl) (by assumption) ?_
          try simp only [Act.put, List.setIfInBounds_toArray, List.set_cons_zero, List.set_cons_succ]
          refine rg_one 10 (by kernel_rfl) (by kernel_rfl) (fun op_ ho KK hK => ?_)
          simp only [List.getElem?_toArray, List.getElem?_cons_succ, List.getElem?_cons_zero, Option.some.injEq] at ho
          subst ho
          go_simp
          go_at_call 9
          refine (HKD.out _ hHeld).mono ?_
          rintro e w10 ⟨rfl, b10⟩
          have S10 := Lib.hid (hHeld.trans (b10.mono hHeld.size))
          clear b10
          go_wp2_with fail
          refine hK.out _ _ S10.out (fun hHeld => ?_)
          clear hK
          try simp only [Act.put, List.setIfInBounds_toArray, List.set_cons_zero, List.set_cons_succ]
          refine rg_take 11 (some 72) _ (by kernel_rfl) (by kernel_rfl) (by kernel_rfl) (fun _ _ _ h => h) (by kernel_rfl) (by kernel_rfl) (by intro w' hSw op_ ho; simp only [List.getElem?_toArray, List.getElem?_cons_succ, List.getElem?_cons_zero, Option.some.injEq] at ho; subst ho; go_simp; with_reducible rfl) (by assumption) ?_
          try simp only [Act.put, List.setIfInBounds_toArray, List.set_cons_zero, List.set_cons_succ]
          refine rg_take 12 (some 73) _ (by kernel_rfl) (by kernel_rfl) (by kernel_rfl) (fun _ _ _ h => h) (by kernel_rfl) (by kernel_rfl) (by intro w' hSw op_ ho; simp only [List.getElem?_toArray, List.getElem?_cons_succ, List.getElem?_cons_zero, Option.some.injEq] at ho; subst ho; go_simp; with_reducible rfl) (by assumption) ?_
          try simp only [Act.put, List.setIfInBounds_toArray, List.set_cons_zero, List.set_cons_succ]
          refine rg_take 13 (some 74) _ (by kernel_rfl) (by kernel_rfl) (by kernel_rfl) (fun _ _ _ h => h) (by kernel_rfl) (by kernel_rfl) (by intro w' hSw op_ ho; simp only [List.getElem?_toArray, List.getElem?_cons_succ, List.getElem?_cons_zero, Option.some.injEq] at ho; subst ho; go_simp; with_reducible rfl) (by assumption) ?_
          try simp only [Act.put, List.setIfInBounds_toArray, List.set_cons_zero, List.set_cons_succ]
          refine rg_take 14 (some 75) _ (by kernel_rfl) (by kernel_rfl) (by kernel_rfl) (fun _ _ _ h => h) (by kernel_rfl) (by kernel_rfl) (by intro w' hSw op_ ho; simp only [List.getElem?_toArray, List.getElem?_cons_succ, List.getElem?_cons_zero, Option.some.injEq] at ho; subst ho; go_simp; with_reducible rfl) (by assumption) ?_
          try simp only [Act.put, List.setIfInBounds_toArray, List.set_cons_zero, List.set_cons_succ]
          refine rg_take 15 (some 76) _ (by kernel_rfl) (by kernel_rfl) (by kernel_rfl) (fun _ _ _ h => h) (by kernel_rfl) (by kernel_rfl) (by intro w' hSw op_ ho; simp only [List.getElem?_toArray, List.getElem?_cons_succ, List.getElem?_cons_zero, Option.some.injEq] at ho; subst ho; go_simp; with_reducible rfl) (by assumption) ?_
          try simp only [Act.put, List.setIfInBounds_toArray, List.set_cons_zero, List.set_cons_succ]
          refine rg_take 16 (some 77) _ (by kernel_rfl) (by kernel_rfl) (by kernel_rfl) (fun _ _ _ h => h) (by kernel_rfl) (by kernel_rfl) (by intro w' hSw op_ ho; simp only [List.getElem?_toArray, List.getElem?_cons_succ, List.getElem?_cons_zero, Option.some.injEq] at ho; subst ho; go_simp; with_reducible rfl) (by assumption) ?_
          try simp only [Act.put, List.setIfInBounds_toArray, List.set_cons_zero, List.set_cons_succ]
          refine rg_take 17 (some 78) _ (by kernel_rfl) (by kernel_rfl) (by kernel_rfl) (fun _ _ _ h => h) (by kernel_rfl) (by kernel_rfl) (by intro w' hSw op_ ho; simp only [List.getElem?_toArray, List.getElem?_cons_succ, List.getElem?_cons_zero, Option.some.injEq] at ho; subst ho; go_simp; with_reducible rfl) (by assumption) ?_
          try simp only [Act.put, List.setIfInBounds_toArray, List.set_cons_zero, List.set_cons_succ]
          refine rg_take 18 (some 79) _ (by kernel_rfl) (by kernel_rfl) (by kernel_rfl) (fun _ _ _ h => h) (by kernel_rfl) (by kernel_rfl) (by intro w' hSw op_ ho; simp only [List.getElem?_toArray, List.getElem?_cons_succ, List.getElem?_cons_zero, Option.some.injEq] at ho; subst ho; go_simp; with_reducible rfl) (by assumption) ?_
          try simp only [Act.put, List.setIfInBounds_toArray, List.set_cons_zero, List.set_cons_succ]
          refine rg_take 19 (some 80) _ (by kernel_rfl) (by kernel_rfl) (by kernel_rfl) (fun _ _ _ h => h) (by kernel_rfl) (by kernel_rfl) (by intro w' hSw op_ ho; simp only [List.getElem?_toArray, List.getElem?_cons_succ, List.getElem?_cons_zero, Option.some.injEq] at ho; subst ho; go_simp; with_reducible rfl) (by assumption) ?_
          try simp only [Act.put, List.setIfInBounds_toArray, List.set_cons_zero, List.set_cons_succ]
          refine rg_take 20 (some 81) _ (by kernel_rfl) (by kernel_rfl) (by kernel_rfl) (fun _ _ _ h => h) (by kernel_rfl) (by kernel_rfl) (by intro w' hSw op_ ho; simp only [List.getElem?_toArray, List.getElem?_cons_succ, List.getElem?_cons_zero, Option.some.injEq] at ho; subst ho; go_simp; with_reducible rfl) (by assumption) ?_
          try simp only [Act.put, List.setIfInBounds_toArray, List.set_cons_zero, List.set_cons_succ]
          refine rg_take 21 (some 82) _ (by kernel_rfl) (by kernel_rfl) (by kernel_rfl) (fun _ _ _ h => h) (by kernel_rfl) (by kernel_rfl) (by intro w' hSw op_ ho; simp only [List.getElem?_toArray, List.getElem?_cons_succ, List.getElem?_cons_zero, Option.some.injEq] at ho; subst ho; go_simp; with_reducible rfl) (by assumption) ?_
          try simp only [Act.put, List.setIfInBounds_toArray, List.set_cons_zero, List.set_cons_succ]
          refine rg_take 22 (some 83) _ (by kernel_rfl) (by kernel_rfl) (by kernel_rfl) (fun _ _ _ h => h) (by kernel_rfl) (by kernel_rfl) (by intro w' hSw op_ ho; simp only [List.getElem?_toArray, List.getElem?_cons_succ, List.getElem?_cons_zero, Option.some.injEq] at ho; subst ho; go_simp; with_reducible rfl) (by assumption) ?_
          try simp only [Act.put, List.setIfInBounds_toArray, List.set_cons_zero, List.set_cons_succ]
          refine rg_take 23 (some 84) _ (by kernel_rfl) (by kernel_rfl) (by kernel_rfl) (fun _ _ _ h => h) (by kernel_rfl) (by kernel_rfl) (by intro w' hSw op_ ho; simp only [List.getElem?_toArray, List.getElem?_cons_succ, List.getElem?_cons_zero, Option.some.injEq] at ho; subst ho; go_simp; with_reducible rfl) (by assumption) ?_
          try simp only [Act.put, List.setIfInBounds_toArray, List.set_cons_zero, List.set_cons_succ]
          refine rg_take 24 (some 85) _ (by kernel_rfl) (by kernel_rfl) (by kernel_rfl) (fun _ _ _ h => h) (by kernel_rfl) (by kernel_rfl) (by intro w' hSw op_ ho; simp only [List.getElem?_toArray, List.getElem?_cons_succ, List.getElem?_cons_zero, Option.some.injEq] at ho; subst ho; go_simp; with_reducible rfl) (by assumption) ?_
          try simp only [Act.put, List.setIfInBounds_toArray, List.set_cons_zero, List.set_cons_succ]
          refine rg_take 25 (some 86) _ (by kernel_rfl) (by kernel_rfl) (by kernel_rfl) (fun _ _ _ h => h) (by kernel_rfl) (by kernel_rfl) (by intro w' hSw op_ ho; simp only [List.getElem?_toArray, List.getElem?_cons_succ, List.getElem?_cons_zero, Option.some.injEq] at ho; subst ho; obtain ⟨a0, a1⟩ := HC10.out _ hSw; go_simp; with_reducible rfl) (by assumption) ?_
          try simp only [Act.put, List.setIfInBounds_toArray, List.set_cons_zero, List.set_cons_succ]
          refine rg_take 26 (some 87) _ (by kernel_rfl) (by kernel_rfl) (by kernel_rfl) (fun _ _ _ h => h) (by kernel_rfl) (by kernel_rfl) (by intro w' hSw op_ ho; simp only [List.getElem?_toArray, List.getElem?_cons_succ, List.getElem?_cons_zero, Option.some.injEq] at ho; subst ho; go_simp; with_reducible rfl) (by assumption) ?_
          try simp only [Act.put, List.setIfInBounds_toArray, List.set_cons_zero, List.set_cons_succ]
          refine rg_take 27 (some 88) _ (by kernel_rfl) (by kernel_rfl) (by kernel_rfl) (fun _ _ _ h => h) (by kernel_rfl) (by kernel_rfl) (by intro w' hSw op_ ho; simp only [List.getElem?_toArray, List.getElem?_cons_succ, List.getElem?_cons_zero, Option.some.injEq] at ho; subst ho; obtain ⟨d0, d1⟩ := HC12.out _ hSw; go_simp; with_reducible rfl) (by assumption) ?_
          try simp only [Act.put, List.setIfInBounds_toArray, List.set_cons_zero, List.set_cons_succ]
          refine rg_take 28 (some 89) _ (by kernel_rfl) (by kernel_rfl) (by kernel_rfl) (fun _ _ _ h => h) (by kernel_rfl) (by kernel_rfl) (by intro w' hSw op_ ho; simp only [List.getElem?_toArray, List.getElem?_cons_succ, List.getElem?_cons_zero, Option.some.injEq] at ho; subst ho; go_simp; with_reducible rfl) (by assumption) ?_
          try simp only [Act.put, List.setIfInBounds_toArray, List.set_cons_zero, List.set_cons_succ]
          refine rg_take 29 (some 90) _ (by kernel_rfl) (by kernel_rfl) (by kernel_rfl) (fun _ _ _ h => h) (by kernel_rfl) (by kernel_rfl) (by intro w' hSw op_ ho; simp only [List.getElem?_toArray, List.getElem?_cons_succ, List.getElem?_cons_zero, Option.some.injEq] at ho; subst ho; go_simp; with_reducible rfl) (by assumption) ?_
          try simp only [Act.put, List.setIfInBounds_toArray, List.set_cons_zero, List.set_cons_succ]
          refine rg_take 30 (some 91) _ (by kernel_rfl) (by kernel_rfl) (by kernel_rfl) (fun _ _ _ h => h) (by kernel_rfl) (by kernel_rfl) (by intro w' hSw op_ ho; simp only [List.getElem?_toArray, List.getElem?_cons_succ, List.getElem?_cons_zero, Option.some.injEq] at ho; subst ho; go_simp; with_reducible rfl) (by assumption) ?_
          try simp only [Act.put, List.setIfInBounds_toArray, List.set_cons_zero, List.set_cons_succ]
          refine wpAnyH_done (by kernel_rfl) ?_ _
          have HBA : Hid (Below w.heap.size w w10) := Lib.hid (HB9.out.trans (hHeld.mono HB9.out.size))
          clear hHeld
          go_upto_region 18 with fail
          go_loopg [14] H.length (fun gk s14 wr => ∃ (i : Nat), s14 = .int .i64 i ∧ i ≤ H.length ∧ H.length - i ≤ gk ∧ Aside (Below w.heap.size w wr))
          case atStart => exact ⟨0, rfl, Nat.zero_le _, Nat.le_refl _, HBA.out⟩
          case round =>
            obtain ⟨i, rfl, hi, hgi, IN⟩ := hrel
            have HB := Lib.hid IN.out
            clear IN
            by_cases hlt : i < H.length
            · obtain ⟨y, hy⟩ : ∃ y, H[i]? = some y := ⟨_, List.getElem?_eq_getElem hlt⟩
              obtain ⟨ad, q, rfl, had, hq, hc⟩ := HH.out.row i y hy
              have hym : y ∈ H := List.mem_of_getElem? hy
              have hltz : (i : Int) < (H.length : Int) := by omega
              have hi0 : (0 : Int) ≤ (i : Int) := by omega
              have v0 := (HB.out.cell (p := q) hq).trans ((congrArg w.cell? (add_zeroE q).symm).trans (hc 0 _ rfl))
              have v1 := (HB.out.cell (p := ⟨q.block, q.off + 1, none⟩) hq).trans (hc 1 _ rfl)
              have v2 := (HB.out.cell (p := ⟨q.block, q.off + 2, none⟩) hq).trans (hc 2 _ rfl)
              have v3 := (HB.out.cell (p := ⟨q.block, q.off + 3, none⟩) hq).trans (hc 3 _ rfl)
              have v4 := (HB.out.cell (p := ⟨q.block, q.off + 4, none⟩) hq).trans (hc 4 _ rfl)
              have v5 := (HB.out.cell (p := ⟨q.block, q.off + 5, none⟩) hq).trans (hc 5 _ rfl)
              have hpl : q.block < wr.heap.size := Nat.lt_of_lt_of_le hq HB.out.size
              have HL := Lib.hid (HLN.out _ HB.out y hym)
              obtain ⟨id, l, on, A', c'⟩ := y
              clear hy hq hc hym
              go_wp2_with fail
              refine HL.out.mono ?_
              rintro e w12 ⟨A12, c12, rfl, b12⟩
              have HB12 : Hid (Below w.heap.size w w12) := Lib.hid (HB.out.trans (b12.mono HB.out.size))
              clear b12 HL v0 v1 v2 v3 v4 v5
              go_wp2_with fail
              go_roundg (H.length - (i + 1))
              case measure => omega
              case rel => exact ⟨i + 1, by go_num, by omega, Nat.le_refl _, HB12.out⟩
            · obtain rfl : i = H.length := by omega
              have hz2 : ¬ (H.length : Int) < (H.length : Int) := by omega
              go_wp2_with fail
              go_ret
              exact ⟨rfl, HB.out⟩
        · obtain ⟨v1, hv1⟩ := errV_pos (s := s) e1
          obtain ⟨v2, hv2⟩ := errV_pos (s := s) e2
          rw [hv1] at HKD
          rw [hv1, hv2]
          clear hv1 hv2 e1 e2
          refine wp_region_held_drew (S := fun W => Below W9.heap.size W9 W) (by kernel_rfl) ((Below.refl _ _).drew) (fun hHeld => ?_)
          refine rg_take 0 (some 61) _ (by kernel_rfl) (by kernel_rfl) (by kernel_rfl) (fun _ _ _ h => h) (by kernel_rfl) (by kernel_rfl) (by intro w' hSw op_ ho; simp only [List.getElem?_toArray, List.getElem?_cons_zero, Option.some.injEq] at ho; subst ho; go_simp; with_reducible rfl) (by assumption) ?_
          try simp only [Act.put, List.setIfInBounds_toArray, List.set_cons_zero, List.set_cons_succ]
          refine rg_take 1 (some 62) _ (by kernel_rfl) (by kernel_rfl) (by kernel_rfl) (fun _ _ _ h => h) (by kernel_rfl) (by kernel_rfl) (by intro w' hSw op_ ho; simp only [List.getElem?_toArray, List.getElem?_cons_succ, List.getElem?_cons_zero, Option.some.injEq] at ho; subst ho; obtain ⟨a0, a1⟩ := HC10.out _ hSw; go_simp; with_reducible rfl) (by assumption) ?_
          try simp only [Act.put, List.setIfInBounds_toArray, List.set_cons_zero, List.set_cons_succ]
          refine rg_take 2 (some 63) _ (by kernel_rfl) (by kernel_rfl) (by kernel_rfl) (fun _ _ _ h => h) (by kernel_rfl) (by kernel_rfl) (by intro w' hSw op_ ho; simp only [List.getElem?_toArray, List.getElem?_cons_succ, List.getElem?_cons_zero, Option.some.injEq] at ho; subst ho; go_simp; with_reducible rfl) (by assumption) ?_
          try simp only [Act.put, List.setIfInBounds_toArray, List.set_cons_zero, List.set_cons_succ]
          refine rg_take 3 (some 64) _ (by kernel_rfl) (by kernel_rfl) (by kernel_rfl) (fun _ _ _ h => h) (by kernel_rfl) (by kernel_rfl) (by intro w' hSw op_ ho; simp only [List.getElem?_toArray, List.getElem?_cons_succ, List.getElem?_cons_zero, Option.some.injEq] at ho; subst ho; go_simp; with_reducible rfl) (by assumption) ?_
          try simp only [Act.put, List.setIfInBounds_toArray, List.set_cons_zero, List.set_cons_succ]
          refine rg_take 4 (some 65) _ (by kernel_rfl) (by kernel_rfl) (by kernel_rfl) (fun _ _ _ h => h) (by kernel_rfl) (by kernel_rfl) (by intro w' hSw op_ ho; simp only [List.getElem?_toArray, List.getElem?_cons_succ, List.getElem?_cons_zero, Option.some.injEq] at ho; subst ho; obtain ⟨d0, d1⟩ := HC12.out _ hSw; go_simp; with_reducible rfl) (by assumption) ?_
          try simp only [Act.put, List.setIfInBounds_toArray, List.set_cons_zero, List.set_cons_succ]
          refine rg_take 5 (some 66) _ (by kernel_rfl) (by kernel_rfl) (by kernel_rfl) (fun _ _ _ h => h) (by kernel_rfl) (by kernel_rfl) (by intro w' hSw op_ ho; simp only [List.getElem?_toArray, List.getElem?_cons_succ, List.getElem?_cons_zero, Option.some.injEq] at ho; subst ho; go_simp; with_reducible rfl) (by assumption) ?_
          try simp only [Act.put, List.setIfInBounds_toArray, List.set_cons_zero, List.set_cons_succ]
          refine rg_take 6 (some 67) _ (by kernel_rfl) (by kernel_rfl) (by kernel_rfl) (fun _ _ _ h => h) (by kernel_rfl) (by kernel_rfl) (by intro w' hSw op_ ho; simp only [List.getElem?_toArray, List.getElem?_cons_succ, List.getElem?_cons_zero, Option.some.injEq] at ho; subst ho; go_simp; with_reducible rfl) (by assumption) ?_
          try simp only [Act.put, List.setIfInBounds_toArray, List.set_cons_zero, List.set_cons_succ]
          refine rg_take 7 (some 68) _ (by kernel_rfl) (by kernel_rfl) (by kernel_rfl) (fun _ _ _ h => h) (by kernel_rfl) (by kernel_rfl) (by intro w' hSw op_ ho; simp only [List.getElem?_toArray, List.getElem?_cons_succ, List.getElem?_cons_zero, Option.some.injEq] at ho; subst ho; go_simp; with_reducible rfl) (by assumption) ?_
          try simp only [Act.put, List.setIfInBounds_toArray, List.set_cons_zero, List.set_cons_succ]
          refine rg_take 8 (some 69) _ (by kernel_rfl) (by kernel_rfl) (by kernel_rfl) (fun _ _ _ h => h) (by kernel_rfl) (by kernel_rfl) (by intro w' hSw op_ ho; simp only [List.getElem?_toArray, List.getElem?_cons_succ, List.getElem?_cons_zero, Option.some.injEq] at ho; subst ho; go_simp; with_reducible rfl) (by assumption) ?_
          try simp only [Act.put, List.setIfInBounds_toArray, List.set_cons_zero, List.set_cons_succ]
          refine rg_take 9 (some 70) _ (by kernel_rfl) (by kernel_rfl) (by kernel_rfl) (fun _ _ _ h => h) (by kernel_rfl) (by kernel_rfl) (by intro w' hSw op_ ho; simp only [List.getElem?_toArray, List.getElem?_cons_succ, List.getElem?_cons_zero, Option.some.injEq] at ho; subst ho; go_simp; with_reducible rfl) (by assumption) ?_
          try simp only [Act.put, List.setIfInBounds_toArray, List.set_cons_zero, List.set_cons_succ]
          refine rg_one 10 (by kernel_rfl) (by kernel_rfl) (fun op_ ho KK hK => ?_)
          simp only [List.getElem?_toArray, List.getElem?_cons_succ, List.getElem?_cons_zero, Option.some.injEq] at ho
          subst ho
          go_simp
          go_at_call 9
          refine (HKD.out _ hHeld).mono ?_
          rintro e w10 ⟨rfl, b10⟩
          have S10 := Lib.hid (hHeld.trans (b10.mono hHeld.size))
          clear b10
          go_wp2_with fail
          refine hK.out _ _ S10.out (fun hHeld => ?_)
          clear hK
          try simp only [Act.put, List.setIfInBounds_toArray, List.set_cons_zero, List.set_cons_succ]
          refine rg_take 11 (some 72) _ (by kernel_rfl) (by kernel_rfl) (by kernel_rfl) (fun _ _ _ h => h) (by kernel_rfl) (by kernel_rfl) (by intro w' hSw op_ ho; simp only [List.getElem?_toArray, List.getElem?_cons_succ, List.getElem?_cons_zero, Option.some.injEq] at ho; subst ho; go_simp; with_reducible rfl) (by assumption) ?_
          try simp only [Act.put, List.setIfInBounds_toArray, List.set_cons_zero, List.set_cons_succ]
          refine rg_take 12 (some 73) _ (by kernel_rfl) (by kernel_rfl) (by kernel_rfl) (fun _ _ _ h => h) (by kernel_rfl) (by kernel_rfl) (by intro w' hSw op_ ho; simp only [List.getElem?_toArray, List.getElem?_cons_succ, List.getElem?_cons_zero, Option.some.injEq] at ho; subst ho; go_simp; with_reducible rfl) (by assumption) ?_
          try simp only [Act.put, List.setIfInBounds_toArray, List.set_cons_zero, List.set_cons_succ]
          refine rg_take 13 (some 74) _ (by kernel_rfl) (by kernel_rfl) (by kernel_rfl) (fun _ _ _ h => h) (by kernel_rfl) (by kernel_rfl) (by intro w' hSw op_ ho; simp only [List.getElem?_toArray, List.getElem?_cons_succ, List.getElem?_cons_zero, Option.some.injEq] at ho; subst ho; go_simp; with_reducible rfl) (by assumption) ?_
          try simp only [Act.put, List.setIfInBounds_toArray, List.set_cons_zero, List.set_cons_succ]
          refine rg_take 14 (some 75) _ (by kernel_rfl) (by kernel_rfl) (by kernel_rfl) (fun _ _ _ h => h) (by kernel_rfl) (by kernel_rfl) (by intro w' hSw op_ ho; simp only [List.getElem?_toArray, List.getElem?_cons_succ, List.getElem?_cons_zero, Option.some.injEq] at ho; subst ho; go_simp; with_reducible rfl) (by assumption) ?_
          try simp only [Act.put, List.setIfInBounds_toArray, List.set_cons_zero, List.set_cons_succ]
          refine rg_take 15 (some 76) _ (by kernel_rfl) (by kernel_rfl) (by kernel_rfl) (fun _ _ _ h => h) (by kernel_rfl) (by kernel_rfl) (by intro w' hSw op_ ho; simp only [List.getElem?_toArray, List.getElem?_cons_succ, List.getElem?_cons_zero, Option.some.injEq] at ho; subst ho; go_simp; with_reducible rfl) (by assumption) ?_
          try simp only [Act.put, List.setIfInBounds_toArray, List.set_cons_zero, List.set_cons_succ]
          refine rg_take 16 (some 77) _ (by kernel_rfl) (by kernel_rfl) (by kernel_rfl) (fun _ _ _ h => h) (by kernel_rfl) (by kernel_rfl) (by intro w' hSw op_ ho; simp only [List.getElem?_toArray, List.getElem?_cons_succ, List.getElem?_cons_zero, Option.some.injEq] at ho; subst ho; go_simp; with_reducible rfl) (by assumption) ?_
          try simp only [Act.put, List.setIfInBounds_toArray, List.set_cons_zero, List.set_cons_succ]
          refine rg_take 17 (some 78) _ (by kernel_rfl) (by kernel_rfl) (by kernel_rfl) (fun _ _ _ h => h) (by kernel_rfl) (by kernel_rfl) (by intro w' hSw op_ ho; simp only [List.getElem?_toArray, List.getElem?_cons_succ, List.getElem?_cons_zero, Option.some.injEq] at ho; subst ho; go_simp; with_reducible rfl) (by assumption) ?_
          try simp only [Act.put, List.setIfInBounds_toArray, List.set_cons_zero, List.set_cons_succ]
          refine rg_take 18 (some 79) _ (by kernel_rfl) (by kernel_rfl) (by kernel_rfl) (fun _ _ _ h => h) (by kernel_rfl) (by kernel_rfl) (by intro w' hSw op_ ho; simp only [List.getElem?_toArray, List.getElem?_cons_succ, List.getElem?_cons_zero, Option.some.injEq] at ho; subst ho; go_simp; with_reducible rfl) (by assumption) ?_
          try simp only [Act.put, List.setIfInBounds_toArray, List.set_cons_zero, List.set_cons_succ]
          refine rg_take 19 (some 80) _ (by kernel_rfl) (by kernel_rfl) (by kernel_rfl) (fun _ _ _ h => h) (by kernel_rfl) (by kernel_rfl) (by intro w' hSw op_ ho; simp only [List.getElem?_toArray, List.getElem?_cons_succ, List.getElem?_cons_zero, Option.some.injEq] at ho; subst ho; go_simp; with_reducible rfl) (by assumption) ?_
          try simp only [Act.put, List.setIfInBounds_toArray, List.set_cons_zero, List.set_cons_succ]
          refine rg_take 20 (some 81) _ (by kernel_rfl) (by kernel_rfl) (by kernel_rfl) (fun _ _ _ h => h) (by kernel_rfl) (by kernel_rfl) (by intro w' hSw op_ ho; simp only [List.getElem?_toArray, List.getElem?_cons_succ, List.getElem?_cons_zero, Option.some.injEq] at ho; subst ho; go_simp; with_reducible rfl) (by assumption) ?_
          try simp only [Act.put, List.setIfInBounds_toArray, List.set_cons_zero, List.set_cons_succ]
          refine rg_take 21 (some 82) _ (by kernel_rfl) (by kernel_rfl) (by kernel_rfl) (fun _ _ _ h => h) (by kernel_rfl) (by kernel_rfl) (by intro w' hSw op_ ho; simp only [List.getElem?_toArray, List.getElem?_cons_succ, List.getElem?_cons_zero, Option.some.injEq] at ho; subst ho; go_simp; with_reducible rfl) (by assumption) ?_
          try simp only [Act.put, List.setIfInBounds_toArray, List.set_cons_zero, List.set_cons_succ]
          refine rg_take 22 (some 83) _ (by kernel_rfl) (by kernel_rfl) (by kernel_rfl) (fun _ _ _ h => h) (by kernel_rfl) (by kernel_rfl) (by intro w' hSw op_ ho; simp only [List.getElem?_toArray, List.getElem?_cons_succ, List.getElem?_cons_zero, Option.some.injEq] at ho; subst ho; go_simp; with_reducible rfl) (by assumption) ?_
          try simp only [Act.put, List.setIfInBounds_toArray, List.set_cons_zero, List.set_cons_succ]
          refine rg_take 23 (some 84) _ (by kernel_rfl) (by kernel_rfl) (by kernel_rfl) (fun _ _ _ h => h) (by kernel_rfl) (by kernel_rfl) (by intro w' hSw op_ ho; simp only [List.getElem?_toArray, List.getElem?_cons_succ, List.getElem?_cons_zero, Option.some.injEq] at ho; subst ho; go_simp; with_reducible rfl) (by assumption) ?_
          try simp only [Act.put, List.setIfInBounds_toArray, List.set_cons_zero, List.set_cons_succ]
          refine rg_skip 24 (some 85) (by kernel_rfl) (by kernel_rfl) (by kernel_rfl) (fun _ _ _ h => h) (by kernel_rfl) (by kernel_rfl) (by assumption) ?_
          try simp only [Act.put, List.setIfInBounds_toArray, List.set_cons_zero, List.set_cons_succ]
          refine rg_skip 25 (some 86) (by kernel_rfl) (by kernel_rfl) (by kernel_rfl) (fun _ _ _ h => h) (by kernel_rfl) (by kernel_rfl) (by assumption) ?_
          try simp only [Act.put, List.setIfInBounds_toArray, List.set_cons_zero, List.set_cons_succ]
          refine rg_skip 26 (some 87) (by kernel_rfl) (by kernel_rfl) (by kernel_rfl) (fun _ _ _ h => h) (by kernel_rfl) (by kernel_rfl) (by assumption) ?_
          try simp only [Act.put, List.setIfInBounds_toArray, List.set_cons_zero, List.set_cons_succ]
          refine rg_skip 27 (some 88) (by kernel_rfl) (by kernel_rfl) (by kernel_rfl) (fun _ _ _ h => h) (by kernel_rfl) (by kernel_rfl) (by assumption) ?_
          try simp only [Act.put, List.setIfInBounds_toArray, List.set_cons_zero, List.set_cons_succ]
          refine rg_skip 28 (some 89) (by kernel_rfl) (by kernel_rfl) (by kernel_rfl) (fun _ _ _ h => h) (by kernel_rfl) (by kernel_rfl) (by assumption) ?_
          try simp only [Act.put, List.setIfInBounds_toArray, List.set_cons_zero, List.set_cons_succ]
          refine rg_take 29 (some 90) _ (by kernel_rfl) (by kernel_rfl) (by kernel_rfl) (fun _ _ _ h => h) (by kernel_rfl) (by kernel_rfl) (by intro w' hSw op_ ho; simp only [List.getElem?_toArray, List.getElem?_cons_succ, List.getElem?_cons_zero, Option.some.injEq] at ho; subst ho; go_simp; with_reducible rfl) (by assumption) ?_
          try simp only [Act.put, List.setIfInBounds_toArray, List.set_cons_zero, List.set_cons_succ]
          refine rg_take 30 (some 91) _ (by kernel_rfl) (by kernel_rfl) (by kernel_rfl) (fun _ _ _ h => h) (by kernel_rfl) (by kernel_rfl) (by intro w' hSw op_ ho; simp only [List.getElem?_toArray, List.getElem?_cons_succ, List.getElem?_cons_zero, Option.some.injEq] at ho; subst ho; go_simp; with_reducible rfl) (by assumption) ?_
          try simp only [Act.put, List.setIfInBounds_toArray, List.set_cons_zero, List.set_cons_succ]
          refine wpAnyH_done (by kernel_rfl) ?_ _
          have HBA : Hid (Below w.heap.size w w10) := Lib.hid (HB9.out.trans (hHeld.mono HB9.out.size))
          clear hHeld
          go_upto_region 18 with fail
          go_loopg [14] H.length (fun gk s14 wr => ∃ (i : Nat), s14 = .int .i64 i ∧ i ≤ H.length ∧ H.length - i ≤ gk ∧ Aside (Below w.heap.size w wr))
          case atStart => exact ⟨0, rfl, Nat.zero_le _, Nat.le_refl _, HBA.out⟩
          case round =>
            obtain ⟨i, rfl, hi, hgi, IN⟩ := hrel
            have HB := Lib.hid IN.out
            clear IN
            by_cases hlt : i < H.length
            · obtain ⟨y, hy⟩ : ∃ y, H[i]? = some y := ⟨_, List.getElem?_eq_getElem hlt⟩
              obtain ⟨ad, q, rfl, had, hq, hc⟩ := HH.out.row i y hy
              have hym : y ∈ H := List.mem_of_getElem? hy
              have hltz : (i : Int) < (H.length : Int) := by omega
              have hi0 : (0 : Int) ≤ (i : Int) := by omega
              have v0 := (HB.out.cell (p := q) hq).trans ((congrArg w.cell? (add_zeroE q).symm).trans (hc 0 _ rfl))
              have v1 := (HB.out.cell (p := ⟨q.block, q.off + 1, none⟩) hq).trans (hc 1 _ rfl)
              have v2 := (HB.out.cell (p := ⟨q.block, q.off + 2, none⟩) hq).trans (hc 2 _ rfl)
              have v3 := (HB.out.cell (p := ⟨q.block, q.off + 3, none⟩) hq).trans (hc 3 _ rfl)
              have v4 := (HB.out.cell (p := ⟨q.block, q.off + 4, none⟩) hq).trans (hc 4 _ rfl)
              have v5 := (HB.out.cell (p := ⟨q.block, q.off + 5, none⟩) hq).trans (hc 5 _ rfl)
              have hpl : q.block < wr.heap.size := Nat.lt_of_lt_of_le hq HB.out.size
              have HL := Lib.hid (HLN.out _ HB.out y hym)
              obtain ⟨id, l, on, A', c'⟩ := y
              clear hy hq hc hym
              go_wp2_with fail
              refine HL.out.mono ?_
              rintro e w12 ⟨A12, c12, rfl, b12⟩
              have HB12 : Hid (Below w.heap.size w w12) := Lib.hid (HB.out.trans (b12.mono HB.out.size))
              clear b12 HL v0 v1 v2 v3 v4 v5
              go_wp2_with fail
              go_roundg (H.length - (i + 1))
              case measure => omega
              case rel => exact ⟨i + 1, by go_num, by omega, Nat.le_refl _, HB12.out⟩
            · obtain rfl : i = H.length := by omega
              have hz2 : ¬ (H.length : Int) < (H.length : Int) := by omega
              go_wp2_with fail
              go_ret
              exact ⟨rfl, HB.out⟩
end Go.Proofs.YtlckofoabnnlhaaDoor
