/- slices.Repeat of one number, a few times, by contract. No conditions. -/
import Derived.Test.YtbfbhlpibclccaaDoorJbA
import Derived.Laws.OwnMore
import Derived.Shelf.Spec.SlicesInsert
import Derived.Deep.RegionLaw
import Derived.Deep.DeepCutAuto
import Derived.Deep.CutBlock
namespace Go.Proofs.YtbfbhlpibclccaaDoor
open Go Go.RowKit Go.Maps Go.Shelf Go.Sort

set_option maxRecDepth 100000 in
theorem mul64_c (n : Nat) (h0 : 1 ≤ n) (h1 : n ≤ 8) (W : World) : Calls Tryd.prog 77 #[.int .u64 1, .int .u64 (n : Int)] W fun e w' => e = .returned (.tuple #[.int .u64 0, .int .u64 (n : Int)]) ∧ w' = W := by
  have : n = 1 ∨ n = 2 ∨ n = 3 ∨ n = 4 ∨ n = 5 ∨ n = 6 ∨ n = 7 ∨ n = 8 := by omega
  rcases this with rfl | rfl | rfl | rfl | rfl | rfl | rfl | rfl
  all_goals
    go_enter Tryd.func77, Tryd.ntmps77
    go_wp2
    first
      | exact bodyPost_ret (v := .tuple #[.int .u64 0, .int .u64 1]) (by simp [results, Tryd.results77, go_sem]; first | kernel_rfl | exact ⟨by kernel_rfl, by kernel_rfl⟩) rfl ⟨rfl, rfl⟩
      | exact bodyPost_ret (v := .tuple #[.int .u64 0, .int .u64 2]) (by simp [results, Tryd.results77, go_sem]; first | kernel_rfl | exact ⟨by kernel_rfl, by kernel_rfl⟩) rfl ⟨rfl, rfl⟩
      | exact bodyPost_ret (v := .tuple #[.int .u64 0, .int .u64 3]) (by simp [results, Tryd.results77, go_sem]; first | kernel_rfl | exact ⟨by kernel_rfl, by kernel_rfl⟩) rfl ⟨rfl, rfl⟩
      | exact bodyPost_ret (v := .tuple #[.int .u64 0, .int .u64 4]) (by simp [results, Tryd.results77, go_sem]; first | kernel_rfl | exact ⟨by kernel_rfl, by kernel_rfl⟩) rfl ⟨rfl, rfl⟩
      | exact bodyPost_ret (v := .tuple #[.int .u64 0, .int .u64 5]) (by simp [results, Tryd.results77, go_sem]; first | kernel_rfl | exact ⟨by kernel_rfl, by kernel_rfl⟩) rfl ⟨rfl, rfl⟩
      | exact bodyPost_ret (v := .tuple #[.int .u64 0, .int .u64 6]) (by simp [results, Tryd.results77, go_sem]; first | kernel_rfl | exact ⟨by kernel_rfl, by kernel_rfl⟩) rfl ⟨rfl, rfl⟩
      | exact bodyPost_ret (v := .tuple #[.int .u64 0, .int .u64 7]) (by simp [results, Tryd.results77, go_sem]; first | kernel_rfl | exact ⟨by kernel_rfl, by kernel_rfl⟩) rfl ⟨rfl, rfl⟩
      | exact bodyPost_ret (v := .tuple #[.int .u64 0, .int .u64 8]) (by simp [results, Tryd.results77, go_sem]; first | kernel_rfl | exact ⟨by kernel_rfl, by kernel_rfl⟩) rfl ⟨rfl, rfl⟩
theorem mul_c (n : Nat) (h0 : 1 ≤ n) (h1 : n ≤ 8) (W : World) : Calls Tryd.prog 63 #[.int .u64 1, .int .u64 (n : Int)] W fun e w' => e = .returned (.tuple #[.int .u64 0, .int .u64 (n : Int)]) ∧ w' = W := by
  have HM := Lib.hid (mul64_c n h0 h1)
  clear h0 h1
  go_enter Tryd.func63, Tryd.ntmps63
  go_wp2_with fail
  refine (HM.out _).mono ?_
  rintro e w1 ⟨rfl, rfl⟩
  go_wp2_with fail
  exact bodyPost_ret (v := .tuple #[.int .u64 0, .int .u64 (n : Int)]) (by simp [results, Tryd.results63, go_sem]) rfl ⟨rfl, rfl⟩

/-- A number's value, as a measure. -/
def natOf : Value → Nat
  | .int _ z => z.toNat
  | _ => 0
/-- What a row has while it is filled. -/
def zI0 : Int := 0
def fillE (x : Int) (n j : Nat) : List Int := List.replicate j x ++ List.replicate (n - j) zI0
theorem fillE_len (x : Int) {n j : Nat} (h : j ≤ n) : (fillE x n j).length = n := by simp [fillE]; omega
theorem Tryd.infoI0 : (Tryd.prog.info? 3).map (fun i => (i.zero, i.size, i.bytes)) = some (some (.int .i64 0), 1, 8) := by kernel_rfl
theorem infoI0_parts : ∃ i, Tryd.prog.info? 3 = some i ∧ i.zero = some (.int .i64 0) ∧ i.size = 1 ∧ i.bytes = 8 := by
  obtain ⟨i, h1, h2⟩ := Option.map_eq_some_iff.1 Tryd.infoI0
  simp only [Prod.mk.injEq] at h2
  exact ⟨i, h1, h2.1, h2.2.1, h2.2.2⟩
theorem made_I0 (n : Nat) (hn : n = 1 ∨ n = 2 ∨ n = 3 ∨ n = 4 ∨ n = 5 ∨ n = 6 ∨ n = 7 ∨ n = 8) : (madeCells (Value.int .i64 0).cells (n * 1)).toList = cellsE encI (List.replicate n zI0) := by
  rcases hn with rfl | rfl | rfl | rfl | rfl | rfl | rfl | rfl <;> kernel_rfl
theorem make_I0 (w : World) (n : Nat) (h0 : 1 ≤ n) (h1 : n ≤ 8) : ∃ w', (Instr.makeSlice 104 (.int .i64 (n : Int)) (.int .i64 (n : Int))).run Tryd.prog w = .ok (.slice (some ⟨w.heap.size, 0, none⟩) n n) w' ∧
    OwnE encI 3 w' w.heap.size (.slice (some ⟨w.heap.size, 0, none⟩) n n) (List.replicate n zI0) ∧ w.grownBy w' none := by
  obtain ⟨i, hi, hz, hs, hb⟩ := infoI0_parts
  obtain ⟨w', k1, k2, k3⟩ := run_makeSlice_full (P := Tryd.prog) w w.heap.size 104 3 i _ 1 Tryd.underlying104 hi hz hs .i64 .i64 n (by omega) (by rw [hb]; omega) (by unfold maxLen; omega) (Nat.le_refl _)
  refine ⟨w', k1, ?_, k3⟩
  rw [made_I0 n (by omega)] at k2
  unfold OwnE
  rw [List.length_replicate]; exact k2
/-- A part of what is filled goes over the next. -/
theorem fill_more {e : TypeId} {w : World} {base g n j m : Nat} {x : Int} (h : OwnE encI e w base (.slice (some ⟨g, 0, none⟩) n n) (fillE x n j)) (hm : j + m ≤ n) :
    OwnE encI e (w.setCells g (j * 1) (cellsE encI (List.replicate m x))) base (.slice (some ⟨g, 0, none⟩) n n) (fillE x n (j + m)) ∧ w.grownBy (w.setCells g (j * 1) (cellsE encI (List.replicate m x))) (some g) := by
  have hl := fillE_len x (n := n) (j := j) (by omega)
  have hl2 := fillE_len x (n := n) (j := j + m) (by omega)
  have h' : OwnE encI e w base (.slice (some ⟨g, 0, none⟩) (fillE x n j).length n) (fillE x n j) := by rw [hl]; exact h
  have hlen : (cellsE encI (List.replicate m x)).length = m * 1 := by rw [cellsE_len, List.length_replicate]
  have key := own_setCells (E := encI) (M := fillE x n (j + m)) h' (j * 1) (cellsE encI (List.replicate m x)) (by rw [hl2]; exact Nat.le_refl _) (by rw [hlen]; omega) (fun t u hu => ?_)
  · rwa [hl2] at key
  · have ht : t < n * 1 := by
      have := (List.getElem?_eq_some_iff.1 hu).1
      rwa [cellsE_len, hl2] at this
    have ea : cellsE encI (fillE x n (j + m)) = cellsE encI (List.replicate j x) ++ (cellsE encI (List.replicate m x) ++ cellsE encI (List.replicate (n - (j + m)) zI0)) := by
      unfold fillE
      rw [cellsE_app, cellsE_app, ← List.append_assoc, List.replicate_append_replicate]
    have eb : cellsE encI (fillE x n j) = cellsE encI (List.replicate j x) ++ (cellsE encI (List.replicate m zI0) ++ cellsE encI (List.replicate (n - (j + m)) zI0)) := by
      unfold fillE
      rw [cellsE_app, cellsE_app, List.replicate_append_replicate, show m + (n - (j + m)) = n - j by omega]
    rw [ea] at hu
    have lj : (cellsE encI (List.replicate j x)).length = j * 1 := by rw [cellsE_len, List.length_replicate]
    have lm0 : (cellsE encI (List.replicate m zI0)).length = m * 1 := by rw [cellsE_len, List.length_replicate]
    rw [hlen]
    by_cases h1 : t < j * 1
    · rw [if_neg (by omega), own_cellE' h' t (by rw [hl]; exact ht), eb, List.getElem?_append_left (by omega)]
      rw [List.getElem?_append_left (by omega)] at hu
      exact hu
    · rw [List.getElem?_append_right (by omega), lj] at hu
      by_cases h2 : t < j * 1 + m * 1
      · rw [if_pos ⟨by omega, h2⟩]
        rw [List.getElem?_append_left (by rw [hlen]; omega)] at hu
        exact hu
      · rw [if_neg (by omega), own_cellE' h' t (by rw [hl]; exact ht), eb, List.getElem?_append_right (by omega), lj, List.getElem?_append_right (by rw [lm0]; omega), lm0]
        rw [List.getElem?_append_right (by rw [hlen]; omega), hlen] at hu
        exact hu
theorem sizeI0 : (Tryd.prog.info? 3).map (·.size) = some 1 := by kernel_rfl
set_option maxRecDepth 100000 in
set_option maxHeartbeats 3200000 in
/-- slices.Repeat. -/
theorem irep_c (n : Nat) (h0 : 1 ≤ n) (h1 : n ≤ 8) (x : Int) (gx : Nat) (w : World) (hx : w.heap[gx]? = some (.cells #[.int .i64 x] 3 (0, 0))) :
    Calls Tryd.prog 44 #[.slice (some ⟨gx, 0, none⟩) 1 1, .int .i64 (n : Int)] w fun e w' => ∃ g, e = .returned (.slice (some ⟨g, 0, none⟩) n n) ∧ OwnE encI 3 w' w.heap.size (.slice (some ⟨g, 0, none⟩) n n) (List.replicate n x) ∧ Below w.heap.size w w' := by
  have HM := Lib.hid (mul_c n h0 h1 w)
  obtain ⟨wm, hmk, hown, hgr⟩ := make_I0 w n h0 h1
  obtain ⟨g, hg⟩ : ∃ g, w.heap.size = g := ⟨_, rfl⟩
  have hbm : Below w.heap.size w wm := (Below.refl _ _).grown hgr (Nat.le_refl _) (fun k e => by cases e)
  have hxg : gx < g := by rw [← hg]; exact lt_of_row hx
  have hxm : wm.heap[gx]? = some (.cells #[.int .i64 x] 3 (0, 0)) := (hbm.block gx (lt_of_row hx)).trans hx
  rw [hg] at hmk hown hbm ⊢
  have hf0 : fillE x n 0 = List.replicate n zI0 := by simp [fillE]
  rw [← hf0] at hown
  have hone : cellsE encI (List.replicate 1 x) = [.int .i64 x] := rfl
  have hcp1 : ∀ ty, (Builtin.copy_ #[104, 104] ty #[.slice (some ⟨g, 0, none⟩) n n, .slice (some ⟨gx, 0, none⟩) 1 1]).run Tryd.prog wm = .ok (.int .i64 1) (wm.setCells g (0 * 1) (cellsE encI (List.replicate 1 x))) := fun ty => by
    have := run_copy_K (P := Tryd.prog) wm 104 104 ty 3 1 g (0 * 1) n n ⟨gx, 0, none⟩ 1 1 (cellsE encI (List.replicate 1 x)) Tryd.underlying104 sizeI0 (by rw [cellsE_len, List.length_replicate, show Nat.min 1 n = 1 from Nat.min_eq_left h0])
      (fun j u hj => by rw [Addr.add_lit, Nat.zero_add, cell_of_heap hxm]; rw [hone] at hj; simpa using hj)
      (fun j hj => by rw [cellsE_len, List.length_replicate] at hj; exact (own_room hown _ (by omega)).1) (fun j hj => by rw [cellsE_len, List.length_replicate] at hj; exact (own_room hown _ (by omega)).2) (cellsE_oneCell _ _)
    rw [show Nat.min 1 n = 1 from Nat.min_eq_left h0] at this
    exact this
  obtain ⟨k1, k2⟩ := fill_more (x := x) (m := 1) hown (by omega)
  obtain ⟨W1, hW1⟩ : ∃ W1, wm.setCells g (0 * 1) (cellsE encI (List.replicate 1 x)) = W1 := ⟨_, rfl⟩
  rw [hW1] at hcp1 k1 k2
  rw [show 0 + 1 = 1 from rfl] at k1
  have HO1 := Lib.hid k1
  have HB1 : Hid (Below g w W1) := Lib.hid (hbm.grown k2 (by rw [← hg]; exact hbm.size) (fun k e => by cases e; exact Nat.le_refl _))
  have hn0 : ¬ ((n : Int) < 0) := by omega
  have hn1 : ¬ (9223372036854775807 < (n : Int)) := by omega
  have hcv : IntKind.u64.wrap (n : Int) = (n : Int) := IntWalk.u64_in _ (by omega)
  have hcw : IntKind.i64.wrap (n : Int) = (n : Int) := IntWalk.i64_in _ (by omega)
  have H0 := Lib.hid h0; have H1 := Lib.hid h1
  clear hx hgr hown hxm hxg hbm k1 k2 hW1 hf0 hone h0 h1
  go_enter Tryd.func44, Tryd.ntmps44
  go_wp2_with fail
  refine HM.out.mono ?_
  rintro e w1 ⟨rfl, rfl⟩
  go_wp2_with fail
  have HG := Lib.hid hg
  have mixed : Tryd.prog.follows Departure.mixedOrders = true := by kernel_rfl
  clear hg
  go_loopw [8] (fun V wr => ∃ j : Nat, 1 ≤ j ∧ j ≤ n ∧ V = .int .i64 (j : Int) ∧ OwnE encI 3 wr g (.slice (some ⟨g, 0, none⟩) n n) (fillE x n j) ∧ Below g w1 wr) (fun V _ => n - natOf V)
  case atStart => exact ⟨1, Nat.le_refl _, H0.out, rfl, HO1.out, HB1.out⟩
  case round =>
    obtain ⟨j, hj0, hj1, rfl, ho, hb⟩ := hrel
    clear HO1 HB1
    by_cases hjn : j < n
    · obtain ⟨m, hm⟩ : ∃ m, Nat.min j (n - j) = m := ⟨_, rfl⟩
      have hm1 : 1 ≤ m ∧ j + m ≤ n ∧ m ≤ j := by rw [← hm]; simp only [Nat.min_def]; split <;> omega
      have hj3 : (j : Int) < (n : Int) := by omega
      have hcj : ¬ (n = j) := by omega
      have ht' : Tryd.prog.underlying 104 = some (.slice (Tryd.prog.elem 104)) := by kernel_rfl
      have hel : Tryd.prog.elem 104 = 3 := by kernel_rfl
      have hs1 : ∀ W : World, (Instr.slice 104 (.slice (some ⟨g, 0, none⟩) n n) (some (.int .i64 (j : Int))) none none).run Tryd.prog W = .ok (.slice (some ⟨g, j * 1, none⟩) (n - j) (n - j)) W := fun W => by
        rw [run_slice_l W 104 (some ⟨g, 0, none⟩) n n ht' .i64 (j : Int) (by omega) (by omega), hel]
        simp [Tryd.sizeOf3, Result.andThen, sliced, hcj, Addr.add_lit]
      have hs2 : ∀ W : World, (Instr.slice 104 (.slice (some ⟨g, 0, none⟩) n n) none (some (.int .i64 (j : Int))) none).run Tryd.prog W = .ok (.slice (some ⟨g, 0, none⟩) j n) W := fun W => by
        rw [run_slice_h W 104 (some ⟨g, 0, none⟩) n n ht' .i64 (j : Int) (by omega) (by omega), hel]
        simp [Tryd.sizeOf3, Result.andThen, sliced, add_zeroE]
      have hlen := fillE_len x (n := n) (j := j) hj1
      have hcp : ∀ ty, (Builtin.copy_ #[104, 104] ty #[.slice (some ⟨g, j * 1, none⟩) (n - j) (n - j), .slice (some ⟨g, 0, none⟩) j n]).run Tryd.prog wr.drew = .ok (.int .i64 (m : Int)) (wr.drew.setCells g (j * 1) (cellsE encI (List.replicate m x))) := fun ty => by
        have := run_copy_K (P := Tryd.prog) wr.drew 104 104 ty 3 1 g (j * 1) (n - j) (n - j) ⟨g, 0, none⟩ j n (cellsE encI (List.replicate m x)) Tryd.underlying104 sizeI0 (by rw [cellsE_len, List.length_replicate, hm])
          (fun t u hu => by
            have ht := (List.getElem?_eq_some_iff.1 hu).1
            rw [cellsE_len, List.length_replicate] at ht
            rw [Addr.add_lit, Nat.zero_add]
            refine (own_cellE' ho t (by rw [hlen]; omega)).trans ?_
            have e1 : fillE x n j = List.replicate m x ++ (List.replicate (j - m) x ++ List.replicate (n - j) zI0) := by
              unfold fillE
              rw [← List.append_assoc, List.replicate_append_replicate, show m + (j - m) = j by omega]
            rw [e1, ← cellsE_app, List.getElem?_append_left (by rw [cellsE_len, List.length_replicate]; exact ht)]
            exact hu)
          (fun t ht => by rw [cellsE_len, List.length_replicate] at ht; exact (own_room ho _ (by omega)).1) (fun t ht => by rw [cellsE_len, List.length_replicate] at ht; exact (own_room ho _ (by omega)).2) (cellsE_oneCell _ _)
        rw [hm] at this
        exact this
      obtain ⟨k1, k2⟩ := fill_more (x := x) (w := wr.drew) (m := m) ho hm1.2.1
      have hwj : wrap64 ((j : Int) + (m : Int)) = ((j + m : Nat) : Int) := by unfold wrap64; omega
      have hwi : IntKind.i64.wrap ((j : Int) + (m : Int)) = ((j + m : Nat) : Int) := by rw [IntKind.wrap_i64]; omega
      obtain ⟨W5, hW5⟩ : ∃ W5, wr.drew.setCells g (j * 1) (cellsE encI (List.replicate m x)) = W5 := ⟨_, rfl⟩
      rw [hW5] at hcp k1 k2
      have HO5 := Lib.hid k1
      have HB5 : Hid (Below g w1 W5) := Lib.hid (hb.drew.grown k2 (by have := hb.size; rw [HG.out] at this; exact this) (fun k e => by cases e; exact Nat.le_refl _))
      have HM := Lib.hid hm1
      have HJ := Lib.hid hj0
      clear hm hm1 ho hb hj0 hj1 hjn ht' hel hlen k1 k2 hW5
      go_upto_region 9 with fail
      go_region_law_o (refine step_copy_runI rfl _ _ 104 104 rfl (.slice (some ⟨g, j * 1, none⟩) (n - j) (n - j)) (.slice (some ⟨g, 0, none⟩) j n) (by simp [Act.eval, Act.put]) (by simp [Act.eval, Act.put]) (hcp 3) ?_)
      simp [Act.put]
      go_wp2_with fail
      go_roundw
      case rel => exact ⟨j + m, by have := HJ.out; omega, HM.out.2.1, by first | rfl | (rw [hwi]), HO5.out, HB5.out⟩
      case measure => have := HM.out; simp [natOf]; omega
    · obtain rfl : j = n := by omega
      have HO5 := Lib.hid ho; have HB5 := Lib.hid hb
      clear ho hb hj0 hj1 hjn
      go_wp2_with fail
      go_ret
      refine ⟨g, rfl, ?_, HB5.out⟩
      have := HO5.out
      unfold fillE at this
      simpa using this
end Go.Proofs.YtbfbhlpibclccaaDoor
