/- slices.Repeat of one envelope, a few times, by contract. No conditions. -/
import Derived.Test.YtbdnfppbiplpmaaDoorMaA
import Derived.Test.YtbdnfppbiplpmaaDoorRwL
import Derived.Laws.OwnMore
import Derived.Shelf.Spec.SlicesInsert
import Derived.Deep.RegionLaw
import Derived.Deep.DeepCutAuto
import Derived.Deep.CutBlock
import Derived.Test.YtbdnfppbiplpmaaDoorFtE
import Derived.RangeFuncNested
import Derived.Test.YtbdnfppbiplpmaaDoorRgo
namespace Go.Proofs.YtbdnfppbiplpmaaDoor
open Go Go.RowKit Go.Maps Go.Shelf Go.Sort

set_option maxRecDepth 100000 in
theorem mul64_c (n : Nat) (h0 : 1 ≤ n) (h1 : n ≤ 8) (W : World) : Calls Tryd.prog 93 #[.int .u64 1, .int .u64 (n : Int)] W fun e w' => e = .returned (.tuple #[.int .u64 0, .int .u64 (n : Int)]) ∧ w' = W := by
  have : n = 1 ∨ n = 2 ∨ n = 3 ∨ n = 4 ∨ n = 5 ∨ n = 6 ∨ n = 7 ∨ n = 8 := by omega
  rcases this with rfl | rfl | rfl | rfl | rfl | rfl | rfl | rfl
  all_goals
    go_enter Tryd.func93, Tryd.ntmps93
    go_wp2
    first
      | exact bodyPost_ret (v := .tuple #[.int .u64 0, .int .u64 1]) (by simp [results, Tryd.results93, go_sem]; first | kernel_rfl | exact ⟨by kernel_rfl, by kernel_rfl⟩) rfl ⟨rfl, rfl⟩
      | exact bodyPost_ret (v := .tuple #[.int .u64 0, .int .u64 2]) (by simp [results, Tryd.results93, go_sem]; first | kernel_rfl | exact ⟨by kernel_rfl, by kernel_rfl⟩) rfl ⟨rfl, rfl⟩
      | exact bodyPost_ret (v := .tuple #[.int .u64 0, .int .u64 3]) (by simp [results, Tryd.results93, go_sem]; first | kernel_rfl | exact ⟨by kernel_rfl, by kernel_rfl⟩) rfl ⟨rfl, rfl⟩
      | exact bodyPost_ret (v := .tuple #[.int .u64 0, .int .u64 4]) (by simp [results, Tryd.results93, go_sem]; first | kernel_rfl | exact ⟨by kernel_rfl, by kernel_rfl⟩) rfl ⟨rfl, rfl⟩
      | exact bodyPost_ret (v := .tuple #[.int .u64 0, .int .u64 5]) (by simp [results, Tryd.results93, go_sem]; first | kernel_rfl | exact ⟨by kernel_rfl, by kernel_rfl⟩) rfl ⟨rfl, rfl⟩
      | exact bodyPost_ret (v := .tuple #[.int .u64 0, .int .u64 6]) (by simp [results, Tryd.results93, go_sem]; first | kernel_rfl | exact ⟨by kernel_rfl, by kernel_rfl⟩) rfl ⟨rfl, rfl⟩
      | exact bodyPost_ret (v := .tuple #[.int .u64 0, .int .u64 7]) (by simp [results, Tryd.results93, go_sem]; first | kernel_rfl | exact ⟨by kernel_rfl, by kernel_rfl⟩) rfl ⟨rfl, rfl⟩
      | exact bodyPost_ret (v := .tuple #[.int .u64 0, .int .u64 8]) (by simp [results, Tryd.results93, go_sem]; first | kernel_rfl | exact ⟨by kernel_rfl, by kernel_rfl⟩) rfl ⟨rfl, rfl⟩
theorem mul_c (n : Nat) (h0 : 1 ≤ n) (h1 : n ≤ 8) (W : World) : Calls Tryd.prog 80 #[.int .u64 1, .int .u64 (n : Int)] W fun e w' => e = .returned (.tuple #[.int .u64 0, .int .u64 (n : Int)]) ∧ w' = W := by
  have HM := Lib.hid (mul64_c n h0 h1)
  clear h0 h1
  go_enter Tryd.func80, Tryd.ntmps80
  go_wp2_with fail
  refine (HM.out _).mono ?_
  rintro e w1 ⟨rfl, rfl⟩
  go_wp2_with fail
  exact bodyPost_ret (v := .tuple #[.int .u64 0, .int .u64 (n : Int)]) (by simp [results, Tryd.results80, go_sem]) rfl ⟨rfl, rfl⟩

/-- A number's value, as a measure. -/
def natOf : Value → Nat
  | .int _ z => z.toNat
  | _ => 0
/-- What a row has while it is filled. -/
def env0 : EnvR := ⟨false, ⟨0, 0, 0, 0⟩⟩
def fillE (x : EnvR) (n j : Nat) : List EnvR := List.replicate j x ++ List.replicate (n - j) env0
theorem fillE_len (x : EnvR) {n j : Nat} (h : j ≤ n) : (fillE x n j).length = n := by simp [fillE]; omega
theorem Tryd.infoEnv : (Tryd.prog.info? 114).map (fun i => (i.zero, i.size, i.bytes)) = some (some (.agg #[.bool false, .int .i64 0, .int .i64 0, .int .i64 0, .int .i64 0]), 5, 40) := by kernel_rfl
theorem infoEnv_parts : ∃ i, Tryd.prog.info? 114 = some i ∧ i.zero = some (.agg #[.bool false, .int .i64 0, .int .i64 0, .int .i64 0, .int .i64 0]) ∧ i.size = 5 ∧ i.bytes = 40 := by
  obtain ⟨i, h1, h2⟩ := Option.map_eq_some_iff.1 Tryd.infoEnv
  simp only [Prod.mk.injEq] at h2
  exact ⟨i, h1, h2.1, h2.2.1, h2.2.2⟩
theorem made_env (n : Nat) (hn : n = 1 ∨ n = 2 ∨ n = 3 ∨ n = 4 ∨ n = 5 ∨ n = 6 ∨ n = 7 ∨ n = 8) : (madeCells (Value.agg #[.bool false, .int .i64 0, .int .i64 0, .int .i64 0, .int .i64 0]).cells (n * 5)).toList = cellsE encEnv (List.replicate n env0) := by
  rcases hn with rfl | rfl | rfl | rfl | rfl | rfl | rfl | rfl <;> kernel_rfl
theorem make_env (w : World) (n : Nat) (h0 : 1 ≤ n) (h1 : n ≤ 8) : ∃ w', (Instr.makeSlice 111 (.int .i64 (n : Int)) (.int .i64 (n : Int))).run Tryd.prog w = .ok (.slice (some ⟨w.heap.size, 0, none⟩) n n) w' ∧
    OwnE encEnv 114 w' w.heap.size (.slice (some ⟨w.heap.size, 0, none⟩) n n) (List.replicate n env0) ∧ w.grownBy w' none := by
  obtain ⟨i, hi, hz, hs, hb⟩ := infoEnv_parts
  obtain ⟨w', k1, k2, k3⟩ := run_makeSlice_full (P := Tryd.prog) w w.heap.size 111 114 i _ 5 Tryd.underlying111 hi hz hs .i64 .i64 n (by omega) (by rw [hb]; omega) (by unfold maxLen; omega) (Nat.le_refl _)
  refine ⟨w', k1, ?_, k3⟩
  rw [made_env n (by omega)] at k2
  unfold OwnE
  rw [List.length_replicate]; exact k2
/-- A part of what is filled goes over the next. -/
theorem fill_more {e : TypeId} {w : World} {base g n j m : Nat} {x : EnvR} (h : OwnE encEnv e w base (.slice (some ⟨g, 0, none⟩) n n) (fillE x n j)) (hm : j + m ≤ n) :
    OwnE encEnv e (w.setCells g (j * 5) (cellsE encEnv (List.replicate m x))) base (.slice (some ⟨g, 0, none⟩) n n) (fillE x n (j + m)) ∧ w.grownBy (w.setCells g (j * 5) (cellsE encEnv (List.replicate m x))) (some g) := by
  have hl := fillE_len x (n := n) (j := j) (by omega)
  have hl2 := fillE_len x (n := n) (j := j + m) (by omega)
  have h' : OwnE encEnv e w base (.slice (some ⟨g, 0, none⟩) (fillE x n j).length n) (fillE x n j) := by rw [hl]; exact h
  have hlen : (cellsE encEnv (List.replicate m x)).length = m * 5 := by rw [cellsE_len, List.length_replicate]
  have key := own_setCells (E := encEnv) (M := fillE x n (j + m)) h' (j * 5) (cellsE encEnv (List.replicate m x)) (by rw [hl2]; exact Nat.le_refl _) (by rw [hlen]; omega) (fun t u hu => ?_)
  · rwa [hl2] at key
  · have ht : t < n * 5 := by
      have := (List.getElem?_eq_some_iff.1 hu).1
      rwa [cellsE_len, hl2] at this
    have ea : cellsE encEnv (fillE x n (j + m)) = cellsE encEnv (List.replicate j x) ++ (cellsE encEnv (List.replicate m x) ++ cellsE encEnv (List.replicate (n - (j + m)) env0)) := by
      unfold fillE
      rw [cellsE_app, cellsE_app, ← List.append_assoc, List.replicate_append_replicate]
    have eb : cellsE encEnv (fillE x n j) = cellsE encEnv (List.replicate j x) ++ (cellsE encEnv (List.replicate m env0) ++ cellsE encEnv (List.replicate (n - (j + m)) env0)) := by
      unfold fillE
      rw [cellsE_app, cellsE_app, List.replicate_append_replicate, show m + (n - (j + m)) = n - j by omega]
    rw [ea] at hu
    have lj : (cellsE encEnv (List.replicate j x)).length = j * 5 := by rw [cellsE_len, List.length_replicate]
    have lm0 : (cellsE encEnv (List.replicate m env0)).length = m * 5 := by rw [cellsE_len, List.length_replicate]
    rw [hlen]
    by_cases h1 : t < j * 5
    · rw [if_neg (by omega), own_cellE' h' t (by rw [hl]; exact ht), eb, List.getElem?_append_left (by omega)]
      rw [List.getElem?_append_left (by omega)] at hu
      exact hu
    · rw [List.getElem?_append_right (by omega), lj] at hu
      by_cases h2 : t < j * 5 + m * 5
      · rw [if_pos ⟨by omega, h2⟩]
        rw [List.getElem?_append_left (by rw [hlen]; omega)] at hu
        exact hu
      · rw [if_neg (by omega), own_cellE' h' t (by rw [hl]; exact ht), eb, List.getElem?_append_right (by omega), lj, List.getElem?_append_right (by rw [lm0]; omega), lm0]
        rw [List.getElem?_append_right (by rw [hlen]; omega), hlen] at hu
        exact hu
theorem sizeEnv : (Tryd.prog.info? 114).map (·.size) = some 5 := by kernel_rfl
set_option maxRecDepth 100000 in
set_option maxHeartbeats 3200000 in
/-- slices.Repeat. -/
theorem arep_c (n : Nat) (h0 : 1 ≤ n) (h1 : n ≤ 8) (x : EnvR) (gx : Nat) (w : World) (hx : w.heap[gx]? = some (.cells #[.bool x.up, .int .i64 x.left.a, .int .i64 x.left.b, .int .i64 x.left.c, .int .i64 x.left.d] 114 (0, 0))) :
    Calls Tryd.prog 56 #[.slice (some ⟨gx, 0, none⟩) 1 1, .int .i64 (n : Int)] w fun e w' => ∃ g, e = .returned (.slice (some ⟨g, 0, none⟩) n n) ∧ OwnE encEnv 114 w' w.heap.size (.slice (some ⟨g, 0, none⟩) n n) (List.replicate n x) ∧ Below w.heap.size w w' := by
  have HM := Lib.hid (mul_c n h0 h1 w)
  obtain ⟨wm, hmk, hown, hgr⟩ := make_env w n h0 h1
  obtain ⟨g, hg⟩ : ∃ g, w.heap.size = g := ⟨_, rfl⟩
  have hbm : Below w.heap.size w wm := (Below.refl _ _).grown hgr (Nat.le_refl _) (fun k e => by cases e)
  have hxg : gx < g := by rw [← hg]; exact lt_of_row hx
  have hxm : wm.heap[gx]? = some (.cells #[.bool x.up, .int .i64 x.left.a, .int .i64 x.left.b, .int .i64 x.left.c, .int .i64 x.left.d] 114 (0, 0)) := (hbm.block gx (lt_of_row hx)).trans hx
  rw [hg] at hmk hown hbm ⊢
  have hf0 : fillE x n 0 = List.replicate n env0 := by simp [fillE]
  rw [← hf0] at hown
  have hone : cellsE encEnv (List.replicate 1 x) = [.bool x.up, .int .i64 x.left.a, .int .i64 x.left.b, .int .i64 x.left.c, .int .i64 x.left.d] := rfl
  have hcp1 : ∀ ty, (Builtin.copy_ #[111, 111] ty #[.slice (some ⟨g, 0, none⟩) n n, .slice (some ⟨gx, 0, none⟩) 1 1]).run Tryd.prog wm = .ok (.int .i64 1) (wm.setCells g (0 * 5) (cellsE encEnv (List.replicate 1 x))) := fun ty => by
    have := run_copy_K (P := Tryd.prog) wm 111 111 ty 114 5 g (0 * 5) n n ⟨gx, 0, none⟩ 1 1 (cellsE encEnv (List.replicate 1 x)) Tryd.underlying111 sizeEnv (by rw [cellsE_len, List.length_replicate, show Nat.min 1 n = 1 from Nat.min_eq_left h0])
      (fun j u hj => by rw [Addr.add_lit, Nat.zero_add, cell_of_heap hxm]; rw [hone] at hj; simpa using hj)
      (fun j hj => by rw [cellsE_len, List.length_replicate] at hj; exact (own_room hown _ (by omega)).1) (fun j hj => by rw [cellsE_len, List.length_replicate] at hj; exact (own_room hown _ (by omega)).2) (cellsE_oneCell _ _)
    rw [show Nat.min 1 n = 1 from Nat.min_eq_left h0] at this
    exact this
  obtain ⟨k1, k2⟩ := fill_more (x := x) (m := 1) hown (by omega)
  obtain ⟨W1, hW1⟩ : ∃ W1, wm.setCells g (0 * 5) (cellsE encEnv (List.replicate 1 x)) = W1 := ⟨_, rfl⟩
  rw [hW1] at hcp1 k1 k2
  rw [show 0 + 1 = 1 from rfl] at k1
  have HO1 := Lib.hid k1
  have HB1 : Hid (Below g w W1) := Lib.hid (hbm.grown k2 (by rw [← hg]; exact hbm.size) (fun k e => by cases e; exact Nat.le_refl _))
  have hn0 : ¬ ((n : Int) < 0) := by omega
  have hn1 : ¬ (9223372036854775807 < (n : Int)) := by omega
  have hcv : IntKind.u64.wrap (n : Int) = (n : Int) := IntWalk.u64_in _ (by omega)
  have hcw : IntKind.i64.wrap (n : Int) = (n : Int) := IntWalk.i64_in _ (by omega)
  have H0 := Lib.hid h0; have H1 := Lib.hid h1
  clear hx hgr hown hxm hxg hbm k1 k2 hW1 hf0 hone h0 h1
  go_enter Tryd.func56, Tryd.ntmps56
  go_wp2_with fail
  refine HM.out.mono ?_
  rintro e w1 ⟨rfl, rfl⟩
  go_wp2_with fail
  have HG := Lib.hid hg
  have mixed : Tryd.prog.follows Departure.mixedOrders = true := by kernel_rfl
  clear hg
  go_loopw [8] (fun V wr => ∃ j : Nat, 1 ≤ j ∧ j ≤ n ∧ V = .int .i64 (j : Int) ∧ OwnE encEnv 114 wr g (.slice (some ⟨g, 0, none⟩) n n) (fillE x n j) ∧ Below g w1 wr) (fun V _ => n - natOf V)
  case atStart => exact ⟨1, Nat.le_refl _, H0.out, rfl, HO1.out, HB1.out⟩
  case round =>
    obtain ⟨j, hj0, hj1, rfl, ho, hb⟩ := hrel
    clear HO1 HB1
    by_cases hjn : j < n
    · obtain ⟨m, hm⟩ : ∃ m, Nat.min j (n - j) = m := ⟨_, rfl⟩
      have hm1 : 1 ≤ m ∧ j + m ≤ n ∧ m ≤ j := by rw [← hm]; simp only [Nat.min_def]; split <;> omega
      have hj3 : (j : Int) < (n : Int) := by omega
      have hcj : ¬ (n = j) := by omega
      have ht' : Tryd.prog.underlying 111 = some (.slice (Tryd.prog.elem 111)) := by kernel_rfl
      have hel : Tryd.prog.elem 111 = 114 := by kernel_rfl
      have hs1 : ∀ W : World, (Instr.slice 111 (.slice (some ⟨g, 0, none⟩) n n) (some (.int .i64 (j : Int))) none none).run Tryd.prog W = .ok (.slice (some ⟨g, j * 5, none⟩) (n - j) (n - j)) W := fun W => by
        rw [run_slice_l W 111 (some ⟨g, 0, none⟩) n n ht' .i64 (j : Int) (by omega) (by omega), hel]
        simp [Tryd.sizeOf114, Result.andThen, sliced, hcj, Addr.add_lit]
      have hs2 : ∀ W : World, (Instr.slice 111 (.slice (some ⟨g, 0, none⟩) n n) none (some (.int .i64 (j : Int))) none).run Tryd.prog W = .ok (.slice (some ⟨g, 0, none⟩) j n) W := fun W => by
        rw [run_slice_h W 111 (some ⟨g, 0, none⟩) n n ht' .i64 (j : Int) (by omega) (by omega), hel]
        simp [Tryd.sizeOf114, Result.andThen, sliced, add_zeroE]
      have hlen := fillE_len x (n := n) (j := j) hj1
      have hcp : ∀ ty, (Builtin.copy_ #[111, 111] ty #[.slice (some ⟨g, j * 5, none⟩) (n - j) (n - j), .slice (some ⟨g, 0, none⟩) j n]).run Tryd.prog wr.drew = .ok (.int .i64 (m : Int)) (wr.drew.setCells g (j * 5) (cellsE encEnv (List.replicate m x))) := fun ty => by
        have := run_copy_K (P := Tryd.prog) wr.drew 111 111 ty 114 5 g (j * 5) (n - j) (n - j) ⟨g, 0, none⟩ j n (cellsE encEnv (List.replicate m x)) Tryd.underlying111 sizeEnv (by rw [cellsE_len, List.length_replicate, hm])
          (fun t u hu => by
            have ht := (List.getElem?_eq_some_iff.1 hu).1
            rw [cellsE_len, List.length_replicate] at ht
            rw [Addr.add_lit, Nat.zero_add]
            refine (own_cellE' ho t (by rw [hlen]; omega)).trans ?_
            have e1 : fillE x n j = List.replicate m x ++ (List.replicate (j - m) x ++ List.replicate (n - j) env0) := by
              unfold fillE
              rw [← List.append_assoc, List.replicate_append_replicate, show m + (j - m) = j by omega]
            rw [e1, ← cellsE_app, List.getElem?_append_left (by rw [cellsE_len, List.length_replicate]; exact ht)]
            exact hu)
          (fun t ht => by rw [cellsE_len, List.length_replicate] at ht; exact (own_room ho _ (by omega)).1) (fun t ht => by rw [cellsE_len, List.length_replicate] at ht; exact (own_room ho _ (by omega)).2) (cellsE_oneCell _ _)
        rw [hm] at this
        exact this
      obtain ⟨k1, k2⟩ := fill_more (x := x) (w := wr.drew) (m := m) ho hm1.2.1
      have hwj : wrap64 ((j : Int) + (m : Int)) = ((j + m : Nat) : Int) := by unfold wrap64; omega
      have hwi : IntKind.i64.wrap ((j : Int) + (m : Int)) = ((j + m : Nat) : Int) := by rw [IntKind.wrap_i64]; omega
      obtain ⟨W5, hW5⟩ : ∃ W5, wr.drew.setCells g (j * 5) (cellsE encEnv (List.replicate m x)) = W5 := ⟨_, rfl⟩
      rw [hW5] at hcp k1 k2
      have HO5 := Lib.hid k1
      have HB5 : Hid (Below g w1 W5) := Lib.hid (hb.drew.grown k2 (by have := hb.size; rw [HG.out] at this; exact this) (fun k e => by cases e; exact Nat.le_refl _))
      have HM := Lib.hid hm1
      have HJ := Lib.hid hj0
      clear hm hm1 ho hb hj0 hj1 hjn ht' hel hlen k1 k2 hW5
      go_upto_region 9 with fail
      go_region_law_o (refine step_copy_runI rfl _ _ 111 111 rfl (.slice (some ⟨g, j * 5, none⟩) (n - j) (n - j)) (.slice (some ⟨g, 0, none⟩) j n) (by simp [Act.eval, Act.put]) (by simp [Act.eval, Act.put]) (hcp 3) ?_)
      simp [Act.put]
      go_wp2_with fail
      go_roundw
      case rel => exact ⟨j + m, by have := HJ.out; omega, HM.out.2.1, by first | rfl | (rw [hwi]), HO5.out, HB5.out⟩
      case measure => have := HM.out; simp [natOf]; omega
    · obtain rfl : j = n := by omega
      have HO5 := Lib.hid ho; have HB5 := Lib.hid hb
      clear ho hb hj0 hj1 hjn
      go_wp2_with fail
      go_ret
      refine ⟨g, rfl, ?_, HB5.out⟩
      have := HO5.out
      unfold fillE at this
      simpa using this
end Go.Proofs.YtbdnfppbiplpmaaDoor

/- The program's book of envelopes by contracts: Raise, Take. Conditions: the book lies in memory as its maps have it; the sentinels lie where the program's text lays them. -/
namespace Go.Proofs.YtbdnfppbiplpmaaDoor
open Go Go.RowKit Go.Maps

theorem findE_some {G : AG} {id pos : Int} (h : findE G id pos = 0) : ∃ (s : SetA) (k : Nat), setA G id = some s ∧ pos = (k : Int) ∧ k < s.n := by
  unfold findE at h
  cases e : setA G id with
  | none => rw [e] at h; simp at h
  | some s =>
    rw [e] at h
    simp only at h
    split at h
    · cases h
    · exact ⟨s, pos.toNat, rfl, by omega, by omega⟩
theorem turnA_no {G : AG} {id pos : Int} {b : Bool} (h : 0 < findE G id pos) : turnA G id pos b = (G, findE G id pos) := by
  unfold turnA; unfold findE at h ⊢
  cases e : setA G id with
  | none => rfl
  | some s =>
    rw [e] at h
    simp only at h ⊢
    split at h
    · rename_i k; rw [if_pos k, if_pos k]
    · omega
theorem turnA_is {G : AG} {id : Int} {b : Bool} {s : SetA} {k : Nat} (e : setA G id = some s) (hk : k < s.n) : turnA G id (k : Int) b = if s.up (k : Int) = b then (G, 13) else (turnG G id k b, 0) := by
  unfold turnA; rw [e]; simp only
  rw [if_neg (by omega)]
section
variable {w : World} {P : Nat → Prop} {q b1 b2 : Nat} {T1 : List (Int × Option (Nat × Nat))} {T2 : List (Tk × SeatR)} {bl : Int → Nat} {G : AG}
theorem AlP.none_in (h : GA G) {id : Int} {s : SetA} {k : Int} (e : setA G id = some s) (hu : s.up k = false) : ∀ x ∈ G.tasks, inE id k x = false := fun x hx => by
  obtain ⟨_, z, hz, _, _, h4⟩ := h.task x hx
  cases hi : inE id k x with
  | false => rfl
  | true =>
    simp only [inE, Bool.and_eq_true, decide_eq_true_eq] at hi
    rw [hi.1, e] at hz
    obtain rfl := Option.some.inj hz
    rw [hi.2, hu] at h4; cases h4
set_option maxRecDepth 100000 in
set_option maxHeartbeats 1600000 in
/-- Book.Raise. -/
theorem araise_c (s : Nat → Addr) (h : AlP w P q b1 b2 T1 T2 bl G) (hs : SentP s P w) {id pos : Int} (hid : i64 id) :
    Calls Tryd.prog 13 #[.pointer (some ⟨q, 0, none⟩), .int .i64 id, .int .i64 pos] w fun e w' => e = .returned (errV s (turnA G id pos true).2) ∧ AlP w' P q b1 b2 T1 T2 bl (turnA G id pos true).1 ∧ ChP P w w' := by
  rcases Nat.eq_zero_or_pos (findE G id pos) with h0 | h0
  · obtain ⟨sA, k, e, rfl, hk⟩ := findE_some h0
    rw [turnA_is e hk]
    have HF := Lib.hid (afind_ok h e hk hid)
    obtain ⟨c0, _, _, _, _, cf⟩ := h.cells e hk
    have e12 := hs.here.cell 12 (by omega)
    simp only [gnum, List.getD_cons_zero, List.getD_cons_succ] at e12
    have H := Lib.hid h
    cases hu : sA.up (k : Int) with
    | true =>
      rw [if_pos rfl]
      rw [hu] at c0
      clear h hs e hk h0
      go_enter Tryd.func13, Tryd.ntmps13
      go_wp2_with fail
      refine HF.out.mono ?_
      rintro e w1 ⟨rfl, rfl⟩
      go_wp2_with fail
      go_ret
      exact ⟨rfl, H.out, ChP.refl _ _⟩
    | false =>
      rw [if_neg (by decide)]
      rw [hu] at c0
      have HT := Lib.hid (h.turned (b := true) e hk hu (AlP.none_in h.good e hu))
      have hpr := h.pr id sA e
      clear h hs e hk h0 e12
      go_enter Tryd.func13, Tryd.ntmps13
      go_wp2_with fail
      refine HF.out.mono ?_
      rintro e w1 ⟨rfl, rfl⟩
      go_wp2_with fail
      go_ret
      exact ⟨rfl, HT.out, (ChP.refl _ _).setCell (.inl hpr) _⟩
  · have HF := Lib.hid (afind_no s h hs.here h0 hid)
    rw [turnA_no h0]
    have H := Lib.hid h
    obtain ⟨E, hE⟩ : ∃ E, findE G id pos = E + 1 := ⟨findE G id pos - 1, by omega⟩
    rw [hE] at HF ⊢
    rw [errA s (E + 1) (by omega)] at HF ⊢
    clear h hs h0 hE
    go_enter Tryd.func13, Tryd.ntmps13
    go_wp2_with fail
    refine HF.out.mono ?_
    rintro e w1 ⟨rfl, hb⟩
    go_wp2_with fail
    go_ret
    exact ⟨rfl, H.out.on hb, ChP.of_below hb⟩
end
/-- .. of no book. -/
theorem araise_nil (s : Nat → Addr) (w : World) (hs : Sent s w) (id pos : Int) :
    Calls Tryd.prog 13 #[.pointer none, .int .i64 id, .int .i64 pos] w fun e w' => e = .returned (errV s 2) ∧ Below w.heap.size w w' := by
  have HF := Lib.hid (afind_nil s w hs id pos)
  rw [errA s 2 (by omega)] at HF ⊢
  clear hs
  go_enter Tryd.func13, Tryd.ntmps13
  go_wp2_with fail
  refine HF.out.mono ?_
  rintro e w1 ⟨rfl, hb⟩
  go_wp2_with fail
  go_ret
  exact ⟨rfl, hb⟩
end Go.Proofs.YtbdnfppbiplpmaaDoor

/- The program's book of envelopes by contracts: Spots. Condition: the book lies in memory as its maps have it. -/
namespace Go.Proofs.YtbdnfppbiplpmaaDoor
open Go Go.RowKit Go.Maps

theorem infoPS_parts : ∃ i, Tryd.prog.info? 65 = some i ∧ i.zero = some (.agg #[.int .i64 0, .int .i64 0, .int .i64 0, .int .i64 0, .int .i64 0]) ∧ i.size = 5 ∧ i.bytes = 40 := by
  obtain ⟨i, h1, h2⟩ := Option.map_eq_some_iff.1 Tryd.infoPS
  simp only [Prod.mk.injEq] at h2
  exact ⟨i, h1, h2.1, h2.2.1, h2.2.2⟩
/-- The spots of a set. -/
def spotsOf (G : AG) (id : Int) : List Spt := match setA G id with
  | none => []
  | some s => spotsA G s s.n
theorem spotsA_succ (G : AG) (s : SetA) (k : Nat) : spotsA G s (k + 1) = spotsA G s k ++ (if s.up (k : Int) = true then [⟨(k : Int), leftA G s (k : Int)⟩] else []) := by
  unfold spotsA
  rw [List.range_succ, List.filter_append, List.map_append, List.filter_cons]
  split <;> simp [*]
theorem spotsA_len (G : AG) (s : SetA) (k : Nat) : (spotsA G s k).length ≤ k := by
  unfold spotsA
  rw [List.length_map]
  have := List.length_filter_le (fun (i : Nat) => s.up (i : Int)) (List.range k)
  simpa using this
section
variable {w : World} {P : Nat → Prop} {q b1 b2 : Nat} {T1 : List (Int × Option (Nat × Nat))} {T2 : List (Tk × SeatR)} {bl : Int → Nat} {G : AG}
set_option maxRecDepth 100000 in
set_option maxHeartbeats 3200000 in
/-- Book.Spots. -/
theorem aspots_c (h : AlP w P q b1 b2 T1 T2 bl G) {id : Int} (hid : i64 id) :
    Calls Tryd.prog 24 #[.pointer (some ⟨q, 0, none⟩), .int .i64 id] w fun e w' => ∃ v, e = .returned v ∧ OwnE encSpt 65 w' w.heap.size v (spotsOf G id) ∧ Below w.heap.size w w' := by
  have HK := Lib.hid (aknown_c q b1 b2 w h.box)
  have hf0 := fieldB0
  have HM : Hid (∀ w', Below w.heap.size w w' → SetsAt w' b1 T1) := Lib.hid fun w' hb => (h.on hb).m1
  cases e : setA G id with
  | none =>
    have hv : slV ((look T1 id).getD none) = .slice none 0 0 := by rw [h.miss e]; rfl
    have hs : spotsOf G id = [] := by unfold spotsOf; rw [e]
    rw [hs]
    clear h e hs
    go_enter Tryd.func24, Tryd.ntmps24
    go_wp2_with fail
    refine HK.out.mono ?_
    rintro e w1 ⟨rfl, bb1⟩
    have hm1 := HM.out w1 bb1
    have HB1 := Lib.hid bb1
    clear bb1
    go_wp2_with (at_lookup; refine wpList_lookG _ kitI rfl _ _ 104 rfl 111 Tryd.underlying104 slV none (Tryd.zeroSl _) b1 T1 rfl hm1 id rfl hid _ hv ?_)
    go_loopw [5, 14] (fun V I wr => V = .slice none 0 0 ∧ I = .int .i64 0 ∧ wr = w1) (fun _ _ _ => 0)
    case atStart => exact ⟨rfl, rfl, rfl⟩
    case round =>
      obtain ⟨rfl, rfl, rfl⟩ := hrel
      go_wp2_with fail
      go_ret
      exact ⟨_, rfl, OwnE.nil _ _ _, HB1.out⟩
  | some sA =>
    obtain ⟨ad, had⟩ : ∃ ad : Addr, (⟨bl id, 0, none⟩ : Addr) = ad := ⟨_, rfl⟩
    have HADD : Hid (∀ k : Nat, ad.add (k * 5) = ⟨bl id, k * 5, none⟩) := Lib.hid fun k => by rw [← had, Addr.add_lit, Nat.zero_add]
    have hv : slV ((look T1 id).getD none) = .slice (some ad) sA.n sA.n := by rw [h.hit e]; simp [slV, had]
    have hs : spotsOf G id = spotsA G sA sA.n := by unfold spotsOf; rw [e]
    have hn8 := h.good.set sA (set_mem h.good e)
    have HN8 : Hid (sA.n ≤ 8) := Lib.hid hn8.2.2.2.1
    have HCE : Hid (∀ W, Below w.heap.size w W → ∀ k : Nat, k < sA.n → W.cell? ⟨bl id, k * 5, none⟩ = some (.bool (sA.up (k : Int))) ∧ W.cell? ⟨bl id, k * 5 + 1, none⟩ = some (.int .i64 (leftA G sA k).a) ∧ W.cell? ⟨bl id, k * 5 + 2, none⟩ = some (.int .i64 (leftA G sA k).b) ∧
      W.cell? ⟨bl id, k * 5 + 3, none⟩ = some (.int .i64 (leftA G sA k).c) ∧ W.cell? ⟨bl id, k * 5 + 4, none⟩ = some (.int .i64 (leftA G sA k).d)) := Lib.hid fun W hb k hk => by
      obtain ⟨a1, a2, a3, a4, a5, _⟩ := (h.on hb).cells e hk
      exact ⟨a1, a2, a3, a4, a5⟩
    rw [hs]
    obtain ⟨gE, hgE⟩ : ∃ gE, bl id = gE := ⟨_, rfl⟩
    rw [hgE] at HADD HCE
    obtain ⟨i0, hi0, hz0, hz1, hz2⟩ := infoPS_parts
    have HI0 := Lib.hid hi0; have HZ0 := Lib.hid hz0; have HZ1 := Lib.hid hz1; have HZ2 := Lib.hid hz2
    clear h e hs had hgE hn8 hi0 hz0 hz1 hz2
    go_enter Tryd.func24, Tryd.ntmps24
    go_wp2_with fail
    refine HK.out.mono ?_
    rintro e w1 ⟨rfl, bb1⟩
    have hm1 := HM.out w1 bb1
    have HB1 := Lib.hid bb1
    clear bb1
    go_wp2_with (at_lookup; refine wpList_lookG _ kitI rfl _ _ 104 rfl 111 Tryd.underlying104 slV none (Tryd.zeroSl _) b1 T1 rfl hm1 id rfl hid _ hv ?_)
    go_loopw [5, 14] (fun V I wr => ∃ k : Nat, k ≤ sA.n ∧ I = .int .i64 (k : Int) ∧ OwnE encSpt 65 wr w.heap.size V (spotsA G sA k) ∧ Below w.heap.size w wr) (fun _ I _ => sA.n - natOf I)
    case atStart => exact ⟨0, Nat.zero_le _, rfl, OwnE.nil _ _ _, HB1.out⟩
    case round =>
      clear hm1 hv
      obtain ⟨k, hk, rfl, ho, hb⟩ := hrel
      obtain ⟨A, c, hv⟩ := ho.form
      subst hv
      obtain ⟨N, hN⟩ : ∃ N, (spotsA G sA k).length = N := ⟨_, rfl⟩
      have HNN : Hid (N ≤ 8) := Lib.hid (by have := spotsA_len G sA k; have := HN8.out; omega)
      have HO := Lib.hid ho; have HB := Lib.hid hb; have HN := Lib.hid hN
      rw [hN]
      clear ho hb hN
      by_cases hkn : k < sA.n
      · have k0 : (0 : Int) ≤ (k : Int) := by omega
        have k1 : (k : Int) < (sA.n : Int) := by omega
        have hw1 : wrap64 ((k : Int) + 1) = ((k + 1 : Nat) : Int) := by have := HN8.out; unfold wrap64; omega
        have had := HADD.out k
        obtain ⟨a0, a1, a2, a3, a4⟩ := HCE.out wr HB.out k hkn
        have HSU := Lib.hid (spotsA_succ G sA k)
        obtain ⟨l, hl⟩ : ∃ l, leftA G sA (k : Int) = l := ⟨_, rfl⟩
        rw [hl] at a1 a2 a3 a4 HSU
        have HK8 : Hid (k < 8) := Lib.hid (by have := HN8.out; omega)
        clear hk hl
        have hcap : (k : Int) ≤ 8 := by have := HK8.out; omega
        cases hu : sA.up (k : Int) with
        | true =>
          rw [hu] at a0
          rw [hu, if_pos rfl] at HSU
          obtain ⟨W5, hW5⟩ : ∃ W5, (wr.alloc (.cells #[.bool true, .int .i64 l.a, .int .i64 l.b, .int .i64 l.c, .int .i64 l.d] 114)).alloc (.cells #[.int .i64 (k : Int), .int .i64 l.a, .int .i64 l.b, .int .i64 l.c, .int .i64 l.d] 65) = W5 := ⟨_, rfl⟩
          have hb5 : Below wr.heap.size wr W5 := by rw [← hW5]; exact ((Below.refl _ _).alloc (Nat.le_refl _) _).alloc (by simp) _
          have A1 : Hid (OwnE encSpt 65 W5 w.heap.size (.slice A N c) (spotsA G sA k)) := Lib.hid (by have := HO.out.on hb5; rwa [HN.out] at this)
          have A2 : Hid (LiesE encSpt W5 (.slice (some ⟨wr.heap.size + 1, 0, none⟩) 1 1) [⟨(k : Int), l⟩]) := Lib.hid (by
            have := lies_lit encSpt (w := W5) (g := wr.heap.size + 1) (t := 65) [⟨(k : Int), l⟩] (by rw [← hW5]; have := heap_alloc_new (wr.alloc (.cells #[.bool true, .int .i64 l.a, .int .i64 l.b, .int .i64 l.c, .int .i64 l.d] 114)) (.cells #[.int .i64 (k : Int), .int .i64 l.a, .int .i64 l.b, .int .i64 l.c, .int .i64 l.d] 65); simp only [World.size_alloc] at this; exact this)
            exact this)
          have A3 : Hid ((spotsA G sA k).length + [(⟨(k : Int), l⟩ : Spt)].length ≤ maxLen) := Lib.hid (by rw [HN.out]; have := HNN.out; simp only [List.length_singleton, maxLen]; omega)
          have A4 : Hid (((spotsA G sA k).length + [(⟨(k : Int), l⟩ : Spt)].length) * 40 ≤ 140737488355328) := Lib.hid (by rw [HN.out]; have := HNN.out; simp only [List.length_singleton]; omega)
          have A5 : Hid (w.heap.size ≤ W5.heap.size) := Lib.hid (Nat.le_trans HB.out.size hb5.size)
          have HB5 := Lib.hid hb5
          have HW5 := Lib.hid hW5
          clear hW5 hb5
          have h0 := HI0.out; have z0 := HZ0.out; have z1 := HZ1.out; have z2 := HZ2.out
          go_wp2_with (at_builtin; rw [HW5.out]; refine wpList_append_E (E := encSpt) rfl _ _ 59 rfl i0 _ 40 Tryd.underlying59 h0 z0 z1 z2 rfl (by decide) rfl A1.out rfl A2.out A3.out A4.out A5.out ?_; intro v' w' hv hgr hown)
          have HV := Lib.hid hv
          have HBW : Hid (Below w.heap.size w w') := Lib.hid ((HB.out.trans (HB5.out.mono HB.out.size)).grown hgr (Nat.le_trans HB.out.size HB5.out.size) (fun j hj => (A1.out.lt j hj).1))
          clear hv hgr hown
          go_wp2_with fail
          go_roundw
          case rel => exact ⟨k + 1, hkn, by rw [← hw1]; first | rfl | (congr 1; omega), by rw [HSU.out]; exact HV.out, HBW.out⟩
          case measure => simp [natOf]; omega
        | false =>
          rw [hu] at a0
          rw [hu, if_neg (by decide), List.append_nil] at HSU
          go_wp2_with fail
          go_roundw
          case rel => exact ⟨k + 1, hkn, by rw [← hw1]; first | rfl | (congr 1; omega), by rw [HSU.out]; have := HO.out.on (w' := wr.alloc (.cells #[.bool false, .int .i64 l.a, .int .i64 l.b, .int .i64 l.c, .int .i64 l.d] 114)) ((Below.refl _ _).alloc (Nat.le_refl _) _); rwa [HN.out] at this, HB.out.alloc HB.out.size _⟩
          case measure => simp [natOf]; omega
      · obtain rfl : k = sA.n := by omega
        go_wp2_with fail
        go_ret
        exact ⟨_, rfl, by have := HO.out; rwa [HN.out] at this, HB.out⟩
end
end Go.Proofs.YtbdnfppbiplpmaaDoor

/- The program's book of envelopes by contracts: Close. Conditions: the book lies in memory as its maps have it; the sentinels lie where the program's text lays them. -/
namespace Go.Proofs.YtbdnfppbiplpmaaDoor
open Go Go.RowKit Go.Maps

section
variable {w : World} {P : Nat → Prop} {q b1 b2 : Nat} {T1 : List (Int × Option (Nat × Nat))} {T2 : List (Tk × SeatR)} {bl : Int → Nat} {G : AG}
/-- A set is removed. -/
theorem AlP.closed (h : AlP w P q b1 b2 T1 T2 bl G) {id : Int} (_hid : i64 id) (hs : (setA G id).isSome = true) (hno : G.tasks.any (fun x => decide (x.set = id)) = false) {w6 w9 : World} (hb : Below w.heap.size w w6) (hm : SetsAt w9 b1 (strike T1 id)) (hg : w6.grownBy w9 (some b1)) :
    AlP w9 P q b1 b2 (strike T1 id) T2 bl (closeA G id).1 ∧ ChP P w w9 := by
  have h6 := h.on hb
  have hgd := h.good.close id
  have hc : closeA G id = (⟨G.sets.filter fun s => !decide (s.id = id), G.tasks⟩, 0) := by unfold closeA; rw [if_neg (by rw [hs]; simp), if_neg (by rw [hno]; simp)]
  rw [hc] at hgd ⊢
  have hset : ∀ j, setA ⟨G.sets.filter fun s => !decide (s.id = id), G.tasks⟩ j = if j = id then none else setA G j := fun j => find_filter SetA.id id j
  have keep : ∀ k, P k → k ≠ b1 → w9.heap[k]? = w6.heap[k]? := fun k hk hne => hg.block k (h6.old k hk) (by simpa using hne)
  refine ⟨⟨(keep q h.pq h.q1).trans h6.box, hm, h6.m2.same (keep b2 h.p2 h.ne.symm), h.ne, fun j => ?_, fun j t ht => ?_, fun i j a b ha hb' => ?_, h.seats, hgd, h.pq, h.p1, h.p2, fun j t ht => ?_, fun k hk => Nat.lt_of_lt_of_le (h6.old k hk) hg.size⟩, (ChP.of_below hb).grown hg (fun k e => .inl (by cases e; exact h.p1))⟩
  · rw [look_strike, hset]
    split
    · rfl
    · exact h.sets j
  · rw [hset] at ht
    split at ht
    · cases ht
    · have hr := h6.rows j t ht
      refine hr.same fun k hk => ?_
      simp [Value.ownBlock] at hk; subst hk
      exact keep _ (h.pr j t ht) (h.r1 ht)
  · rw [hset] at ha hb'
    split at ha
    · cases ha
    · split at hb'
      · cases hb'
      · exact h.inj i j a b ha hb'
  · rw [hset] at ht
    split at ht
    · cases ht
    · exact h.pr j t ht
set_option maxRecDepth 100000 in
set_option maxHeartbeats 3200000 in
/-- Book.Close. -/
theorem aclose_c (s : Nat → Addr) (h : AlP w P q b1 b2 T1 T2 bl G) (hs : SentP s P w) {id : Int} (hid : i64 id) :
    Calls Tryd.prog 11 #[.pointer (some ⟨q, 0, none⟩), .int .i64 id] w fun e w' => e = .returned (errV s (closeA G id).2) ∧ (∃ T1', AlP w' P q b1 b2 T1' T2 bl (closeA G id).1) ∧ ChP P w w' := by
  have c0 := cell_of_heap h.box 0
  have c1 := cell_of_heap h.box 1
  have hE0 := eqlS
  have HM := Lib.hid h.m1
  have H := Lib.hid h
  cases e : setA G id with
  | none =>
    have hc : closeA G id = (G, 5) := by unfold closeA; rw [e]; rfl
    rw [hc, errA s 5 (by omega)]
    have hv : slV ((look T1 id).getD none) = .slice none 0 0 := by rw [h.miss e]; rfl
    have e4 := hs.here.cell 4 (by omega)
    simp only [gnum, List.getD_cons_zero, List.getD_cons_succ] at e4
    clear h hs e hc
    go_enter Tryd.func11, Tryd.ntmps11
    go_wp2_with (at_lookup; refine wpList_lookG _ kitI rfl _ _ 104 rfl 111 Tryd.underlying104 slV none (Tryd.zeroSl _) b1 T1 rfl HM.out id rfl hid _ hv ?_)
    go_ret
    exact ⟨rfl, ⟨_, H.out⟩, ChP.refl _ _⟩
  | some sA =>
    have hv : slV ((look T1 id).getD none) = .slice (some ⟨bl id, 0, none⟩) sA.n sA.n := by rw [h.hit e]; simp [slV]
    have hsome : (setA G id).isSome = true := by rw [e]; rfl
    have HAP := Lib.hid h.m2.apart
    have HCL : Hid (G.tasks.any (fun x => decide (x.set = id)) = false → ∀ w6 w9 : World, Below w.heap.size w w6 → SetsAt w9 b1 (strike T1 id) → w6.grownBy w9 (some b1) → AlP w9 P q b1 b2 (strike T1 id) T2 bl (closeA G id).1 ∧ ChP P w w9) := Lib.hid fun hno w6 w9 hb hm hg => h.closed hid hsome hno hb hm hg
    have HYES : Hid (∀ y v, look T2 y = some v → v.set = id → closeA G id = (G, 13)) := Lib.hid fun y v hy hv => by
      rw [h.seats] at hy
      obtain ⟨x, hx, rfl⟩ := Option.map_eq_some_iff.1 hy
      unfold closeA
      rw [if_neg (by rw [hsome]; simp), if_pos]
      exact List.any_eq_true.2 ⟨x, ((tk_iff h.good).1 hx).1, by simpa using hv⟩
    have HNO : Hid ((∀ y v, okT y → look T2 y = some v → v.set ≠ id) → G.tasks.any (fun x => decide (x.set = id)) = false ∧ (closeA G id).2 = 0) := Lib.hid fun hall => by
      have hno : G.tasks.any (fun x => decide (x.set = id)) = false := by
        rw [List.any_eq_false]
        intro x hx
        have hl : look T2 x.tk = some ⟨x.set, x.pos, x.need⟩ := by rw [h.seats, (tk_iff h.good).2 ⟨hx, rfl⟩]; rfl
        simpa using hall x.tk _ (h.m2.okKey hl) hl
      refine ⟨hno, ?_⟩
      unfold closeA
      rw [if_neg (by rw [hsome]; simp), if_neg (by rw [hno]; simp)]
    have HON : Hid (∀ W, Below w.heap.size w W → SetsAt W b1 T1 ∧ W.cell? ⟨q, 0, none⟩ = some (.map (some b1)) ∧ AlP W P q b1 b2 T1 T2 bl G) := Lib.hid fun W hb => ⟨(h.on hb).m1, cell_of_heap (h.on hb).box 0, h.on hb⟩
    have HE12 : Hid (∀ W, Below w.heap.size w W → W.cell? ⟨12, 0, none⟩ = some (.iface 225 (.pointer (some (s 12))))) := Lib.hid fun W hb => by
      have := (hs.on hb).here.cell 12 (by omega)
      simpa only [gnum, List.getD_cons_zero, List.getD_cons_succ] using this
    have hm2 := h.m2
    clear h hs e hsome
    go_enter Tryd.func11, Tryd.ntmps11
    go_wp2_with (first
      | (at_lookup; refine wpList_lookG _ kitI rfl _ _ 104 rfl 111 Tryd.underlying104 slV none (Tryd.zeroSl _) b1 T1 rfl HM.out id rfl hid _ hv ?_)
      | (at_range; refine wpList_rangeG _ kitT rfl _ 105 rfl 116 Tryd.underlying105 encSeat b2 T2 rfl hm2 ?_; intro w0 left hrg0 hl0 hg0 hs0)
      | fail)
    obtain ⟨r, hr⟩ : ∃ r, w.heap.size = r := ⟨_, rfl⟩
    have HB0 : Hid (Below w.heap.size w w0) := Lib.hid ((Below.refl _ _).grown hg0 (Nat.le_refl _) (fun k e => by cases e))
    have HRW : Hid (w.heap.size = r) := Lib.hid hr
    rw [hr] at hrg0 ⊢
    clear hr hm2 hg0 hs0 hv
    go_frame
    go_loopw [4] (fun V wr => V = .nilIface ∧ ∃ (left : Tk → Bool) (cnt : Nat), RangeG Tryd.prog 32 klT okT encSeat wr b2 r T2 left cnt ∧ (∀ y v, okT y → look T2 y = some v → left y = false → v.set ≠ id) ∧ Below w.heap.size w wr)
      (fun _ wr => wr.rangeLeft b2 r)
    case atStart => exact ⟨rfl, left, T2.length, hrg0, fun y v hy hl hf => (by rw [hl0 y hy, hl] at hf; cases hf), HB0.out⟩
    case round =>
      obtain ⟨rfl, left, cnt, hrg, hall, hb⟩ := hrel
      clear hrg0 hl0 HB0 c0 c1
      have HRG := Lib.hid hrg; have HALL := Lib.hid hall; have HB := Lib.hid hb
      clear hall hb
      go_wp2_with (at_next; refine wpList_nextG _ kitT rfl _ rfl encSeat b2 r T2 _ _ rfl hrg ?_ ?_)
      · intro hc0 hl0
        obtain ⟨hno, h2⟩ := HNO.out fun y v hy hl => HALL.out y v hy hl (hl0 y hy)
        obtain ⟨hmW, c0, _⟩ := HON.out wr HB.out
        have HCC := Lib.hid (HCL.out hno wr)
        have H2 := Lib.hid h2
        clear hrg hl0 hno h2
        go_wp2_with (at_delete; refine wpList_delG _ kitI rfl _ _ 104 rfl 111 Tryd.underlying104 slV b1 T1 rfl hmW id rfl hid ?_; intro w9 hm9 hg9)
        go_ret
        obtain ⟨k1, k2⟩ := HCC.out w9 HB.out hm9 hg9
        exact ⟨by rw [H2.out]; rfl, ⟨_, k1⟩, k2⟩
      · intro y v w3 cnt3 hyo hlk hat hrg3 hlt hg3 hs3 hen
        have hw3 : Below w.heap.size w w3 := HB.out.grown hg3 HB.out.size (fun k e => by cases e; exact Nat.le_of_eq HRW.out)
        have HW3 := Lib.hid hw3
        have HR3 := Lib.hid hrg3
        have HSM : Hid (w3.rangeLeft b2 r < wr.rangeLeft b2 r) := Lib.hid (by rw [hrg3.left_eq, hrg.left_eq]; exact hlt)
        have HAT := Lib.hid hat
        unfold encSeat at hen ⊢
        clear hrg hrg3 hlk hlt hg3 hs3 hw3 hyo HRG HB
        by_cases h1 : v.set = id
        · have e1 : (v.set == id) = true := by simpa using h1
          have HY := Lib.hid (HYES.out y v hat h1)
          obtain ⟨W5, hW5⟩ : ∃ W5, w3.alloc (.cells #[.int .i64 v.set, .int .i64 v.pos, .int .i64 v.need.a, .int .i64 v.need.b, .int .i64 v.need.c, .int .i64 v.need.d] 116) = W5 := ⟨_, rfl⟩
          have hb5 : Below w.heap.size w W5 := by rw [← hW5]; exact HW3.out.alloc HW3.out.size _
          have hc5 : W5.cell? ⟨w3.heap.size, 0, none⟩ = some (.int .i64 v.set) := by rw [← hW5]; exact cell_of_heap (heap_alloc_new w3 _) 0
          have e12 := HE12.out W5 hb5
          have HB5 := Lib.hid hb5
          have HW5 := Lib.hid hW5
          clear hat h1 hb5 hW5
          go_upto_region 8 with fail
          rw [HW5.out]
          go_wp2_with fail
          rw [HY.out, errA s 13 (by omega)]
          go_ret
          exact ⟨rfl, ⟨_, (HON.out W5 HB5.out).2.2⟩, ChP.of_below HB5.out⟩
        · have e1 : (v.set == id) = false := by simpa using h1
          have HN1 := Lib.hid h1
          clear hat h1
          go_wp2_with fail
          go_roundw
          case rel =>
            refine ⟨rfl, _, cnt3, HR3.out.alloc _, fun z u hz hl hf => ?_, HW3.out.alloc HW3.out.size _⟩
            by_cases hzy : z = y
            · subst hzy
              rw [HAT.out] at hl
              obtain rfl := Option.some.inj hl
              exact HN1.out
            · exact HALL.out z u hz hl (by simpa [hzy] using hf)
          case measure =>
            have := HSM.out
            rw [HR3.out.left_eq] at this
            rw [(HR3.out.alloc _).left_eq]; exact this
end
/-- .. of no book. -/
theorem aclose_nil (s : Nat → Addr) (w : World) (hs : Sent s w) (id : Int) :
    Calls Tryd.prog 11 #[.pointer none, .int .i64 id] w fun e w' => e = .returned (errV s 2) ∧ Below w.heap.size w w' := by
  have e1 := hs.cell 1 (by omega)
  simp only [gnum, List.getD_cons_zero, List.getD_cons_succ] at e1
  rw [errA s 2 (by omega)]
  clear hs
  go_enter Tryd.func11, Tryd.ntmps11
  go_wp2_with fail
  go_ret
  exact ⟨rfl, Below.refl _ _⟩
end Go.Proofs.YtbdnfppbiplpmaaDoor

/- The program's book of envelopes by contracts: Take. Conditions: the book lies in memory as its maps have it; the sentinels lie where the program's text lays them. -/
namespace Go.Proofs.YtbdnfppbiplpmaaDoor
open Go Go.RowKit Go.Maps

/-- A seat in a block of its own, while one other block may turn. -/
structure SeS (W3 : World) (g gE : Nat) (x : SeatR) (W : World) : Prop where
  seat : W.heap[g]? = some (.cells #[.int .i64 x.set, .int .i64 x.pos, .int .i64 x.need.a, .int .i64 x.need.b, .int .i64 x.need.c, .int .i64 x.need.d] 116 (0, 0))
  chg : ChP (fun k => k = gE) W3 W
theorem SeS.cells {W3 W : World} {g gE : Nat} {x : SeatR} (h : SeS W3 g gE x W) : W.cell? ⟨g, 0, none⟩ = some (.int .i64 x.set) ∧ W.cell? ⟨g, 1, none⟩ = some (.int .i64 x.pos) ∧ W.cell? ⟨g, 2, none⟩ = some (.int .i64 x.need.a) ∧ W.cell? ⟨g, 3, none⟩ = some (.int .i64 x.need.b) ∧ W.cell? ⟨g, 4, none⟩ = some (.int .i64 x.need.c) ∧ W.cell? ⟨g, 5, none⟩ = some (.int .i64 x.need.d) :=
  ⟨cell_of_heap h.seat 0, cell_of_heap h.seat 1, cell_of_heap h.seat 2, cell_of_heap h.seat 3, cell_of_heap h.seat 4, cell_of_heap h.seat 5⟩
theorem SeS.on {W3 W W' : World} {g gE : Nat} {x : SeatR} (h : SeS W3 g gE x W) (hb : Below W.heap.size W W') : SeS W3 g gE x W' := ⟨(hb.block g (lt_of_row h.seat)).trans h.seat, h.chg.then hb⟩
theorem SeS.off {W3 W : World} {g gE o : Nat} {x : SeatR} (h : SeS W3 g gE x W) (hne : g ≠ gE) (v : Value) : SeS W3 g gE x (W.setCell ⟨gE, o, none⟩ v) := ⟨(heap_setCell_other _ _ _ _ hne).trans h.seat, h.chg.setCell (.inl rfl) _⟩

theorem tkA_take (G : AG) (t u : Tk) : tkA (takeG G t) u = if u = t then none else tkA G u := find_filter InA.tk t u
theorem left_take {G : AG} (h : GA G) {x : InA} (hx : x ∈ G.tasks) (z : SetA) (j : Int) : leftA (takeG G x.tk) z j = if z.id = x.set ∧ j = x.pos then pv (leftA G z j) x.need else leftA G z j := by
  apply comp_ext; intro r
  have e : (takeG G x.tk).tasks.filter (inE z.id j) = (G.tasks.filter (inE z.id j)).filter fun y => !decide (y.tk = x.tk) := by
    unfold takeG
    simp only [List.filter_filter]
    congr 1; funext a; rw [Bool.and_comm]
  rw [comp_left, e]
  split
  · rename_i k
    have hm : x ∈ G.tasks.filter (inE z.id j) := List.mem_filter.2 ⟨hx, by simp [inE, k.1, k.2]⟩
    rw [needN_less r (h.tks.filter _) hm, comp_pv, comp_left]; omega
  · rename_i k
    rw [comp_left]
    congr 2
    refine List.filter_eq_self.2 fun y hy => ?_
    obtain ⟨hy1, hy2⟩ := List.mem_filter.1 hy
    simp only [Bool.not_eq_true', decide_eq_false_iff_not]
    intro e2
    have e3 : tkA G x.tk = some x := (tk_iff h).2 ⟨hx, rfl⟩
    have e4 : tkA G x.tk = some y := (tk_iff h).2 ⟨hy1, e2⟩
    rw [e3] at e4
    obtain rfl := Option.some.inj e4
    simp only [inE, Bool.and_eq_true, decide_eq_true_eq] at hy2
    exact k ⟨hy2.1.symm, hy2.2.symm⟩
section
variable {w : World} {P : Nat → Prop} {q b1 b2 : Nat} {T1 : List (Int × Option (Nat × Nat))} {T2 : List (Tk × SeatR)} {bl : Int → Nat} {G : AG}
/-- A task is taken out of the envelope that it is inside. -/
theorem AlP.took (h : AlP w P q b1 b2 T1 T2 bl G) {x : InA} {s : SetA} {k : Nat} (hx : x ∈ G.tasks) (e : setA G x.set = some s) (hk : x.pos = (k : Int)) (_hkn : k < s.n) {w6 w9 : World} (hc : ∀ j, j < w.heap.size → j ≠ bl x.set → w6.heap[j]? = w.heap[j]?) (hz : w.heap.size ≤ w6.heap.size)
    (hrow : OwnE encEnv 114 w6 0 (.slice (some ⟨bl x.set, 0, none⟩) s.n s.n) ((envs G s).set k ⟨s.up k, pv (leftA G s k) x.need⟩)) (hm : SeatsAt w9 b2 (strike T2 x.tk)) (hg : w6.grownBy w9 (some b2)) :
    AlP w9 P q b1 b2 T1 (strike T2 x.tk) bl (takeG G x.tk) := by
  have hb2 := h.r2 e
  have hid := set_id h.good e
  have hl6 : ∀ j, P j → j < w6.heap.size := fun j hj => Nat.lt_of_lt_of_le (h.old j hj) hz
  refine h.upd (G' := takeG G x.tk) (s' := s) e (Nat.le_trans hz hg.size) (fun j hj h2 h3 => (hg.block j (hl6 j hj) (by simpa using h2)).trans (hc j (h.old j hj) h3)) hm e rfl ?_ (fun _ _ => rfl) (fun j z hj hz => ?_) (fun u => ?_) ?_
  · have he : envs (takeG G x.tk) s = (envs G s).set k ⟨s.up k, pv (leftA G s k) x.need⟩ := by
      refine envs_set rfl ⟨rfl, ?_⟩ fun j hj => ⟨rfl, ?_⟩
      · rw [left_take h.good hx, if_pos ⟨hid, hk.symm⟩]
      · rw [left_take h.good hx, if_neg]
        rintro ⟨_, k2⟩; rw [hk] at k2; omega
    rw [he]
    refine hrow.same fun i hi => ?_
    simp [Value.ownBlock] at hi; subst hi
    exact hg.block _ (hl6 _ (h.pr _ _ e)) (by simpa using hb2)
  · refine envs_ext rfl fun i _ => ⟨rfl, ?_⟩
    rw [left_take h.good hx, if_neg]
    rintro ⟨k1, _⟩
    exact hj ((set_id h.good hz).symm.trans k1)
  · rw [look_strike, tkA_take]
    split
    · rfl
    · exact h.seats u
  · have := h.good.take x.tk
    unfold takeA at this
    rw [if_neg (by rw [(tk_iff h.good).2 ⟨hx, rfl⟩]; simp)] at this
    exact this
theorem AlP.lk1 (h : AlP w P q b1 b2 T1 T2 bl G) {id : Int} (hid : i64 id) {s : SetA} (e : setA G id = some s) {ad : Addr} (had : ad = ⟨bl id, 0, none⟩) :
    (Instr.lookup 104 (.map (some b1)) (.int .i64 id) false).run Tryd.prog w = .ok (.slice (some ad) s.n s.n) w := by
  have := run_lookG kitI Tryd.underlying104 (z := none) (Tryd.zeroSl w) h.m1 hid
  rw [h.hit e] at this
  rw [had]; exact this

set_option maxRecDepth 100000 in
set_option maxHeartbeats 3200000 in
/-- Book.Take: the task is inside none. -/
theorem atake_no (s : Nat → Addr) (h : AlP w P q b1 b2 T1 T2 bl G) (hs : SentP s P w) {t : Tk} (ht : okT t) (hn : tkA G t = none) :
    Calls Tryd.prog 18 #[.pointer (some ⟨q, 0, none⟩), .agg #[.int .i64 t.job, .int .i64 t.ix]] w fun e w' => e = .returned (errV s 5) ∧ Below w.heap.size w w' := by
  obtain ⟨x, hx⟩ : ∃ x, seatA G t = x := ⟨_, rfl⟩
  have hb : (tkA G t).isSome = false := by rw [hn]; rfl
  obtain ⟨X, hX⟩ : ∃ X, w.heap.size = X := ⟨_, rfl⟩
  obtain ⟨W1, hW1⟩ : ∃ W1, w.alloc (.cells #[.int .i64 t.job, .int .i64 t.ix] 32) = W1 := ⟨_, rfl⟩
  have k1 : W1.heap[X]? = some (.cells #[.int .i64 t.job, .int .i64 t.ix] 32 (0, 0)) := by rw [← hW1, ← hX]; exact heap_alloc_new _ _
  have hb1 : Below w.heap.size w W1 := by rw [← hW1]; exact (Below.refl _ _).alloc (Nat.le_refl _) _
  have hXW : X < W1.heap.size := lt_of_row k1
  have h1 := h.on hb1
  have HC : Hid (∀ W, Below W1.heap.size W1 W → (W.cell? ⟨X, 0, none⟩ = some (.int .i64 t.job) ∧ W.cell? ⟨X, 1, none⟩ = some (.int .i64 t.ix) ∧ W.cell? ⟨q, 1, none⟩ = some (.map (some b2)) ∧ (Instr.lookup 105 (.map (some b2)) (.agg #[.int .i64 t.job, .int .i64 t.ix]) true).run Tryd.prog W = .ok (.tuple #[.agg #[.int .i64 x.set, .int .i64 x.pos, .int .i64 x.need.a, .int .i64 x.need.b, .int .i64 x.need.c, .int .i64 x.need.d], .bool false]) W)) := Lib.hid fun W hW => ⟨cell_of_heap ((hW.block X hXW).trans k1) 0, cell_of_heap ((hW.block X hXW).trans k1) 1, cell_of_heap (h1.on hW).box 1, (h1.on hW).lk2 ht hx hb⟩
  have e4 := (hs.on hb1).here.cell 4 (by omega)
  simp only [gnum, List.getD_cons_zero, List.getD_cons_succ] at e4
  have E4 := Lib.hid e4
  have HX := Lib.hid hX; have HB1 := Lib.hid hb1; have HW1 := Lib.hid hW1
  rw [errA s 5 (by omega)]
  clear h hs ht hn hx hb hX hW1 k1 hb1 hXW h1 e4
  go_enter Tryd.func18, Tryd.ntmps18
  go_wp2_with fail
  rw [HW1.out, HX.out]
  go_region_held3 (fun W => W.cell? ⟨X, 0, none⟩ = some (.int .i64 t.job) ∧ W.cell? ⟨X, 1, none⟩ = some (.int .i64 t.ix) ∧ W.cell? ⟨q, 1, none⟩ = some (.map (some b2)) ∧ (Instr.lookup 105 (.map (some b2)) (.agg #[.int .i64 t.job, .int .i64 t.ix]) true).run Tryd.prog W = .ok (.tuple #[.agg #[.int .i64 x.set, .int .i64 x.pos, .int .i64 x.need.a, .int .i64 x.need.b, .int .i64 x.need.c, .int .i64 x.need.d], .bool false]) W)
    (first | exact HC.out _ (by (repeat' (first | (with_reducible exact Below.refl _ _) | (with_reducible refine below_drewN ?_ _) | (with_reducible refine Below.drew ?_) | (with_reducible refine Below.alloc ?_ ?_ _) | (with_reducible refine Below.setCell ?_ ?_ _) | (with_reducible refine Below.trans ?_ (Below.mono (by with_reducible assumption) ?_)) | omega | (simp only [World.size_alloc, World.size_setCell, World.size_drew, Go.Proofs.YtbdnfppbiplpmaaDoor.World.size_drewN] at *; omega) | (with_reducible refine Below.size (B := 0) ?_)))))
    (fail)
  all_goals
    obtain ⟨W3, hW3⟩ : ∃ W3, (W1.alloc (.cells #[.int .i64 x.set, .int .i64 x.pos, .int .i64 x.need.a, .int .i64 x.need.b, .int .i64 x.need.c, .int .i64 x.need.d] 116)).drew = W3 := ⟨_, rfl⟩
    have hb3 : Below W1.heap.size W1 W3 := by rw [← hW3]; exact ((Below.refl _ _).alloc (Nat.le_refl _) _).drew
    have e4 : W3.cell? ⟨4, 0, none⟩ = some (.iface 225 (.pointer (some (s 4)))) := (hb3.cell (lt_of_cell E4.out)).trans E4.out
    rw [hW3]
    clear hW3
    have hb1 := HB1.out
    go_wp2_with fail
    go_ret
    exact ⟨rfl, by rw [← HX.out] at *; (repeat' (first | (with_reducible exact Below.refl _ _) | (with_reducible refine below_drewN ?_ _) | (with_reducible refine Below.drew ?_) | (with_reducible refine Below.alloc ?_ ?_ _) | (with_reducible refine Below.setCell ?_ ?_ _) | (with_reducible refine Below.trans ?_ (Below.mono (by with_reducible assumption) ?_)) | omega | (simp only [World.size_alloc, World.size_setCell, World.size_drew, Go.Proofs.YtbdnfppbiplpmaaDoor.World.size_drewN] at *; omega) | (with_reducible refine Below.size (B := 0) ?_)))⟩

set_option maxRecDepth 100000 in
set_option maxHeartbeats 6400000 in
/-- Book.Take: the task is inside one. -/
theorem atake_ok (s : Nat → Addr) (h : AlP w P q b1 b2 T1 T2 bl G) (hs : SentP s P w) {t : Tk} (ht : okT t) {x0 : InA} (hn : tkA G t = some x0) :
    Calls Tryd.prog 18 #[.pointer (some ⟨q, 0, none⟩), .agg #[.int .i64 t.job, .int .i64 t.ix]] w fun e w' => e = .returned (errV s 0) ∧ AlP w' P q b1 b2 T1 (strike T2 t) bl (takeG G t) ∧ ChP P w w' := by
  obtain ⟨hx0, hx1⟩ := (tk_iff h.good).1 hn
  subst hx1
  obtain ⟨hg0, sA, hsA, hp0, hp1, hup⟩ := h.good.task x0 hx0
  obtain ⟨k, hk⟩ : ∃ k : Nat, x0.pos = (k : Int) := ⟨x0.pos.toNat, by omega⟩
  have hkn : k < sA.n := by omega
  have hset := h.good.set sA (set_mem h.good hsA)
  have hid := set_id h.good hsA
  have hi64 : i64 x0.set := by unfold i64; omega
  obtain ⟨x, hx⟩ : ∃ x : SeatR, x = ⟨x0.set, (k : Int), x0.need⟩ := ⟨_, rfl⟩
  have hxs : seatA G x0.tk = x := by unfold seatA; rw [hn, hx, ← hk]; rfl
  have hb : (tkA G x0.tk).isSome = true := by rw [hn]; rfl
  obtain ⟨t, htt⟩ : ∃ t, x0.tk = t := ⟨_, rfl⟩
  rw [htt] at ht hxs hb ⊢
  obtain ⟨X, hX⟩ : ∃ X, w.heap.size = X := ⟨_, rfl⟩
  obtain ⟨W1, hW1⟩ : ∃ W1, w.alloc (.cells #[.int .i64 t.job, .int .i64 t.ix] 32) = W1 := ⟨_, rfl⟩
  have k1 : W1.heap[X]? = some (.cells #[.int .i64 t.job, .int .i64 t.ix] 32 (0, 0)) := by rw [← hW1, ← hX]; exact heap_alloc_new _ _
  have hb1 : Below w.heap.size w W1 := by rw [← hW1]; exact (Below.refl _ _).alloc (Nat.le_refl _) _
  have hXW : X < W1.heap.size := lt_of_row k1
  have h1 := h.on hb1
  have HC : Hid (∀ W, Below W1.heap.size W1 W → (W.cell? ⟨X, 0, none⟩ = some (.int .i64 t.job) ∧ W.cell? ⟨X, 1, none⟩ = some (.int .i64 t.ix) ∧ W.cell? ⟨q, 1, none⟩ = some (.map (some b2)) ∧ (Instr.lookup 105 (.map (some b2)) (.agg #[.int .i64 t.job, .int .i64 t.ix]) true).run Tryd.prog W = .ok (.tuple #[.agg #[.int .i64 x.set, .int .i64 x.pos, .int .i64 x.need.a, .int .i64 x.need.b, .int .i64 x.need.c, .int .i64 x.need.d], .bool true]) W)) := Lib.hid fun W hW => ⟨cell_of_heap ((hW.block X hXW).trans k1) 0, cell_of_heap ((hW.block X hXW).trans k1) 1, cell_of_heap (h1.on hW).box 1, (h1.on hW).lk2 ht hxs hb⟩
  obtain ⟨Y, hY⟩ : ∃ Y, W1.heap.size = Y := ⟨_, rfl⟩
  obtain ⟨W3, hW3⟩ : ∃ W3, (W1.alloc (.cells #[.int .i64 x.set, .int .i64 x.pos, .int .i64 x.need.a, .int .i64 x.need.b, .int .i64 x.need.c, .int .i64 x.need.d] 116)).drew = W3 := ⟨_, rfl⟩
  have hb3 : Below W1.heap.size W1 W3 := by rw [← hW3]; exact ((Below.refl _ _).alloc (Nat.le_refl _) _).drew
  have k3 : W3.heap[Y]? = some (.cells #[.int .i64 x.set, .int .i64 x.pos, .int .i64 x.need.a, .int .i64 x.need.b, .int .i64 x.need.c, .int .i64 x.need.d] 116 (0, 0)) := by rw [← hW3, ← hY]; exact heap_alloc_new W1 _
  have h3 := h1.on hb3
  obtain ⟨gE, hgE⟩ : ∃ gE, bl x0.set = gE := ⟨_, rfl⟩
  obtain ⟨ad, had⟩ : ∃ ad : Addr, ad = ⟨bl x0.set, 0, none⟩ := ⟨_, rfl⟩
  have hadd : ad.add (k * 5) = ⟨gE, k * 5, none⟩ := by rw [had, hgE, Addr.add_lit, Nat.zero_add]
  have hl1 := fun n : Nat => (h3.on (below_drewN (Below.refl _ W3) n)).lk1 hi64 hsA had
  have hxset : x.set = x0.set := by rw [hx]
  have hxpos : x.pos = (k : Int) := by rw [hx]
  have hxneed : x.need = x0.need := by rw [hx]
  have HXP := Lib.hid hxpos
  clear hxpos
  rw [← hxset] at hl1
  have h30 : W3.cell? ⟨q, 0, none⟩ = some (.map (some b1)) := cell_of_heap h3.box 0
  have h31 : W3.cell? ⟨q, 1, none⟩ = some (.map (some b2)) := cell_of_heap h3.box 1
  have hgp := h3.pr _ _ hsA
  rw [hgE] at hgp
  have hYg : Y ≠ gE := by
    have := h1.old gE hgp
    omega
  have hS3 : SeS W3 Y gE x W3 := ⟨k3, ChP.refl _ _⟩
  have hb3' : Below w.heap.size w W3 := hb1.trans (hb3.mono hb1.size)
  -- what is left
  have hleft : goodV (pv (leftA G sA (k : Int)) x0.need) = true := by
    have h4 := (h.good.take x0.tk).left sA (by unfold takeA; rw [if_neg (by rw [hn]; simp)]; exact set_mem h.good hsA) x0.pos
    unfold takeA at h4
    rw [if_neg (by rw [hn]; simp), left_take h.good hx0, if_pos ⟨hid, rfl⟩, hk] at h4
    exact h4
  obtain ⟨l, hl⟩ : ∃ l, leftA G sA (k : Int) = l := ⟨_, rfl⟩
  have hlg : goodV l = true := by rw [← hl]; exact h.good.left sA (set_mem h.good hsA) _
  rw [hl] at hleft
  obtain ⟨m, hm⟩ : ∃ m, pv l x0.need = m := ⟨_, rfl⟩
  have hadr : addR l x.need = (m, 0) := by
    rw [hxneed, add_yes hlg hg0]
    unfold checkR
    rw [show (⟨l.a + x0.need.a, l.b + x0.need.b, l.c + x0.need.c, l.d + x0.need.d⟩ : V4) = pv l x0.need from rfl, if_pos hleft, hm]
  have HAD : Hid (∀ W, ChP (fun j => j = gE) W3 W → Calls Tryd.prog 59 #[.agg #[.int .i64 l.a, .int .i64 l.b, .int .i64 l.c, .int .i64 l.d], .agg #[.int .i64 (x.need).a, .int .i64 (x.need).b, .int .i64 (x.need).c, .int .i64 (x.need).d]] W fun e w' => e = .returned (.tuple #[.agg #[.int .i64 m.a, .int .i64 m.b, .int .i64 m.c, .int .i64 m.d], .nilIface]) ∧ Below W.heap.size W w') := Lib.hid fun W hW => by
    have hsW : Sent s W := hs.on hb3' W (ChP.trans (ChP.refl P W3) hW fun i hi => .inl (hi ▸ hgp))
    have := add_c s l x.need W hsW
    rw [hadr] at this
    exact this
  obtain ⟨c0, c1, c2, c3, c4, cf⟩ := h3.cells hsA hkn
  rw [hl, hgE] at c1 c2 c3 c4
  rw [hgE] at cf c0
  have HCE : Hid (∀ w5 : World, ChP (fun j => j = gE) W3 w5 → w5.heap[gE]? = W3.heap[gE]? → w5.cell? ⟨gE, k * 5 + 1, none⟩ = some (.int .i64 l.a) ∧ w5.cell? ⟨gE, k * 5 + 2, none⟩ = some (.int .i64 l.b) ∧ w5.cell? ⟨gE, k * 5 + 3, none⟩ = some (.int .i64 l.c) ∧ w5.cell? ⟨gE, k * 5 + 4, none⟩ = some (.int .i64 l.d) ∧ ∀ j, w5.frozen? ⟨gE, j, none⟩ = false) := Lib.hid fun w5 _ e5 => by
    have hce : ∀ o, w5.cell? ⟨gE, o, none⟩ = W3.cell? ⟨gE, o, none⟩ := fun o => by simp only [World.cell?, e5]
    have hfr : ∀ o, w5.frozen? ⟨gE, o, none⟩ = W3.frozen? ⟨gE, o, none⟩ := fun o => by simp only [World.frozen?, e5]
    exact ⟨(hce _).trans c1, (hce _).trans c2, (hce _).trans c3, (hce _).trans c4, fun j => (hfr j).trans (cf j)⟩
  have HFIN : Hid (∀ w5 w9 : World, SeS W3 Y gE x w5 → w5.heap[gE]? = W3.heap[gE]? → SeatsAt w9 b2 (strike T2 t) → ((((w5.setCell ⟨gE, k * 5 + 1, none⟩ (.int .i64 m.a)).setCell ⟨gE, k * 5 + 2, none⟩ (.int .i64 m.b)).setCell ⟨gE, k * 5 + 3, none⟩ (.int .i64 m.c)).setCell ⟨gE, k * 5 + 4, none⟩ (.int .i64 m.d)).grownBy w9 (some b2) → AlP w9 P q b1 b2 T1 (strike T2 t) bl (takeG G t) ∧ ChP P w w9) := Lib.hid fun w5 w9 hS5 e5 hm9 hg9 => by
    have hz5 : ∀ j, j ≠ gE → ((((w5.setCell ⟨gE, k * 5 + 1, none⟩ (.int .i64 m.a)).setCell ⟨gE, k * 5 + 2, none⟩ (.int .i64 m.b)).setCell ⟨gE, k * 5 + 3, none⟩ (.int .i64 m.c)).setCell ⟨gE, k * 5 + 4, none⟩ (.int .i64 m.d)).heap[j]? = w5.heap[j]? := fun j hj => by rw [heap_setCell_other _ _ _ _ hj, heap_setCell_other _ _ _ _ hj, heap_setCell_other _ _ _ _ hj, heap_setCell_other _ _ _ _ hj]
    have hsz : ((((w5.setCell ⟨gE, k * 5 + 1, none⟩ (.int .i64 m.a)).setCell ⟨gE, k * 5 + 2, none⟩ (.int .i64 m.b)).setCell ⟨gE, k * 5 + 3, none⟩ (.int .i64 m.c)).setCell ⟨gE, k * 5 + 4, none⟩ (.int .i64 m.d)).heap.size = w5.heap.size := by simp [World.setCell]
    have hrow5 : OwnE encEnv 114 w5 0 (.slice (some ⟨gE, 0, none⟩) (envs G sA).length sA.n) (envs G sA) := by
      have := h3.rowL hsA
      rw [hgE] at this
      exact this.same fun i hi => by simp [Value.ownBlock] at hi; subst hi; exact e5
    have hr := own_left hrow5 (envs_at G sA hkn) m
    rw [envs_len] at hr
    refine ⟨?_, ?_⟩
    · rw [← htt] at hm9 ⊢
      refine h3.took hx0 hsA hk hkn (w6 := ((((w5.setCell ⟨gE, k * 5 + 1, none⟩ (.int .i64 m.a)).setCell ⟨gE, k * 5 + 2, none⟩ (.int .i64 m.b)).setCell ⟨gE, k * 5 + 3, none⟩ (.int .i64 m.c)).setCell ⟨gE, k * 5 + 4, none⟩ (.int .i64 m.d))) (fun j hj hne => ?_) (by rw [hsz]; exact hS5.chg.size) ?_ hm9 hg9
      · rw [hgE] at hne
        exact (hz5 j hne).trans (hS5.chg.block j hj hne)
      · rw [hgE, hl, hm]; exact hr
    · have c5 : ChP P w w5 := ChP.trans (ChP.of_below hb3') hS5.chg fun i hi => .inl (hi ▸ hgp)
      exact ((((c5.setCell (ad := ⟨gE, k * 5 + 1, none⟩) (.inl hgp) _).setCell (ad := ⟨gE, k * 5 + 2, none⟩) (.inl hgp) _).setCell (ad := ⟨gE, k * 5 + 3, none⟩) (.inl hgp) _).setCell (ad := ⟨gE, k * 5 + 4, none⟩) (.inl hgp) _).grown hg9 (fun i hi => .inl (by cases hi; exact h.p2))
  have HDL : Hid (∀ w5 : World, SeS W3 Y gE x w5 → ((((w5.setCell ⟨gE, k * 5 + 1, none⟩ (.int .i64 m.a)).setCell ⟨gE, k * 5 + 2, none⟩ (.int .i64 m.b)).setCell ⟨gE, k * 5 + 3, none⟩ (.int .i64 m.c)).setCell ⟨gE, k * 5 + 4, none⟩ (.int .i64 m.d)).cell? ⟨X, 0, none⟩ = some (.int .i64 t.job) ∧ ((((w5.setCell ⟨gE, k * 5 + 1, none⟩ (.int .i64 m.a)).setCell ⟨gE, k * 5 + 2, none⟩ (.int .i64 m.b)).setCell ⟨gE, k * 5 + 3, none⟩ (.int .i64 m.c)).setCell ⟨gE, k * 5 + 4, none⟩ (.int .i64 m.d)).cell? ⟨X, 1, none⟩ = some (.int .i64 t.ix) ∧ ((((w5.setCell ⟨gE, k * 5 + 1, none⟩ (.int .i64 m.a)).setCell ⟨gE, k * 5 + 2, none⟩ (.int .i64 m.b)).setCell ⟨gE, k * 5 + 3, none⟩ (.int .i64 m.c)).setCell ⟨gE, k * 5 + 4, none⟩ (.int .i64 m.d)).cell? ⟨q, 1, none⟩ = some (.map (some b2)) ∧ SeatsAt ((((w5.setCell ⟨gE, k * 5 + 1, none⟩ (.int .i64 m.a)).setCell ⟨gE, k * 5 + 2, none⟩ (.int .i64 m.b)).setCell ⟨gE, k * 5 + 3, none⟩ (.int .i64 m.c)).setCell ⟨gE, k * 5 + 4, none⟩ (.int .i64 m.d)) b2 T2) := Lib.hid fun w5 hS5 => by
    have hz5 : ∀ j, j ≠ gE → ((((w5.setCell ⟨gE, k * 5 + 1, none⟩ (.int .i64 m.a)).setCell ⟨gE, k * 5 + 2, none⟩ (.int .i64 m.b)).setCell ⟨gE, k * 5 + 3, none⟩ (.int .i64 m.c)).setCell ⟨gE, k * 5 + 4, none⟩ (.int .i64 m.d)).heap[j]? = w5.heap[j]? := fun j hj => by rw [heap_setCell_other _ _ _ _ hj, heap_setCell_other _ _ _ _ hj, heap_setCell_other _ _ _ _ hj, heap_setCell_other _ _ _ _ hj]
    have hXg : X ≠ gE := by have := h.old gE hgp; omega
    have eX : ((((w5.setCell ⟨gE, k * 5 + 1, none⟩ (.int .i64 m.a)).setCell ⟨gE, k * 5 + 2, none⟩ (.int .i64 m.b)).setCell ⟨gE, k * 5 + 3, none⟩ (.int .i64 m.c)).setCell ⟨gE, k * 5 + 4, none⟩ (.int .i64 m.d)).heap[X]? = some (.cells #[.int .i64 t.job, .int .i64 t.ix] 32 (0, 0)) := by
      rw [hz5 X hXg, hS5.chg.block X (Nat.lt_of_lt_of_le hXW hb3.size) hXg, hb3.block X hXW]; exact k1
    have hqg : q ≠ gE := by rw [← hgE]; exact (h3.qr hsA).symm
    have eq : ((((w5.setCell ⟨gE, k * 5 + 1, none⟩ (.int .i64 m.a)).setCell ⟨gE, k * 5 + 2, none⟩ (.int .i64 m.b)).setCell ⟨gE, k * 5 + 3, none⟩ (.int .i64 m.c)).setCell ⟨gE, k * 5 + 4, none⟩ (.int .i64 m.d)).heap[q]? = some (.cells #[.map (some b1), .map (some b2)] 107 (0, 0)) := by
      rw [hz5 q hqg, hS5.chg.block q h3.lt hqg]; exact h3.box
    have hb2g : b2 ≠ gE := by rw [← hgE]; exact (h3.r2 hsA).symm
    refine ⟨cell_of_heap eX 0, cell_of_heap eX 1, cell_of_heap eq 1, h3.m2.same ?_⟩
    rw [hz5 b2 hb2g, hS5.chg.block b2 (h3.old _ h3.p2) hb2g]
  have HNE : Hid (Y ≠ gE) := Lib.hid hYg
  have HGL : Hid (gE < W3.heap.size) := Lib.hid (h3.old gE hgp)
  have HS3 := Lib.hid hS3
  have HX := Lib.hid hX; have HW1 := Lib.hid hW1; have HY := Lib.hid hY; have HW3 := Lib.hid hW3; have HT := Lib.hid ht
  have k0' : (0 : Int) ≤ (k : Int) := by omega
  have k1' : (k : Int) < (sA.n : Int) := by omega
  clear h hs hn hb hX hW1 k1 hb1 hXW h1 hb3 h3 hx hxs hsA hset hid hi64 hgE had hleft hl hlg hm hadr hg0 hup hp0 hp1 hk hx0 hS3 hgp hb3' hxset hxneed hYg hY hW3 ht htt
  rw [errA0]
  go_enter Tryd.func18, Tryd.ntmps18
  go_wp2_with fail
  rw [HW1.out, HX.out]
  go_region_held3 (fun W => W.cell? ⟨X, 0, none⟩ = some (.int .i64 t.job) ∧ W.cell? ⟨X, 1, none⟩ = some (.int .i64 t.ix) ∧ W.cell? ⟨q, 1, none⟩ = some (.map (some b2)) ∧ (Instr.lookup 105 (.map (some b2)) (.agg #[.int .i64 t.job, .int .i64 t.ix]) true).run Tryd.prog W = .ok (.tuple #[.agg #[.int .i64 x.set, .int .i64 x.pos, .int .i64 x.need.a, .int .i64 x.need.b, .int .i64 x.need.c, .int .i64 x.need.d], .bool true]) W)
    (first | exact HC.out _ (by (repeat' (first | (with_reducible exact Below.refl _ _) | (with_reducible refine below_drewN ?_ _) | (with_reducible refine Below.drew ?_) | (with_reducible refine Below.alloc ?_ ?_ _) | (with_reducible refine Below.setCell ?_ ?_ _) | (with_reducible refine Below.trans ?_ (Below.mono (by with_reducible assumption) ?_)) | omega | (simp only [World.size_alloc, World.size_setCell, World.size_drew, Go.Proofs.YtbdnfppbiplpmaaDoor.World.size_drewN] at *; omega) | (with_reducible refine Below.size (B := 0) ?_)))))
    (fail)
  all_goals
    rw [HW3.out, HY.out]
    obtain ⟨s0, s1, s2, s3, s4, s5⟩ := HS3.out.cells
    rw [HXP.out] at s1
    go_wp2_with fail
    go_quiet (fail)
    go_wp2_with fail
    refine wp_region_held_drew (S := fun W => SeS W3 Y gE x W) (by kernel_rfl) ?_ (fun hHeld => ?_)
    · exact ((HS3.out.on (below_drewN (Below.refl _ _) nq)).on (Below.refl _ _).drew)
    refine rg_take 0 (some 34) _ (by kernel_rfl) (by kernel_rfl) (by kernel_rfl) (fun _ _ _ h => h) (by kernel_rfl) (by kernel_rfl) (by intro w' hSw op_ ho; obtain ⟨s0, s1, s2, s3, s4, s5⟩ := hSw.cells; simp only [List.getElem?_toArray, List.getElem?_cons_zero, Option.some.injEq] at ho; subst ho; go_simp; with_reducible rfl) (by assumption) ?_
    try simp only [Act.put, List.setIfInBounds_toArray, List.set_cons_zero, List.set_cons_succ]
    refine rg_take 1 (some 35) _ (by kernel_rfl) (by kernel_rfl) (by kernel_rfl) (fun _ _ _ h => h) (by kernel_rfl) (by kernel_rfl) (by intro w' hSw op_ ho; obtain ⟨s0, s1, s2, s3, s4, s5⟩ := hSw.cells; simp only [List.getElem?_toArray, List.getElem?_cons_succ, List.getElem?_cons_zero, Option.some.injEq] at ho; subst ho; go_simp; with_reducible rfl) (by assumption) ?_
    try simp only [Act.put, List.setIfInBounds_toArray, List.set_cons_zero, List.set_cons_succ]
    refine rg_take 2 (some 36) _ (by kernel_rfl) (by kernel_rfl) (by kernel_rfl) (fun _ _ _ h => h) (by kernel_rfl) (by kernel_rfl) (by intro w' hSw op_ ho; obtain ⟨s0, s1, s2, s3, s4, s5⟩ := hSw.cells; simp only [List.getElem?_toArray, List.getElem?_cons_succ, List.getElem?_cons_zero, Option.some.injEq] at ho; subst ho; go_simp; with_reducible rfl) (by assumption) ?_
    try simp only [Act.put, List.setIfInBounds_toArray, List.set_cons_zero, List.set_cons_succ]
    refine rg_take 3 (some 37) _ (by kernel_rfl) (by kernel_rfl) (by kernel_rfl) (fun _ _ _ h => h) (by kernel_rfl) (by kernel_rfl) (by intro w' hSw op_ ho; obtain ⟨s0, s1, s2, s3, s4, s5⟩ := hSw.cells; simp only [List.getElem?_toArray, List.getElem?_cons_succ, List.getElem?_cons_zero, Option.some.injEq] at ho; subst ho; go_simp; with_reducible rfl) (by assumption) ?_
    try simp only [Act.put, List.setIfInBounds_toArray, List.set_cons_zero, List.set_cons_succ]
    refine rg_take 5 (some 39) _ (by kernel_rfl) (by kernel_rfl) (by kernel_rfl) (fun _ _ _ h => h) (by kernel_rfl) (by kernel_rfl) (by intro w' hSw op_ ho; obtain ⟨s0, s1, s2, s3, s4, s5⟩ := hSw.cells; simp only [List.getElem?_toArray, List.getElem?_cons_succ, List.getElem?_cons_zero, Option.some.injEq] at ho; subst ho; go_simp; with_reducible rfl) (by assumption) ?_
    try simp only [Act.put, List.setIfInBounds_toArray, List.set_cons_zero, List.set_cons_succ]
    refine rg_take 6 (some 40) _ (by kernel_rfl) (by kernel_rfl) (by kernel_rfl) (fun _ _ _ h => h) (by kernel_rfl) (by kernel_rfl) (by intro w' hSw op_ ho; obtain ⟨s0, s1, s2, s3, s4, s5⟩ := hSw.cells; simp only [List.getElem?_toArray, List.getElem?_cons_succ, List.getElem?_cons_zero, Option.some.injEq] at ho; subst ho; go_simp; with_reducible rfl) (by assumption) ?_
    try simp only [Act.put, List.setIfInBounds_toArray, List.set_cons_zero, List.set_cons_succ]
    refine rg_one 4 (by kernel_rfl) (by kernel_rfl) (fun op_ ho K hK => ?_)
    simp only [List.getElem?_toArray, List.getElem?_cons_succ, List.getElem?_cons_zero, Option.some.injEq] at ho
    subst ho
    go_simp
    go_wp2_with fail
    refine hK.out _ _ (by first | exact hHeld | exact SeS.on hHeld b5 | exact (((SeS.off hHeld HNE.out _).off HNE.out _).off HNE.out _).off HNE.out _) (fun hHeld => ?_)
    clear hK
    try simp only [Act.put, List.setIfInBounds_toArray, List.set_cons_zero, List.set_cons_succ]
    refine rg_one 7 (by kernel_rfl) (by kernel_rfl) (fun op_ ho K hK => ?_)
    simp only [List.getElem?_toArray, List.getElem?_cons_succ, List.getElem?_cons_zero, Option.some.injEq] at ho
    subst ho
    go_simp
    go_at_call 59
    refine (HAD.out _ hHeld.chg).mono ?_
    rintro e w5 ⟨rfl, b5⟩
    have e5 : w5.heap[gE]? = W3.heap[gE]? := b5.block gE HGL.out
    obtain ⟨c1, c2, c3, c4, cf⟩ := HCE.out w5 (hHeld.chg.then b5) e5
    have HE5 := Lib.hid e5
    clear e5
    go_wp2_with fail
    refine hK.out _ _ (by first | exact hHeld | exact SeS.on hHeld b5 | exact (((SeS.off hHeld HNE.out _).off HNE.out _).off HNE.out _).off HNE.out _) (fun hHeld => ?_)
    clear hK
    try simp only [Act.put, List.setIfInBounds_toArray, List.set_cons_zero, List.set_cons_succ]
    refine rg_take 8 (some 33) _ (by kernel_rfl) (by kernel_rfl) (by kernel_rfl) (fun _ _ _ h => h) (by kernel_rfl) (by kernel_rfl) (by intro w' hSw op_ ho; obtain ⟨s0, s1, s2, s3, s4, s5⟩ := hSw.cells; simp only [List.getElem?_toArray, List.getElem?_cons_succ, List.getElem?_cons_zero, Option.some.injEq] at ho; subst ho; go_simp; with_reducible rfl) (by assumption) ?_
    try simp only [Act.put, List.setIfInBounds_toArray, List.set_cons_zero, List.set_cons_succ]
    refine rg_take 9 (some 42) _ (by kernel_rfl) (by kernel_rfl) (by kernel_rfl) (fun _ _ _ h => h) (by kernel_rfl) (by kernel_rfl) (by intro w' hSw op_ ho; obtain ⟨s0, s1, s2, s3, s4, s5⟩ := hSw.cells; simp only [List.getElem?_toArray, List.getElem?_cons_succ, List.getElem?_cons_zero, Option.some.injEq] at ho; subst ho; go_simp; with_reducible rfl) (by assumption) ?_
    try simp only [Act.put, List.setIfInBounds_toArray, List.set_cons_zero, List.set_cons_succ]
    refine rg_take 10 (some 43) _ (by kernel_rfl) (by kernel_rfl) (by kernel_rfl) (fun _ _ _ h => h) (by kernel_rfl) (by kernel_rfl) (by intro w' hSw op_ ho; obtain ⟨s0, s1, s2, s3, s4, s5⟩ := hSw.cells; simp only [List.getElem?_toArray, List.getElem?_cons_succ, List.getElem?_cons_zero, Option.some.injEq] at ho; subst ho; go_simp; with_reducible rfl) (by assumption) ?_
    try simp only [Act.put, List.setIfInBounds_toArray, List.set_cons_zero, List.set_cons_succ]
    refine rg_take 11 (some 44) _ (by kernel_rfl) (by kernel_rfl) (by kernel_rfl) (fun _ _ _ h => h) (by kernel_rfl) (by kernel_rfl) (by intro w' hSw op_ ho; obtain ⟨s0, s1, s2, s3, s4, s5⟩ := hSw.cells; simp only [List.getElem?_toArray, List.getElem?_cons_succ, List.getElem?_cons_zero, Option.some.injEq] at ho; subst ho; go_simp; with_reducible rfl) (by assumption) ?_
    try simp only [Act.put, List.setIfInBounds_toArray, List.set_cons_zero, List.set_cons_succ]
    refine rg_take 12 (some 45) _ (by kernel_rfl) (by kernel_rfl) (by kernel_rfl) (fun _ _ _ h => h) (by kernel_rfl) (by kernel_rfl) (by intro w' hSw op_ ho; obtain ⟨s0, s1, s2, s3, s4, s5⟩ := hSw.cells; simp only [List.getElem?_toArray, List.getElem?_cons_succ, List.getElem?_cons_zero, Option.some.injEq] at ho; subst ho; go_simp; with_reducible rfl) (by assumption) ?_
    try simp only [Act.put, List.setIfInBounds_toArray, List.set_cons_zero, List.set_cons_succ]
    refine rg_one 13 (by kernel_rfl) (by kernel_rfl) (fun op_ ho K hK => ?_)
    simp only [List.getElem?_toArray, List.getElem?_cons_succ, List.getElem?_cons_zero, Option.some.injEq] at ho
    subst ho
    go_simp
    have HS5 := Lib.hid hHeld
    go_wp2_with fail
    refine hK.out _ _ (by first | exact hHeld | exact SeS.on hHeld b5 | exact (((SeS.off hHeld HNE.out _).off HNE.out _).off HNE.out _).off HNE.out _) (fun hHeld => ?_)
    clear hK
    try simp only [Act.put, List.setIfInBounds_toArray, List.set_cons_zero, List.set_cons_succ]
    refine wpAnyH_done (by kernel_rfl) ?_ _
    clear c1 c2 c3 c4 cf hHeld
    go_wp2_with fail
    obtain ⟨d0, d1, d2, d3⟩ := HDL.out w5 HS5.out
    have HFN := Lib.hid (HFIN.out w5)
    clear HCE HAD HFIN HDL HC
    obtain ⟨W6, hW6⟩ : ∃ W6, ((((w5.setCell ⟨gE, k * 5 + 1, none⟩ (.int .i64 m.a)).setCell ⟨gE, k * 5 + 2, none⟩ (.int .i64 m.b)).setCell ⟨gE, k * 5 + 3, none⟩ (.int .i64 m.c)).setCell ⟨gE, k * 5 + 4, none⟩ (.int .i64 m.d)) = W6 := ⟨_, rfl⟩
    rw [hW6] at HFN d0 d1 d2 d3 ⊢
    have HM6 : Hid (SeatsAt W6.drew b2 T2) := Lib.hid (d3.same rfl)
    clear hW6 d3
    go_still_tail 5, (by kernel_rfl)
    change wpList _ _ _ _ _ W6.drew
    go_wp2_with (at_delete; refine wpList_delG _ kitT rfl _ _ 105 rfl 116 Tryd.underlying105 encSeat b2 T2 rfl HM6.out t rfl HT.out ?_; intro w9 hm9 hg9)
    go_ret
    exact ⟨rfl, HFN.out w9 HS5.out HE5.out hm9 ⟨hg9.os, hg9.tape, hg9.output, hg9.size, hg9.block⟩⟩
end
end Go.Proofs.YtbdnfppbiplpmaaDoor
