/- The reference's park of stage 15: Live. Conditions: the park is one that the calls have made. -/
import Derived.Test.YtaenpajmgenjhaaDoorPkV
import Derived.Test.YtaenpajmgenjhaaDoorPkR
import Derived.Test.YtaenpajmgenjhaaDoorRgC
import Derived.StillTailTactics
import Derived.Deep.RegionHeld3
namespace Go.Proofs.YtaenpajmgenjhaaDoor
open Go Go.RowKit

/-- A vector in a block. -/
def Vk (w : World) (g : Nat) (x : V4) : Prop := w.heap[g]? = some (.cells #[.int .i64 x.a, .int .i64 x.b, .int .i64 x.c, .int .i64 x.d] 28 (0, 0))
theorem Vk.cells {w : World} {g : Nat} {x : V4} (h : Vk w g x) : w.cell? ⟨g, 0, none⟩ = some (.int .i64 x.a) ∧ w.cell? ⟨g, 1, none⟩ = some (.int .i64 x.b) ∧ w.cell? ⟨g, 2, none⟩ = some (.int .i64 x.c) ∧ w.cell? ⟨g, 3, none⟩ = some (.int .i64 x.d) ∧ g < w.heap.size ∧ ∀ j, w.frozen? ⟨g, j, none⟩ = false :=
  ⟨cell_of_heap h 0, cell_of_heap h 1, cell_of_heap h 2, cell_of_heap h 3, lt_of_row h, fun j => frozen_of_heap h j⟩
theorem Vk.drewN {w : World} {g : Nat} {x : V4} (h : Vk w g x) (n : Nat) : Vk (w.drewN n) g x := h
theorem PkR.kept {w w' : World} {u p q : Nat} {P : List Mc} (h : PkR w u P) (hc : Chg p q w w') (h1 : u ≠ p) (h2 : u ≠ q) : PkR w' u P := by
  obtain ⟨cs, k1, k2, k3⟩ := h
  exact ⟨cs, hc.row k1 h1 h2, k2, k3⟩
/-- The first j numbers of y, the others of x. -/
def partV (j : Nat) (x y : V4) : V4 := ⟨if 0 < j then y.a else x.a, if 1 < j then y.b else x.b, if 2 < j then y.c else x.c, if 3 < j then y.d else x.d⟩
theorem part_0 (x y : V4) : partV 0 x y = x := rfl
theorem part_4 (x y : V4) : partV 4 x y = y := rfl

/-- What is asked behind it. -/
def rlive_inQ (u1 u2 u3 u4 u5 u6 u10 u11 u12 u13 u14 u15 u16 u17 u18 u19 u20 u21 u22 u23 u24 u25 u26 u27 u28 u29 u30 u31 u32 u33 u34 u35 u36 u37 u38 u57 : Value) (u g i : Nat) (P : List Mc) (x : V4) (Q : Exit → Act → World → Prop) (w : World) : Prop :=
  ∀ (v9 v39 v40 v41 v42 v43 v44 v45 v46 v47 v48 v49 v50 v51 v52 v53 v54 v55 v56 : Value) (w' : World), Vk w' g (addV x (slotP P (i : Int)).has) → Chg g g w w' → Q .normal { tmps := #[.pointer (some ⟨u, 0, none⟩), u1, u2, u3, u4, u5, u6, .pointer (some ⟨g, 0, none⟩), .int .i64 (i : Int), v9, u10, u11, u12, u13, u14, u15, u16, u17, u18, u19, u20, u21, u22, u23, u24, u25, u26, u27, u28, u29, u30, u31, u32, u33, u34, u35, u36, u37, u38, v39, v40, v41, v42, v43, v44, v45, v46, v47, v48, v49, v50, v51, v52, v53, v54, v55, v56, u57], defers := [] } w'
set_option maxRecDepth 100000 in
set_option maxHeartbeats 6400000 in
/-- The four numbers of one machine. -/
theorem rlive_in (u1 u2 u3 u4 u5 u6 u10 u11 u12 u13 u14 u15 u16 u17 u18 u19 u20 u21 u22 u23 u24 u25 u26 u27 u28 u29 u30 u31 u32 u33 u34 u35 u36 u37 u38 u39 u40 u41 u42 u43 u44 u45 u46 u47 u48 u49 u50 u51 u52 u53 u54 u55 u56 u57 : Value) (u g i : Nat) (P : List Mc) (x : V4) (Q : Exit → Act → World → Prop) (w : World) (h : PkR w u P) (hi : i < 1000) (hV : Vk w g x) (hu : u ≠ g) (hx : Bd x) (hm : goodV (slotP P (i : Int)).has = true)
    (hQ : rlive_inQ u1 u2 u3 u4 u5 u6 u10 u11 u12 u13 u14 u15 u16 u17 u18 u19 u20 u21 u22 u23 u24 u25 u26 u27 u28 u29 u30 u31 u32 u33 u34 u35 u36 u37 u38 u57 u g i P x Q w) :
    (Code.block 2 (bodyOf Tryd.f18 2)).wp Tryd.prog Q { tmps := #[.pointer (some ⟨u, 0, none⟩), u1, u2, u3, u4, u5, u6, .pointer (some ⟨g, 0, none⟩), .int .i64 (i : Int), .int .i64 0, u10, u11, u12, u13, u14, u15, u16, u17, u18, u19, u20, u21, u22, u23, u24, u25, u26, u27, u28, u29, u30, u31, u32, u33, u34, u35, u36, u37, u38, u39, u40, u41, u42, u43, u44, u45, u46, u47, u48, u49, u50, u51, u52, u53, u54, u55, u56, u57], defers := [] } w := by
  simp only [bodyOf, Tryd.f18, blkOf, Option.bind_some, Option.orElse, Option.getD_some, Nat.reduceEqDiff, if_true, if_false, reduceCtorEq]
  have HQ := Lib.hid hQ
  have H := Lib.hid h
  have HV := Lib.hid hV
  have hmb := (good_iff _).1 hm
  obtain ⟨m, hm2⟩ : ∃ m, (slotP P (i : Int)).has = m := ⟨_, rfl⟩
  have HB : Hid (Bd x ∧ (0 ≤ m.a ∧ m.a ≤ 1099511627776) ∧ (0 ≤ m.b ∧ m.b ≤ 1099511627776) ∧ (0 ≤ m.c ∧ m.c ≤ 1099511627776) ∧ (0 ≤ m.d ∧ m.d ≤ 1099511627776)) := Lib.hid ⟨hx, by rw [← hm2]; exact hmb⟩
  have HMM := Lib.hid hm2
  clear hQ h hV hx hm hmb hm2
  go_wp2_with fail
  go_loopw [9] (fun v W => ∃ j : Nat, j ≤ 4 ∧ v = .int .i64 (j : Int) ∧ Vk W g (partV j x (addV x m)) ∧ Chg g g w W) (fun v _ => 4 - (intOf v).toNat)
  case atStart => exact ⟨0, by omega, rfl, by rw [part_0]; exact HV.out, Chg.refl _ _ _⟩
  case round =>
    obtain ⟨j, hj, rfl, hVj, hC⟩ := hrel
    have HVj := Lib.hid hVj
    have HC := Lib.hid hC
    have HK := Lib.hid (H.out.kept hC hu hu)
    clear hVj hC
    obtain ⟨c0, c1, c2, c3, c4, c5, cl, cf⟩ := HK.out.cells hi
    rw [HMM.out] at c1 c2 c3 c4
    have hi0 : (0 : Int) ≤ (i : Int) := by omega
    have hi1 : (i : Int) < 1000 := by omega
    by_cases hj4 : j = 4
    · subst hj4
      rw [part_4] at HVj
      rw [← HMM.out] at HVj
      go_wp2_with fail
      exact HQ.out _ _ _ _ _ _ _ _ _ _ _ _ _ _ _ _ _ _ _ _ HVj.out HC.out
    · have hjj : j = 0 ∨ j = 1 ∨ j = 2 ∨ j = 3 := by omega
      clear hj4 hj
      rcases hjj with rfl | rfl | rfl | rfl
      · have hv : Vk wr g ⟨x.a, x.b, x.c, x.d⟩ := HVj.out
        have HV2 := Lib.hid hv
        obtain ⟨v0, v1, v2, v3, vl, vf⟩ := hv.cells
        simp only at v0 v1 v2 v3
        have w1 : IntKind.i64.wrap (x.a + m.a) = x.a + m.a := IntWalk.i64_in _ (by have := HB.out; unfold Bd at this; omega)
        have w2 : wrap64 (x.a + m.a) = x.a + m.a := by have := HB.out; unfold Bd at this; unfold wrap64; omega
        clear hv HVj
        go_wp2_with fail
        go_still_tail 14, (by kernel_rfl)
        change wpList _ _ _ _ _ wr.drew
        go_wp2_with fail
        have HV3 : Hid (Vk (wr.drew.setCell ⟨g, 0, none⟩ (.int .i64 (x.a + m.a))) g ⟨x.a + m.a, x.b, x.c, x.d⟩) := Lib.hid (by
          have h0 : wr.drew.heap[g]? = some (.cells #[.int .i64 (x.a), .int .i64 (x.b), .int .i64 (x.c), .int .i64 (x.d)] 28 (0, 0)) := HV2.out
          exact heap_setCell_same wr.drew g 0 _ _ _ h0)
        go_roundw
        case rel => exact ⟨1, by omega, rfl, by first | exact HV3.out | (simp; exact HV3.out), by first | exact HC.out.drew.setCell (.inl rfl) _ | exact (HC.out.setCell (.inl rfl) _).drew⟩
        case measure => simp [intOf]
      · have hv : Vk wr g ⟨x.a + m.a, x.b, x.c, x.d⟩ := HVj.out
        have HV2 := Lib.hid hv
        obtain ⟨v0, v1, v2, v3, vl, vf⟩ := hv.cells
        simp only at v0 v1 v2 v3
        have w1 : IntKind.i64.wrap (x.b + m.b) = x.b + m.b := IntWalk.i64_in _ (by have := HB.out; unfold Bd at this; omega)
        have w2 : wrap64 (x.b + m.b) = x.b + m.b := by have := HB.out; unfold Bd at this; unfold wrap64; omega
        clear hv HVj
        go_wp2_with fail
        go_still_tail 14, (by kernel_rfl)
        change wpList _ _ _ _ _ wr.drew
        go_wp2_with fail
        have HV3 : Hid (Vk (wr.drew.setCell ⟨g, 1, none⟩ (.int .i64 (x.b + m.b))) g ⟨x.a + m.a, x.b + m.b, x.c, x.d⟩) := Lib.hid (by
          have h0 : wr.drew.heap[g]? = some (.cells #[.int .i64 (x.a + m.a), .int .i64 (x.b), .int .i64 (x.c), .int .i64 (x.d)] 28 (0, 0)) := HV2.out
          exact heap_setCell_same wr.drew g 1 _ _ _ h0)
        go_roundw
        case rel => exact ⟨2, by omega, rfl, by first | exact HV3.out | (simp; exact HV3.out), by first | exact HC.out.drew.setCell (.inl rfl) _ | exact (HC.out.setCell (.inl rfl) _).drew⟩
        case measure => simp [intOf]
      · have hv : Vk wr g ⟨x.a + m.a, x.b + m.b, x.c, x.d⟩ := HVj.out
        have HV2 := Lib.hid hv
        obtain ⟨v0, v1, v2, v3, vl, vf⟩ := hv.cells
        simp only at v0 v1 v2 v3
        have w1 : IntKind.i64.wrap (x.c + m.c) = x.c + m.c := IntWalk.i64_in _ (by have := HB.out; unfold Bd at this; omega)
        have w2 : wrap64 (x.c + m.c) = x.c + m.c := by have := HB.out; unfold Bd at this; unfold wrap64; omega
        clear hv HVj
        go_wp2_with fail
        go_still_tail 14, (by kernel_rfl)
        change wpList _ _ _ _ _ wr.drew
        go_wp2_with fail
        have HV3 : Hid (Vk (wr.drew.setCell ⟨g, 2, none⟩ (.int .i64 (x.c + m.c))) g ⟨x.a + m.a, x.b + m.b, x.c + m.c, x.d⟩) := Lib.hid (by
          have h0 : wr.drew.heap[g]? = some (.cells #[.int .i64 (x.a + m.a), .int .i64 (x.b + m.b), .int .i64 (x.c), .int .i64 (x.d)] 28 (0, 0)) := HV2.out
          exact heap_setCell_same wr.drew g 2 _ _ _ h0)
        go_roundw
        case rel => exact ⟨3, by omega, rfl, by first | exact HV3.out | (simp; exact HV3.out), by first | exact HC.out.drew.setCell (.inl rfl) _ | exact (HC.out.setCell (.inl rfl) _).drew⟩
        case measure => simp [intOf]
      · have hv : Vk wr g ⟨x.a + m.a, x.b + m.b, x.c + m.c, x.d⟩ := HVj.out
        have HV2 := Lib.hid hv
        obtain ⟨v0, v1, v2, v3, vl, vf⟩ := hv.cells
        simp only at v0 v1 v2 v3
        have w1 : IntKind.i64.wrap (x.d + m.d) = x.d + m.d := IntWalk.i64_in _ (by have := HB.out; unfold Bd at this; omega)
        have w2 : wrap64 (x.d + m.d) = x.d + m.d := by have := HB.out; unfold Bd at this; unfold wrap64; omega
        clear hv HVj
        go_wp2_with fail
        go_still_tail 14, (by kernel_rfl)
        change wpList _ _ _ _ _ wr.drew
        go_wp2_with fail
        have HV3 : Hid (Vk (wr.drew.setCell ⟨g, 3, none⟩ (.int .i64 (x.d + m.d))) g ⟨x.a + m.a, x.b + m.b, x.c + m.c, x.d + m.d⟩) := Lib.hid (by
          have h0 : wr.drew.heap[g]? = some (.cells #[.int .i64 (x.a + m.a), .int .i64 (x.b + m.b), .int .i64 (x.c + m.c), .int .i64 (x.d)] 28 (0, 0)) := HV2.out
          exact heap_setCell_same wr.drew g 3 _ _ _ h0)
        go_roundw
        case rel => exact ⟨4, by omega, rfl, by first | exact HV3.out | (simp; exact HV3.out), by first | exact HC.out.drew.setCell (.inl rfl) _ | exact (HC.out.setCell (.inl rfl) _).drew⟩
        case measure => simp [intOf]

end Go.Proofs.YtaenpajmgenjhaaDoor
