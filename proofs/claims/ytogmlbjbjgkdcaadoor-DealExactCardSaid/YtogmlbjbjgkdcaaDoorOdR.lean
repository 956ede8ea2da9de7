/- The reference's book of stage 13 by contracts: an order's six cells, Good, ahead, At. Conditions: the book is one that the calls have made. -/
import Derived.Test.YtogmlbjbjgkdcaaDoorOdM
import Derived.Test.YtogmlbjbjgkdcaaDoorRwK
import Derived.Test.YtogmlbjbjgkdcaaDoorErrs
import Derived.LoopTactic
import Derived.Lib.Hide
import Derived.Deep.QuietTactic
namespace Go.Proofs.YtogmlbjbjgkdcaaDoor
open Go Go.RowKit

def encOd : EncK Od 6 where
  enc x := [.int .i64 x.id, .int .i64 x.tn, .bool x.sell, .int .i64 x.price, .int .i64 x.lots, .int .i64 x.seq]
  len _ := rfl
  one x u hu := by simp at hu; rcases hu with rfl | rfl | rfl | rfl | rfl | rfl <;> rfl
theorem ret_b {a b : Bool} (h : a = b) : Ending.returned (.bool a) = .returned (.bool b) := by rw [h]

set_option maxRecDepth 100000 in
set_option maxHeartbeats 800000 in
theorem rgoodO_c (x : Od) (w : World) :
    Calls Tryd.prog 37 #[.agg #[.int .i64 x.id, .int .i64 x.tn, .bool x.sell, .int .i64 x.price, .int .i64 x.lots, .int .i64 x.seq]] w fun e w' => e = .returned (.bool (goodO x)) ∧ Below w.heap.size w w' := by
  obtain ⟨id, tn, sell, price, lots, seq⟩ := x
  go_enter Tryd.func37, Tryd.ntmps37
  go_wp2_with fail
  all_goals (go_ret; exact ⟨ret_b (by rw [Bool.eq_iff_iff]; simp [goodO]; try omega), by (repeat' (first | (with_reducible exact Below.refl _ _) | (with_reducible refine below_drewN ?_ _) | (with_reducible refine Below.drew ?_) | (with_reducible refine Below.alloc ?_ ?_ _) | (with_reducible refine Below.setCell ?_ ?_ _) | (with_reducible refine Below.trans ?_ (Below.mono (by with_reducible assumption) ?_)) | omega | (simp only [World.size_alloc, World.size_setCell, World.size_drew, Go.Proofs.YtogmlbjbjgkdcaaDoor.World.size_drewN] at *; omega) | (with_reducible refine Below.size (B := 0) ?_)))⟩)

set_option maxRecDepth 100000 in
set_option maxHeartbeats 800000 in
theorem rahead_c (x y : Od) (w : World) :
    Calls Tryd.prog 32 #[.agg #[.int .i64 x.id, .int .i64 x.tn, .bool x.sell, .int .i64 x.price, .int .i64 x.lots, .int .i64 x.seq], .agg #[.int .i64 y.id, .int .i64 y.tn, .bool y.sell, .int .i64 y.price, .int .i64 y.lots, .int .i64 y.seq]] w fun e w' => e = .returned (.bool (aheadO x y)) ∧ Below w.heap.size w w' := by
  obtain ⟨id, tn, sell, price, lots, seq⟩ := x
  obtain ⟨id', tn', sell', price', lots', seq'⟩ := y
  by_cases hp : price = price'
  · subst hp
    go_enter Tryd.func32, Tryd.ntmps32
    go_wp2_with fail
    all_goals (go_ret; exact ⟨ret_b (by simp [aheadO]), by (repeat' (first | (with_reducible exact Below.refl _ _) | (with_reducible refine below_drewN ?_ _) | (with_reducible refine Below.drew ?_) | (with_reducible refine Below.alloc ?_ ?_ _) | (with_reducible refine Below.setCell ?_ ?_ _) | (with_reducible refine Below.trans ?_ (Below.mono (by with_reducible assumption) ?_)) | omega | (simp only [World.size_alloc] at *; omega) | (with_reducible refine Below.size (B := 0) ?_)))⟩)
  · have hp1 : (price != price') = true := by simpa using hp
    go_enter Tryd.func32, Tryd.ntmps32
    go_wp2_with fail
    all_goals (go_ret; exact ⟨ret_b (by simp [aheadO, hp]), by (repeat' (first | (with_reducible exact Below.refl _ _) | (with_reducible refine below_drewN ?_ _) | (with_reducible refine Below.drew ?_) | (with_reducible refine Below.alloc ?_ ?_ _) | (with_reducible refine Below.setCell ?_ ?_ _) | (with_reducible refine Below.trans ?_ (Below.mono (by with_reducible assumption) ?_)) | omega | (simp only [World.size_alloc] at *; omega) | (with_reducible refine Below.size (B := 0) ?_)))⟩)

/-- The reference's book in memory: its object in the block q, its row in a block of its own (R; q itself where there is none). -/
def RBk (w : World) (q R : Nat) (b : RB) : Prop :=
  ∃ v, w.heap[q]? = some (.cells #[v, .int .i64 (b.came : Int)] 29 (0, 0)) ∧ OwnE encOd 40 w (q + 1) v b.L ∧ v.ownBlock.getD q = R
theorem RBk.on {w w' : World} {q R : Nat} {b : RB} (h : RBk w q R b) (hb : Below w.heap.size w w') : RBk w' q R b := by
  obtain ⟨v, h1, h2, h3⟩ := h
  exact ⟨v, (hb.block q (lt_of_row h1)).trans h1, h2.on hb, h3⟩
theorem RBk.lt {w : World} {q R : Nat} {b : RB} (h : RBk w q R b) : q < w.heap.size ∧ R < w.heap.size ∧ q ≤ R := by
  obtain ⟨v, h1, h2, h3⟩ := h
  have hq := lt_of_row h1
  cases hv : v.ownBlock with
  | none => rw [hv] at h3; simp at h3; omega
  | some k => rw [hv] at h3; simp at h3; have := h2.lt k hv; omega
/-- Its cells. -/
theorem RBk.cells {w : World} {q R : Nat} {b : RB} (h : RBk w q R b) : ∃ A c, w.cell? ⟨q, 0, none⟩ = some (.slice A b.L.length c) ∧ w.cell? ⟨q, 1, none⟩ = some (.int .i64 (b.came : Int)) ∧ (∀ j, w.frozen? ⟨q, j, none⟩ = false) ∧
    ∀ (i : Nat) (x : Od), b.L[i]? = some x → ∃ ad, A = some ad ∧ ad.add (i * 6) = ⟨R, i * 6, none⟩ ∧ (∀ j, w.frozen? ⟨R, j, none⟩ = false) ∧ w.cell? ⟨R, i * 6, none⟩ = some (.int .i64 x.id) ∧ w.cell? ⟨R, i * 6 + 1, none⟩ = some (.int .i64 x.tn) ∧ w.cell? ⟨R, i * 6 + 2, none⟩ = some (.bool x.sell) ∧ w.cell? ⟨R, i * 6 + 3, none⟩ = some (.int .i64 x.price) ∧ w.cell? ⟨R, i * 6 + 4, none⟩ = some (.int .i64 x.lots) ∧ w.cell? ⟨R, i * 6 + 5, none⟩ = some (.int .i64 x.seq) := by
  obtain ⟨v, h1, h2, h3⟩ := h
  obtain ⟨A, c, rfl⟩ := h2.form
  refine ⟨A, c, cell_of_heap h1 0, cell_of_heap h1 1, fun j => frozen_of_heap h1 j, fun i x hi => ?_⟩
  obtain ⟨g, cap, e, _, _, _, hf, hc⟩ := h2.some (Nat.lt_of_le_of_lt (Nat.zero_le _) (List.getElem?_eq_some_iff.1 hi).1)
  simp only [Value.slice.injEq] at e
  obtain ⟨rfl, _, rfl⟩ := e
  obtain rfl : g = R := by simpa [Value.ownBlock] using h3
  have ea : (⟨g, 0, none⟩ : Addr).add (i * 6) = ⟨g, i * 6, none⟩ := by unfold Addr.add; split <;> simp_all
  exact ⟨_, rfl, ea, hf, hc i x hi 0 _ rfl, hc i x hi 1 _ rfl, hc i x hi 2 _ rfl, hc i x hi 3 _ rfl, hc i x hi 4 _ rfl, hc i x hi 5 _ rfl⟩

set_option maxRecDepth 100000 in
set_option maxHeartbeats 1600000 in
/-- Where one is. -/
theorem rat13_c (q R : Nat) (b : RB) (id : Int) (w : World) (h : RBk w q R b) (hn : b.L.length ≤ 1000) :
    Calls Tryd.prog 38 #[.pointer (some ⟨q, 0, none⟩), .int .i64 id] w fun e w' => e = .returned (.int .i64 (posI b.L id)) ∧ w = w' := by
  obtain ⟨A, c, hc0, hc1, hf, hcx⟩ := h.cells
  have HC := Lib.hid hcx
  clear hcx
  go_enter Tryd.func38, Tryd.ntmps38
  go_wp2_with fail
  go_loopw [5] (fun u wr => ∃ j : Nat, j ≤ b.L.length ∧ u = .int .i64 (j : Int) ∧ (∀ k y, k < j → b.L[k]? = some y → y.id ≠ id) ∧ w = wr) (fun u _ => b.L.length - (intOf u).toNat)
  case atStart => exact ⟨0, Nat.zero_le _, rfl, fun k y hk => by omega, rfl⟩
  case round =>
    obtain ⟨j, hj, rfl, hno, rfl⟩ := hrel
    have HN := Lib.hid hno
    clear hno
    by_cases hlt : j < b.L.length
    · obtain ⟨x, hx⟩ : ∃ x, b.L[j]? = some x := ⟨_, List.getElem?_eq_getElem hlt⟩
      have HX := Lib.hid hx
      obtain ⟨ad, rfl, ea, _, x0, _⟩ := HC.out j x hx
      clear hx
      have hi0 : (0 : Int) ≤ (j : Int) := by omega
      have hi1 : (j : Int) < (b.L.length : Int) := by omega
      by_cases he : x.id = id
      · have he' : (x.id == id) = true := by simpa using he
        have HE := Lib.hid he
        clear he
        go_wp2_with fail
        go_ret
        refine ⟨?_, rfl⟩
        rw [posI_is HX.out HE.out HN.out]
        rfl
      · have he' : (x.id == id) = false := by simpa using he
        have HE := Lib.hid he
        clear he
        go_wp2_with fail
        go_roundw
        case rel =>
          refine ⟨j + 1, by omega, by go_num, fun k y hk hy => ?_, by first | rfl | trivial⟩
          rcases Nat.lt_succ_iff_lt_or_eq.1 hk with hk | rfl
          · exact HN.out k y hk hy
          · rw [HX.out] at hy; obtain rfl := Option.some.inj hy; exact HE.out
        case measure => simp [intOf]; omega
    · obtain rfl : j = b.L.length := by omega
      go_wp2_with fail
      go_ret
      refine ⟨?_, rfl⟩
      rw [posI_none fun k y hy => HN.out k y (List.getElem?_eq_some_iff.1 hy).1 hy]
      rfl
end Go.Proofs.YtogmlbjbjgkdcaaDoor
