/- The program's book by contracts: the book in memory, which orders can be, where one is. Conditions: the book is one that the calls have made. -/
import Derived.Test.YtogmlbjbjgkdcaaDoorOdR
import Derived.Test.YtogmlbjbjgkdcaaDoorRwS
import Derived.Test.YtogmlbjbjgkdcaaDoorCmp
import Derived.Shelf.SlicesQ.IndexFunc
import Derived.IntWalk
namespace Go.Proofs.YtogmlbjbjgkdcaaDoor
open Go Go.RowKit Go.Shelf

/-- The program's book in memory: its object in the block q, its row in a block of its own (R; q itself where there is none). -/
def BBk (w : World) (q R : Nat) (b : RB) : Prop :=
  ∃ v, w.heap[q]? = some (.cells #[v, .int .i64 (b.came : Int)] 61 (0, 0)) ∧ OwnE encOd 36 w (q + 1) v b.L ∧ v.ownBlock.getD q = R
theorem BBk.on {w w' : World} {q R : Nat} {b : RB} (h : BBk w q R b) (hb : Below w.heap.size w w') : BBk w' q R b := by
  obtain ⟨v, h1, h2, h3⟩ := h
  exact ⟨v, (hb.block q (lt_of_row h1)).trans h1, h2.on hb, h3⟩
theorem BBk.lt {w : World} {q R : Nat} {b : RB} (h : BBk w q R b) : q < w.heap.size ∧ R < w.heap.size ∧ q ≤ R := by
  obtain ⟨v, h1, h2, h3⟩ := h
  have hq := lt_of_row h1
  cases hv : v.ownBlock with
  | none => rw [hv] at h3; simp at h3; omega
  | some k => rw [hv] at h3; simp at h3; have := h2.lt k hv; omega
/-- Its cells. -/
theorem BBk.cells {w : World} {q R : Nat} {b : RB} (h : BBk w q R b) : ∃ A c, w.cell? ⟨q, 0, none⟩ = some (.slice A b.L.length c) ∧ w.cell? ⟨q, 1, none⟩ = some (.int .i64 (b.came : Int)) ∧ (∀ j, w.frozen? ⟨q, j, none⟩ = false) ∧
    ∀ (i : Nat) (x : Od), b.L[i]? = some x → ∃ ad, A = some ad ∧ ad.add (i * 6) = ⟨R, i * 6, none⟩ ∧ (∀ j, w.frozen? ⟨R, j, none⟩ = false) ∧ w.cell? ⟨R, i * 6, none⟩ = some (.int .i64 x.id) ∧ w.cell? ⟨R, i * 6 + 1, none⟩ = some (.int .i64 x.tn) ∧ w.cell? ⟨R, i * 6 + 2, none⟩ = some (.bool x.sell) ∧ w.cell? ⟨R, i * 6 + 3, none⟩ = some (.int .i64 x.price) ∧ w.cell? ⟨R, i * 6 + 4, none⟩ = some (.int .i64 x.lots) ∧ w.cell? ⟨R, i * 6 + 5, none⟩ = some (.int .i64 x.seq) := by
  obtain ⟨v, h1, h2, h3⟩ := h
  obtain ⟨A, c, rfl⟩ := h2.form
  refine ⟨A, c, cell_of_heap h1 0, cell_of_heap h1 1, fun j => frozen_of_heap h1 j, fun i x hi => ?_⟩
  obtain ⟨g, cap, e, _, _, _, hf, hc⟩ := h2.some (Nat.lt_of_le_of_lt (Nat.zero_le _) (List.getElem?_eq_some_iff.1 hi).1)
  simp only [Value.slice.injEq] at e
  obtain ⟨rfl, _, rfl⟩ := e
  obtain rfl : g = R := by simpa [Value.ownBlock] using h3
  have ea : (⟨g, 0, none⟩ : Addr).add (i * 6) = ⟨g, i * 6, none⟩ := by unfold Addr.add; split <;> simp_all
  exact ⟨_, rfl, ea, hf, hc i x hi 0 _ rfl, hc i x hi 1 _ rfl, hc i x hi 2 _ rfl, hc i x hi 3 _ rfl, hc i x hi 4 _ rfl, hc i x hi 5 _ rfl⟩


theorem BBk.drewN {w : World} {q R : Nat} {b : RB} (h : BBk w q R b) (n : Nat) : BBk (w.drewN n) q R b := h
theorem BBk.alloc {w : World} {q R : Nat} {b : RB} (h : BBk w q R b) (o : Obj) : BBk (w.alloc o) q R b := h.on ((Below.refl _ _).alloc (Nat.le_refl _) _)

theorem ret_bd {p q : Prop} [Decidable p] {b : Bool} (h : p ↔ q) [Decidable q] (e : b = decide q) : Ending.returned (.bool b) = .returned (.bool (decide p)) := by
  rw [e, decide_eq_decide.2 h]
theorem within_c (x t : Int) (w : World) : Calls Tryd.prog 33 #[.int .i64 x, .int .i64 t] w fun e w' => e = .returned (.bool (decide (1 ≤ x ∧ x ≤ t))) ∧ w' = w := by
  by_cases h : 1 ≤ x
  · by_cases h2 : x ≤ t
    · have e : decide (1 ≤ x ∧ x ≤ t) = true := decide_eq_true ⟨h, h2⟩
      rw [e]
      have h1 : decide (1 ≤ x) = true := decide_eq_true h
      go_enter Tryd.func33, Tryd.ntmps33
      go_wp2_with fail
      go_ret
      exact ⟨ret_b (by simp), rfl⟩
    · have e : decide (1 ≤ x ∧ x ≤ t) = false := decide_eq_false fun k => h2 k.2
      rw [e]
      have h1 : decide (1 ≤ x) = true := decide_eq_true h
      go_enter Tryd.func33, Tryd.ntmps33
      go_wp2_with fail
      go_ret
      exact ⟨ret_b (by simp), rfl⟩
  · have e : decide (1 ≤ x ∧ x ≤ t) = false := decide_eq_false fun k => h k.1
    rw [e]
    have h1 : decide (1 ≤ x) = false := decide_eq_false h
    go_enter Tryd.func33, Tryd.ntmps33
    go_wp2_with fail
    go_ret
    exact ⟨ret_b (by simp), rfl⟩

set_option maxRecDepth 100000 in
set_option maxHeartbeats 800000 in
theorem good_c (x : Od) (w : World) :
    Calls Tryd.prog 19 #[.agg #[.int .i64 x.id, .int .i64 x.tn, .bool x.sell, .int .i64 x.price, .int .i64 x.lots, .int .i64 x.seq]] w fun e w' => e = .returned (.bool (goodO x)) ∧ Below w.heap.size w w' := by
  obtain ⟨id, tn, sell, price, lots, seq⟩ := x
  have C1 := Lib.hid (fun W => within_c id 1073741824 W)
  have C2 := Lib.hid (fun W => within_c price 1000000 W)
  have C3 := Lib.hid (fun W => within_c lots 1000 W)
  have hg : goodO ⟨id, tn, sell, price, lots, seq⟩ = (decide (1 ≤ id ∧ id ≤ 1073741824) && decide (1 ≤ price ∧ price ≤ 1000000) && decide (1 ≤ lots ∧ lots ≤ 1000)) := rfl
  rw [hg]
  clear hg
  generalize decide (1 ≤ id ∧ id ≤ 1073741824) = b1 at C1 ⊢
  generalize decide (1 ≤ price ∧ price ≤ 1000000) = b2 at C2 ⊢
  generalize decide (1 ≤ lots ∧ lots ≤ 1000) = b3 at C3 ⊢
  cases b1 <;> cases b2 <;> cases b3
  all_goals
    go_enter Tryd.func19, Tryd.ntmps19
    go_wp2_with (first
      | (go_at_call 33; with_reducible refine (C1.out _).mono ?_; rintro e w1 ⟨rfl, rfl⟩)
      | (go_at_call 33; with_reducible refine (C2.out _).mono ?_; rintro e w1 ⟨rfl, rfl⟩)
      | (go_at_call 33; with_reducible refine (C3.out _).mono ?_; rintro e w1 ⟨rfl, rfl⟩))
    go_ret
    exact ⟨rfl, by (repeat' (first | (with_reducible exact Below.refl _ _) | (with_reducible refine below_drewN ?_ _) | (with_reducible refine Below.drew ?_) | (with_reducible refine Below.alloc ?_ ?_ _) | (with_reducible refine Below.setCell ?_ ?_ _) | (with_reducible refine Below.trans ?_ (Below.mono (by with_reducible assumption) ?_)) | omega | (simp only [World.size_alloc, World.size_setCell, World.size_drew, Go.Proofs.YtogmlbjbjgkdcaaDoor.World.size_drewN] at *; omega) | (with_reducible refine Below.size (B := 0) ?_)))⟩

/-- The orders of a book. -/
theorem known_c (q : Nat) (A : Option Addr) (n c : Nat) (w : World) (h : w.cell? ⟨q, 0, none⟩ = some (.slice A n c)) :
    Calls Tryd.prog 29 #[.pointer (some ⟨q, 0, none⟩)] w fun e w' => e = .returned (.slice A n c) ∧ w' = w := by
  go_enter Tryd.func29, Tryd.ntmps29
  go_wp2_with fail
  go_ret
  exact ⟨rfl, rfl⟩
theorem known_nil (w : World) :
    Calls Tryd.prog 29 #[.pointer none] w fun e w' => e = .returned (.slice none 0 0) ∧ w' = w := by
  go_enter Tryd.func29, Tryd.ntmps29
  go_wp2_with fail
  go_ret
  exact ⟨rfl, rfl⟩

/-- The numbers of the library's text in this program. -/
def renIF : Ren := ⟨fun | 6 => 46 | n => n, fun | 0 => 0 | 3 => 3 | 4 => 4 | 22 => 22 | 23 => 36 | 25 => 55 | n => n, fun n => n⟩
theorem layIF : SlLaysH0.n6 Tryd.prog renIF where
  mixed := by kernel_rfl
  f6 := ⟨Tryd.f46.name, by kernel_rfl, Tryd.func46.trans (congrArg some (by kernel_rfl))⟩
  t0 := Tryd.underlying0
  a0 := Tryd.isAgg0
  z0 := Tryd.sizeOf0
  v0 := Tryd.zeroValue0
  t3 := Tryd.underlying3
  a3 := Tryd.isAgg3
  z3 := Tryd.sizeOf3
  v3 := Tryd.zeroValue3
  t4 := Tryd.underlying4
  a4 := Tryd.isAgg4
  z4 := Tryd.sizeOf4
  v4 := Tryd.zeroValue4
  t22 := Tryd.underlying22
  a22 := Tryd.isAgg22
  z22 := Tryd.sizeOf22
  v22 := Tryd.zeroValue22
  t25 := Tryd.underlying55
  a25 := Tryd.isAgg55
  z25 := Tryd.sizeOf55
  v25 := Tryd.zeroValue55


instance instOd : Inhabited Od := ⟨od0⟩
/-- The predicate of at: is it the order of that number? -/
theorem atpred_c (id : Int) (B : Nat) (w : World) (hB : B < w.heap.size) (hcell : w.cell? ⟨B, 0, none⟩ = some (.int .i64 id)) :
    PredBelow Tryd.prog 47 #[.pointer (some ⟨B, 0, none⟩)] (fun x => .agg (encOd.enc x).toArray) (fun x => x.id == id) w := fun W x hb => by
  have hc : W.cell? ⟨B, 0, none⟩ = some (.int .i64 id) := (hb.cell (p := ⟨B, 0, none⟩) hB).trans hcell
  have hBW : B < W.heap.size := Nat.lt_of_lt_of_le hB hb.size
  have hne : B ≠ W.heap.size := by omega
  show Calls Tryd.prog 47 #[.agg #[.int .i64 x.id, .int .i64 x.tn, .bool x.sell, .int .i64 x.price, .int .i64 x.lots, .int .i64 x.seq], .pointer (some ⟨B, 0, none⟩)] W _
  obtain ⟨i, tn, sell, price, lots, seq⟩ := x
  go_enter Tryd.func47, Tryd.ntmps47
  go_wp2_with fail
  all_goals (go_ret; exact ⟨rfl, hb.alloc hb.size _⟩)
/-- slices.IndexFunc of none. -/
theorem idx_none (fv : Value) (w : World) : Calls Tryd.prog 46 #[.slice none 0 0, fv] w fun e w' => e = .returned (.int .i64 (-1)) ∧ w' = w := by
  go_enter Tryd.func46, Tryd.ntmps46
  go_wp2_with fail
  refine wp_loop_rounds 1 ?_
  rw [rounds_succ]
  go_wp2_with fail
  refine bodyPost_ret (v := .int .i64 (-1)) (by simp [results, Tryd.results46, go_sem]) rfl ?_
  exact ⟨rfl, rfl⟩
theorem posI_idx (L : List Od) (id : Int) : Lib.idxBy (fun (_ : Od) y => y.id == id) (L.take L.length) default = posI L id := by
  rcases posI_cases L id with ⟨i, x, h1, h2, h3, h4⟩ | ⟨h1, h2⟩
  · obtain ⟨hl, rfl⟩ := List.getElem?_eq_some_iff.1 h3
    rw [h1]
    refine Lib.idxBy_hit _ L L.length i default hl (Nat.le_refl _) (by rw [getElem!_pos L i hl]; simpa using h4) fun j hj => ?_
    rw [getElem!_pos L j (by omega)]
    have := List.not_of_lt_findIdx (p := fun x : Od => x.id == id) (xs := L) (i := j) (by show j < pos L id; omega)
    simpa using this
  · rw [h1]
    refine Lib.idxBy_miss _ L L.length default fun j hj => ?_
    rw [getElem!_pos L j hj]
    have := (List.findIdx_eq_length.1 h2) _ (List.getElem_mem hj)
    simpa using this

set_option maxRecDepth 100000 in
set_option maxHeartbeats 1600000 in
/-- Where one is. -/
theorem at_c (q R : Nat) (b : RB) (id : Int) (w : World) (h : BBk w q R b) (hn : b.L.length ≤ 1000) :
    Calls Tryd.prog 34 #[.pointer (some ⟨q, 0, none⟩), .int .i64 id] w fun e w' => e = .returned (.int .i64 (posI b.L id)) ∧ Below w.heap.size w w' := by
  obtain ⟨v, h1, h2, h3⟩ := h
  have hI : ∀ X : World, X = w.alloc (.cells #[.int .i64 id] 3) → Calls Tryd.prog 46 #[v, .func (.func 47) #[] #[.pointer (some ⟨w.heap.size, 0, none⟩)]] X fun e w' => e = .returned (.int .i64 (posI b.L id)) ∧ Below X.heap.size X w' := by
    rintro X rfl
    have h2' := h2.on ((Below.refl _ _).alloc (Nat.le_refl _) (.cells #[.int .i64 id] 3))
    rcases Nat.eq_zero_or_pos b.L.length with h0 | h0
    · have hL : b.L = [] := List.eq_nil_of_length_eq_zero h0
      rcases h2.2 with ⟨rfl, _⟩ | ⟨g, cap, cur, rfl, _⟩
      · rw [hL]
        exact (idx_none _ _).mono fun e w' ⟨he, hw⟩ => by subst hw; exact ⟨he, Below.refl _ _⟩
      · rw [h0] at h2' ⊢
        have eg : ∀ args w, (callFunc 47 args).run Tryd.prog w = .ok (.enter 47 args) w := enters_of Tryd.func47 (by kernel_rfl) rfl
        obtain ⟨cur, hh, _⟩ := ownE_raw h2'
        have hcon := AnyQ.slices_IndexFunc layIF 6 Tryd.isAgg36 Tryd.sizeOf36 encOd.enc encOd.len (fun x => x.id == id) 47 #[.pointer (some ⟨w.heap.size, 0, none⟩)] eg g 0 0 cap ([] : List Od) (w.alloc (.cells #[.int .i64 id] 3))
          (atpred_c id w.heap.size _ (by simp) (by simp)) (Nat.le_refl _) (by omega) (lt_of_block hh) (fun j hj => by simp at hj)
        have e := posI_idx b.L id
        rw [hL] at e ⊢
        rw [show ([] : List Od).take 0 = ([] : List Od).take ([] : List Od).length from rfl, e] at hcon
        exact hcon
    · obtain ⟨g, cap, rfl, hcap, hb, hg, hf, hc⟩ := h2'.some h0
      have eg : ∀ args w, (callFunc 47 args).run Tryd.prog w = .ok (.enter 47 args) w := enters_of Tryd.func47 (by kernel_rfl) rfl
      have hcon := AnyQ.slices_IndexFunc layIF 6 Tryd.isAgg36 Tryd.sizeOf36 encOd.enc encOd.len (fun x => x.id == id) 47 #[.pointer (some ⟨w.heap.size, 0, none⟩)] eg g 0 b.L.length cap b.L (w.alloc (.cells #[.int .i64 id] 3))
        (atpred_c id w.heap.size _ (by simp) (by simp)) (Nat.le_refl _) (by omega) hg (fun j hj i u hu => by
          rw [getElem!_pos b.L j hj] at hu
          rw [Nat.zero_add]
          exact hc j _ (List.getElem?_eq_getElem hj) i u hu)
      rw [posI_idx] at hcon
      exact hcon
  obtain ⟨A, c, rfl⟩ := h2.form
  have c0 : (w.alloc (.cells #[.int .i64 id] 3)).cell? ⟨q, 0, none⟩ = some (.slice A b.L.length c) := (((Below.refl w.heap.size w).alloc (Nat.le_refl _) _).cell (p := ⟨q, 0, none⟩) (lt_of_block h1)).trans (cell_of_heap h1 0)
  have HI := Lib.hid hI
  have HK := Lib.hid (known_c q A b.L.length c _ c0)
  clear hI h1 h2 h3 c0
  go_enter Tryd.func34, Tryd.ntmps34
  go_wp2_with fail
  refine HK.out.mono ?_
  rintro e w1 ⟨rfl, rfl⟩
  go_wp2_with fail
  refine (HI.out _ rfl).mono ?_
  rintro e w2 ⟨rfl, hb2⟩
  go_wp2_with fail
  go_ret
  exact ⟨rfl, by (repeat' (first | (with_reducible exact Below.refl _ _) | (with_reducible refine below_drewN ?_ _) | (with_reducible refine Below.drew ?_) | (with_reducible refine Below.alloc ?_ ?_ _) | (with_reducible refine Below.setCell ?_ ?_ _) | (with_reducible refine Below.trans ?_ (Below.mono (by with_reducible assumption) ?_)) | omega | (simp only [World.size_alloc] at *; omega) | (with_reducible refine Below.size (B := 0) ?_)))⟩
/-- No book: none is in it. -/
theorem at_nil (id : Int) (w : World) :
    Calls Tryd.prog 34 #[.pointer none, .int .i64 id] w fun e w' => e = .returned (.int .i64 (-1)) ∧ Below w.heap.size w w' := by
  go_enter Tryd.func34, Tryd.ntmps34
  go_wp2_with fail
  refine (known_nil _).mono ?_
  rintro e w1 ⟨rfl, rfl⟩
  go_wp2_with fail
  refine (idx_none _ _).mono ?_
  rintro e w2 ⟨rfl, rfl⟩
  go_wp2_with fail
  go_ret
  exact ⟨rfl, by (repeat' (first | (with_reducible exact Below.refl _ _) | (with_reducible refine below_drewN ?_ _) | (with_reducible refine Below.drew ?_) | (with_reducible refine Below.alloc ?_ ?_ _) | (with_reducible refine Below.setCell ?_ ?_ _) | (with_reducible refine Below.trans ?_ (Below.mono (by with_reducible assumption) ?_)) | omega | (simp only [World.size_alloc, World.size_setCell, World.size_drew, Go.Proofs.YtogmlbjbjgkdcaaDoor.World.size_drewN] at *; omega) | (with_reducible refine Below.size (B := 0) ?_)))⟩
end Go.Proofs.YtogmlbjbjgkdcaaDoor
