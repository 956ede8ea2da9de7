/- The program's book by contracts: List, Best. Condition: the book is one that the calls have made; no two of its orders came at the same time. -/
import Derived.Test.YtogmlbjbjgkdcaaDoorBkP
import Derived.Test.YtogmlbjbjgkdcaaDoorBkE
import Derived.Test.YtogmlbjbjgkdcaaDoorBkG
namespace Go.Proofs.YtogmlbjbjgkdcaaDoor
open Go Go.RowKit

/-- A side's orders, as they came. -/
def sideO (L : List Od) (sell : Bool) : List Od := L.filter fun x => x.sell == sell
theorem sideO_snoc (L : List Od) (sell : Bool) (i : Nat) (x : Od) (h : L[i]? = some x) : sideO (L.take (i + 1)) sell = if x.sell = sell then sideO (L.take i) sell ++ [x] else sideO (L.take i) sell := by
  obtain ⟨hl, rfl⟩ := List.getElem?_eq_some_iff.1 h
  unfold sideO
  rw [List.take_succ_eq_append_getElem hl, List.filter_append]
  by_cases hs : L[i].sell = sell
  · rw [if_pos hs]; simp [hs]
  · rw [if_neg hs]; simp [hs]
theorem sideO_le (L : List Od) (sell : Bool) : (sideO L sell).length ≤ L.length := List.length_filter_le _ _
/-- What a sort by the order of priority gives is sorted, where no two came at the same time. -/
theorem sorted_of_sort {sell : Bool} {M : List Od} (hs : ∀ x ∈ M, x.sell = sell) (hq : M.Pairwise fun a b => a.seq ≠ b.seq) (hp : M.Pairwise fun a b => aheadO b a = false) : SortedO M := by
  unfold SortedO
  refine List.pairwise_iff_getElem.2 fun i j hi hj hij => ?_
  have h1 := List.pairwise_iff_getElem.1 hq i j hi hj hij
  have h2 := List.pairwise_iff_getElem.1 hp i j hi hj hij
  rcases ahead_total ((hs _ (List.getElem_mem hi)).trans (hs _ (List.getElem_mem hj)).symm) h1 with h | h
  · exact h
  · rw [h2] at h; cases h

/-- What a round begins with. -/
structure LsB (w : World) (q R : Nat) (b : RB) (sell : Bool) (i : Nat) (v : Value) (wr : World) : Prop where
  book : BBk wr q R b
  own : OwnE encOd 36 wr w.heap.size v (sideO (b.L.take i) sell)
  below : Below w.heap.size w wr

set_option maxRecDepth 100000 in
set_option maxHeartbeats 3200000 in
theorem list_c (q R : Nat) (b : RB) (sell : Bool) (w : World) (h : BBk w q R b) (hn : b.L.length ≤ 32) (hq : b.L.Pairwise fun x y => x.seq ≠ y.seq) :
    Calls Tryd.prog 13 #[.pointer (some ⟨q, 0, none⟩), .bool sell] w fun e w' => ∃ v, e = .returned v ∧ OwnE encOd 36 w' w.heap.size v (listR13 b.L sell) ∧ Below w.heap.size w w' := by
  have HQ := Lib.hid hq
  have HB0 := Lib.hid h
  have hst : Hid (LsB w q R b sell 0 (.slice none 0 0) w) := Lib.hid ⟨h, OwnE.nil _ _ _, Below.refl _ _⟩
  have HSO := Lib.hid (fun (v : Value) (L : List Od) (W : World) (h1 : OwnE encOd 36 W w.heap.size v L) (h2 : ∀ x ∈ L, x.sell = sell) (h3 : L.length ≤ 32) => sortO_own sell w.heap.size v L W h1 h2 (by omega))
  obtain ⟨A, c, c0, c1, cf, cx⟩ := h.cells
  have HK := Lib.hid (known_c q A b.L.length c w c0)
  have HC := Lib.hid cx
  have HR := Lib.hid h.lt.2.1
  clear h hq c0 c1 cf cx
  go_enter Tryd.func13, Tryd.ntmps13
  go_wp2_with fail
  refine HK.out.mono ?_
  rintro e w1 ⟨rfl, rfl⟩
  clear HK
  go_wp2_with fail
  go_loopw [5, 11] (fun v u wr => ∃ i : Nat, i ≤ b.L.length ∧ u = .int .i64 (i : Int) ∧ LsB w1 q R b sell i v wr) (fun _ u _ => b.L.length - (intOf u).toNat)
  case atStart => exact ⟨0, Nat.zero_le _, rfl, hst.out⟩
  case round =>
    obtain ⟨i, hi, rfl, hls⟩ := hrel
    have HLS := Lib.hid hls
    clear hls hst
    by_cases hlt : i < b.L.length
    · obtain ⟨x, hx⟩ : ∃ x, b.L[i]? = some x := ⟨_, List.getElem?_eq_getElem hlt⟩
      obtain ⟨ad, rfl, ea, rf, x0, x1, x2, x3, x4, x5⟩ := HC.out i x hx
      have HX := Lib.hid hx
      have hb1 := HLS.out.below
      replace x0 := (hb1.cell (p := ⟨R, i * 6, none⟩) HR.out).trans x0
      replace x1 := (hb1.cell (p := ⟨R, i * 6 + 1, none⟩) HR.out).trans x1
      replace x2 := (hb1.cell (p := ⟨R, i * 6 + 2, none⟩) HR.out).trans x2
      replace x3 := (hb1.cell (p := ⟨R, i * 6 + 3, none⟩) HR.out).trans x3
      replace x4 := (hb1.cell (p := ⟨R, i * 6 + 4, none⟩) HR.out).trans x4
      replace x5 := (hb1.cell (p := ⟨R, i * 6 + 5, none⟩) HR.out).trans x5
      have hsz := hb1.size
      clear hx rf HC hb1
      have hi0 : (0 : Int) ≤ (i : Int) := by omega
      have hi1 : (i : Int) < (b.L.length : Int) := by omega
      by_cases hs : x.sell = sell
      · have hs' : (x.sell == sell) = true := by rw [hs]; simp
        have HS := Lib.hid hs
        obtain ⟨Ao, co, rfl⟩ := HLS.out.own.form
        obtain ⟨O, hO⟩ : ∃ O, sideO (b.L.take i) sell = O := ⟨_, rfl⟩
        have hOl : O.length ≤ 32 := by rw [← hO]; exact Nat.le_trans (sideO_le _ _) (by rw [List.length_take]; omega)
        rw [hO]
        have HO := Lib.hid hO
        clear hO hs
        obtain ⟨i0, hi9, hz0, hz1, hz2⟩ := info_parts Tryd.infoBO
        have K0 : Hid (Below w1.heap.size w1 ((wr.alloc (.cells #[.int .i64 x.id, .int .i64 x.tn, .bool x.sell, .int .i64 x.price, .int .i64 x.lots, .int .i64 x.seq] 36)).alloc (.cells #[.int .i64 x.id, .int .i64 x.tn, .bool x.sell, .int .i64 x.price, .int .i64 x.lots, .int .i64 x.seq] 36))) := Lib.hid ((HLS.out.below.alloc HLS.out.below.size _).alloc (Nat.le_trans HLS.out.below.size (by simp)) _)
        have A1 : Hid (OwnE encOd 36 ((wr.alloc (.cells #[.int .i64 x.id, .int .i64 x.tn, .bool x.sell, .int .i64 x.price, .int .i64 x.lots, .int .i64 x.seq] 36)).alloc (.cells #[.int .i64 x.id, .int .i64 x.tn, .bool x.sell, .int .i64 x.price, .int .i64 x.lots, .int .i64 x.seq] 36)) w1.heap.size (.slice Ao O.length co) O) := Lib.hid (by
          have h := HLS.out.own
          rw [HO.out] at h
          exact (h.on ((Below.refl _ _).alloc (Nat.le_refl _) _)).on ((Below.refl _ _).alloc (Nat.le_refl _) _))
        have A2 : Hid (LiesE encOd ((wr.alloc (.cells #[.int .i64 x.id, .int .i64 x.tn, .bool x.sell, .int .i64 x.price, .int .i64 x.lots, .int .i64 x.seq] 36)).alloc (.cells #[.int .i64 x.id, .int .i64 x.tn, .bool x.sell, .int .i64 x.price, .int .i64 x.lots, .int .i64 x.seq] 36)) (.slice (some ⟨wr.heap.size + 1, 0, none⟩) 1 1) [x]) := Lib.hid (.inr ⟨_, 1, rfl, Nat.le_refl _, cells_oneB (heap_at_new (by simp) _)⟩)
        have A3 : Hid (O.length + [x].length ≤ maxLen) := Lib.hid (by simp only [List.length_singleton, maxLen]; omega)
        have A4 : Hid ((O.length + [x].length) * 48 ≤ 140737488355328) := Lib.hid (by simp only [List.length_singleton]; omega)
        have A5 : Hid (w1.heap.size ≤ ((wr.alloc (.cells #[.int .i64 x.id, .int .i64 x.tn, .bool x.sell, .int .i64 x.price, .int .i64 x.lots, .int .i64 x.seq] 36)).alloc (.cells #[.int .i64 x.id, .int .i64 x.tn, .bool x.sell, .int .i64 x.price, .int .i64 x.lots, .int .i64 x.seq] 36)).heap.size) := Lib.hid K0.out.size
        go_wp2_with (first
          | (at_builtin
             refine wpList_append_E rfl _ _ 22 rfl i0 _ 48 Tryd.underlying22 hi9 hz0 hz1 hz2 rfl (by decide) rfl A1.out rfl A2.out A3.out A4.out A5.out ?_
             intro v2 w3 own3 gr3 lo3
             have HO3 := Lib.hid own3
             have HB3 : Hid (Below w1.heap.size w1 w3) := Lib.hid (K0.out.grown gr3 A5.out (fun k hk => (A1.out.lt k hk).1))
             clear own3 gr3 lo3 A1 A2 A3 A4 A5 K0))
        go_roundw
        case rel => exact ⟨i + 1, by omega, by go_num, by
          refine ⟨HB0.out.on HB3.out, ?_, HB3.out⟩
          rw [sideO_snoc b.L sell i x HX.out, if_pos HS.out, HO.out]; exact HO3.out⟩
        case measure => simp [intOf]; omega
      · have HS := Lib.hid hs
        have hs4 : (x.sell == sell) = false := by simpa using hs
        clear hs
        go_wp2_with fail
        go_roundw
        case rel => exact ⟨i + 1, by omega, by go_num, HLS.out.book.alloc _, by rw [sideO_snoc b.L sell i x HX.out, if_neg HS.out]; exact HLS.out.own.on ((Below.refl _ _).alloc (Nat.le_refl _) _), HLS.out.below.alloc hsz _⟩
        case measure => simp [intOf]; omega
    · obtain rfl : i = b.L.length := by omega
      obtain ⟨Ao, co, rfl⟩ := HLS.out.own.form
      have hown := HLS.out.own
      rw [List.take_length] at hown ⊢
      have hlen := sideO_le b.L sell
      have HW := Lib.hid (HSO.out _ _ _ hown (fun x hx => by simpa using (List.mem_filter.1 hx).2) (Nat.le_trans hlen hn))
      have HN := Lib.hid (fun k hk => (hown.lt k hk).1)
      generalize hO : sideO b.L sell = O at HW hown HN hlen ⊢
      have HOO := Lib.hid hO
      clear hO hown HSO HC
      go_wp2_with fail
      refine HW.out.mono ?_
      rintro e w3 ⟨rfl, M, hM1, hM2, hM3, hM4⟩
      have HM1 := Lib.hid hM1
      have HM2 := Lib.hid hM2
      have HM3 := Lib.hid hM3
      have HM4 := Lib.hid hM4
      clear hM1 hM2 hM3 hM4
      go_wp2_with fail
      go_ret
      refine ⟨_, rfl, ?_, HLS.out.below.grown HM4.out HLS.out.below.size (fun k hk => HN.out k hk)⟩
      have hp : M.Perm (sideO b.L sell) := by rw [HOO.out]; exact HM1.out
      have hside : ∀ x ∈ M, x.sell = sell := fun x hx => by simpa using (List.mem_filter.1 (hp.mem_iff.1 hx)).2
      have hd : M.Pairwise fun x y => x.seq ≠ y.seq := (hp.pairwise_iff (fun h e => h e.symm)).2 (HQ.out.sublist List.filter_sublist)
      rw [← list_eq13 HQ.out (sorted_of_sort hside hd HM2.out) hp]
      exact HM3.out
/-- List of no book. -/
theorem list_nil (sell : Bool) (w : World) :
    Calls Tryd.prog 13 #[.pointer none, .bool sell] w fun e w' => e = .returned (.slice none 0 0) ∧ Below w.heap.size w w' := by
  have HSO := Lib.hid (fun (W : World) => sortO_own sell 0 (.slice none 0 0) [] W (OwnE.nil _ _ _) (fun x hx => absurd hx List.not_mem_nil) (by simp))
  go_enter Tryd.func13, Tryd.ntmps13
  go_wp2_with fail
  refine (known_nil w).mono ?_
  rintro e w1 ⟨rfl, rfl⟩
  go_wp2_with fail
  refine wp_loop_rounds 1 ?_
  rw [rounds_succ]
  go_wp2_with fail
  refine (HSO.out _).mono ?_
  rintro e w3 ⟨rfl, M, hM1, hM2, hM3, hM4⟩
  clear hM1 hM2 hM3
  go_wp2_with fail
  go_ret
  exact ⟨rfl, (Below.refl _ _).grown hM4 (Nat.le_refl _) (fun k hk => by simp [Value.ownBlock] at hk)⟩

set_option maxRecDepth 100000 in
set_option maxHeartbeats 1600000 in
/-- The best of none. -/
theorem best_none (q R : Nat) (b : RB) (sell : Bool) (w : World) (h : BBk w q R b) (hn : b.L.length ≤ 32) (hq : b.L.Pairwise fun x y => x.seq ≠ y.seq) (he : listR13 b.L sell = []) :
    Calls Tryd.prog 18 #[.pointer (some ⟨q, 0, none⟩), .bool sell] w fun e w' => e = .returned (.tuple #[.agg #[.int .i64 od0.id, .int .i64 od0.tn, .bool od0.sell, .int .i64 od0.price, .int .i64 od0.lots, .int .i64 od0.seq], .bool false]) ∧ Below w.heap.size w w' := by
  have HL := Lib.hid (list_c q R b sell _ (h.alloc (.cells #[.int .i64 0, .int .i64 0, .bool false, .int .i64 0, .int .i64 0, .int .i64 0] 36)) hn hq)
  rw [he] at HL
  clear h hq he
  go_enter Tryd.func18, Tryd.ntmps18
  go_wp2_with fail
  refine HL.out.mono ?_
  rintro e w1 ⟨v, rfl, hO, hb1⟩
  obtain ⟨A, c, rfl⟩ := hO.form
  rw [List.length_nil] at *
  have z : BOdBlk w1 w.heap.size od0 := (BOdBlk.new w od0).below hb1 (by simp)
  obtain ⟨z0, z1, z2, z3, z4, z5, zl⟩ := z.cells
  have zf : ∀ j, w1.frozen? ⟨w.heap.size, j, none⟩ = false := fun j => frozen_of_heap z j
  clear z hO HL
  go_wp2_with fail
  exact bodyPost_ret (v := .tuple #[.agg #[.int .i64 0, .int .i64 0, .bool false, .int .i64 0, .int .i64 0, .int .i64 0], .bool false]) (by simp [results, Tryd.results18, go_sem, z0, z1, z2, z3, z4, z5]) rfl ⟨rfl, by (repeat' (first | (with_reducible exact Below.refl _ _) | (with_reducible refine below_drewN ?_ _) | (with_reducible refine Below.drew ?_) | (with_reducible refine Below.alloc ?_ ?_ _) | (with_reducible refine Below.setCell ?_ ?_ _) | (with_reducible refine Below.trans ?_ (Below.mono (by with_reducible assumption) ?_)) | omega | (simp only [World.size_alloc] at *; omega) | (with_reducible refine Below.size (B := 0) ?_)))⟩

set_option maxRecDepth 100000 in
set_option maxHeartbeats 1600000 in
/-- The best of some. -/
theorem best_some (q R : Nat) (b : RB) (sell : Bool) (w : World) (h : BBk w q R b) (hn : b.L.length ≤ 32) (hq : b.L.Pairwise fun x y => x.seq ≠ y.seq) (x : Od) (L : List Od) (he : listR13 b.L sell = x :: L) :
    Calls Tryd.prog 18 #[.pointer (some ⟨q, 0, none⟩), .bool sell] w fun e w' => e = .returned (.tuple #[.agg #[.int .i64 x.id, .int .i64 x.tn, .bool x.sell, .int .i64 x.price, .int .i64 x.lots, .int .i64 x.seq], .bool true]) ∧ Below w.heap.size w w' := by
  have HL := Lib.hid (list_c q R b sell _ (h.alloc (.cells #[.int .i64 0, .int .i64 0, .bool false, .int .i64 0, .int .i64 0, .int .i64 0] 36)) hn hq)
  have hlen : (L.length : Int) + 1 ≠ 0 := by omega
  rw [he] at HL
  clear h hq he
  go_enter Tryd.func18, Tryd.ntmps18
  go_wp2_with fail
  refine HL.out.mono ?_
  rintro e w1 ⟨v, rfl, hO, hb1⟩
  obtain ⟨A, c, rfl⟩ := hO.form
  obtain ⟨ad, g, rfl, ea, hg, gl, gf, hc⟩ := hO.at (i := 0) (x := x) rfl
  rw [Nat.zero_mul] at ea hc
  have x0 := hc 0 _ rfl
  have x1 := hc 1 _ rfl
  have x2 := hc 2 _ rfl
  have x3 := hc 3 _ rfl
  have x4 := hc 4 _ rfl
  have x5 := hc 5 _ rfl
  simp only [Nat.zero_add] at x0 x1 x2 x3 x4 x5
  obtain ⟨N, hN⟩ : ∃ N, (x :: L).length = N := ⟨_, rfl⟩
  have hN0 : (0 : Int) < (N : Int) := by rw [← hN]; simp
  rw [hN]
  have z : BOdBlk w1 w.heap.size od0 := (BOdBlk.new w od0).below hb1 (by simp)
  obtain ⟨z0, z1, z2, z3, z4, z5, zl⟩ := z.cells
  have zf : ∀ j, w1.frozen? ⟨w.heap.size, j, none⟩ = false := fun j => frozen_of_heap z j
  rw [add_zeroE] at ea
  subst ea
  clear z hO HL hc hN hlen gf
  go_wp2_with fail
  exact bodyPost_ret (v := .tuple #[.agg #[.int .i64 x.id, .int .i64 x.tn, .bool x.sell, .int .i64 x.price, .int .i64 x.lots, .int .i64 x.seq], .bool true]) (by simp [results, Tryd.results18, go_sem, z0, z1, z2, z3, z4, z5]) rfl ⟨rfl, by (repeat' (first | (with_reducible exact Below.refl _ _) | (with_reducible refine below_drewN ?_ _) | (with_reducible refine Below.drew ?_) | (with_reducible refine Below.alloc ?_ ?_ _) | (with_reducible refine Below.setCell ?_ ?_ _) | (with_reducible refine Below.trans ?_ (Below.mono (by with_reducible assumption) ?_)) | omega | (simp only [World.size_alloc] at *; omega) | (with_reducible refine Below.size (B := 0) ?_)))⟩
/-- The order of a side that counts first. -/
theorem best_c (q R : Nat) (b : RB) (sell : Bool) (w : World) (h : BBk w q R b) (hn : b.L.length ≤ 32) (hq : b.L.Pairwise fun x y => x.seq ≠ y.seq) :
    Calls Tryd.prog 18 #[.pointer (some ⟨q, 0, none⟩), .bool sell] w fun e w' => e = .returned (.tuple #[.agg #[.int .i64 ((listR13 b.L sell).headD od0).id, .int .i64 ((listR13 b.L sell).headD od0).tn, .bool ((listR13 b.L sell).headD od0).sell, .int .i64 ((listR13 b.L sell).headD od0).price, .int .i64 ((listR13 b.L sell).headD od0).lots, .int .i64 ((listR13 b.L sell).headD od0).seq], .bool (decide (0 < (listR13 b.L sell).length))]) ∧ Below w.heap.size w w' := by
  cases he : listR13 b.L sell with
  | nil => exact best_none q R b sell w h hn hq he
  | cons x L => rw [decide_eq_true (by simp)]; exact best_some q R b sell w h hn hq x L he
set_option maxRecDepth 100000 in
set_option maxHeartbeats 1600000 in
theorem best_nil (sell : Bool) (w : World) :
    Calls Tryd.prog 18 #[.pointer none, .bool sell] w fun e w' => e = .returned (.tuple #[.agg #[.int .i64 od0.id, .int .i64 od0.tn, .bool od0.sell, .int .i64 od0.price, .int .i64 od0.lots, .int .i64 od0.seq], .bool false]) ∧ Below w.heap.size w w' := by
  go_enter Tryd.func18, Tryd.ntmps18
  go_wp2_with fail
  refine (list_nil sell _).mono ?_
  rintro e w1 ⟨rfl, hb1⟩
  have z : BOdBlk w1 w.heap.size od0 := (BOdBlk.new w od0).below hb1 (by simp)
  obtain ⟨z0, z1, z2, z3, z4, z5, zl⟩ := z.cells
  have zf : ∀ j, w1.frozen? ⟨w.heap.size, j, none⟩ = false := fun j => frozen_of_heap z j
  clear z
  go_wp2_with fail
  exact bodyPost_ret (v := .tuple #[.agg #[.int .i64 0, .int .i64 0, .bool false, .int .i64 0, .int .i64 0, .int .i64 0], .bool false]) (by simp [results, Tryd.results18, go_sem, z0, z1, z2, z3, z4, z5]) rfl ⟨rfl, by (repeat' (first | (with_reducible exact Below.refl _ _) | (with_reducible refine below_drewN ?_ _) | (with_reducible refine Below.drew ?_) | (with_reducible refine Below.alloc ?_ ?_ _) | (with_reducible refine Below.setCell ?_ ?_ _) | (with_reducible refine Below.trans ?_ (Below.mono (by with_reducible assumption) ?_)) | omega | (simp only [World.size_alloc] at *; omega) | (with_reducible refine Below.size (B := 0) ?_)))⟩
end Go.Proofs.YtogmlbjbjgkdcaaDoor
