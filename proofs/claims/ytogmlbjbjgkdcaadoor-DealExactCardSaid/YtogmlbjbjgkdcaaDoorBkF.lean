/- The program's book by contracts: Cut. Conditions: the book is one that the calls have made; the sentinels lie where the program's text lays them. -/
import Derived.Test.YtogmlbjbjgkdcaaDoorBkE
import Derived.Test.YtogmlbjbjgkdcaaDoorOdT
namespace Go.Proofs.YtogmlbjbjgkdcaaDoor
open Go Go.RowKit

/-- Behind a store into the lots of an order of the book. -/
theorem BBk.lots {w : World} {q R : Nat} {b : RB} (h : BBk w q R b) {i : Nat} {x : Od} (hi : b.L[i]? = some x) (n : Int) :
    BBk (w.setCell ⟨R, i * 6 + 4, none⟩ (.int .i64 n)) q R ⟨b.L.set i { x with lots := n }, b.came⟩ := by
  obtain ⟨v, h1, h2, h3⟩ := h
  obtain ⟨g, cap, rfl, _, hb, _, _, _⟩ := h2.some (Nat.lt_of_le_of_lt (Nat.zero_le _) (List.getElem?_eq_some_iff.1 hi).1)
  obtain rfl : g = R := by simpa [Value.ownBlock] using h3
  have hne : q ≠ g := by omega
  refine ⟨.slice (some ⟨g, 0, none⟩) (b.L.set i { x with lots := n }).length cap, ?_, OwnE.stored (E := encOd) h2 (x := x) (r := 4) hi (by omega) rfl, rfl⟩
  rw [heap_setCell_other _ _ _ _ hne, h1, List.length_set]

set_option maxRecDepth 100000 in
set_option maxHeartbeats 1600000 in
theorem cut_nil (s : Nat → Addr) (id n : Int) (w : World) (hs : Sent s w) :
    Calls Tryd.prog 25 #[.pointer none, .int .i64 id, .int .i64 n] w fun e w' => e = .returned (errV s 2) ∧ w' = w := by
  rw [show errV s 2 = .iface 125 (.pointer (some (s 1))) from rfl]
  have e1 : w.cell? ⟨1, 0, none⟩ = some (.iface 125 (.pointer (some (s 1)))) := hs.cell 1 (by omega)
  clear hs
  go_enter Tryd.func25, Tryd.ntmps25
  go_wp2_with fail
  go_ret
  exact ⟨rfl, rfl⟩

set_option maxRecDepth 100000 in
set_option maxHeartbeats 1600000 in
theorem cut_none (s : Nat → Addr) (q R : Nat) (b : RB) (id n : Int) (w : World) (hs : Sent s w) (h : BBk w q R b) (hn : b.L.length ≤ 1000) (hp : posI b.L id = -1) :
    Calls Tryd.prog 25 #[.pointer (some ⟨q, 0, none⟩), .int .i64 id, .int .i64 n] w fun e w' => e = .returned (errV s 5) ∧ Below w.heap.size w w' := by
  rw [show errV s 5 = .iface 125 (.pointer (some (s 4))) from rfl]
  have HA := Lib.hid (at_c q R b id w h hn)
  rw [hp] at HA
  have HS := Lib.hid hs
  clear h hp hs
  go_enter Tryd.func25, Tryd.ntmps25
  go_wp2_with fail
  refine HA.out.mono ?_
  rintro e w1 ⟨rfl, hb1⟩
  have e1 : w1.cell? ⟨4, 0, none⟩ = some (.iface 125 (.pointer (some (s 4)))) := (HS.out.below hb1 (Nat.le_refl _)).cell 4 (by omega)
  go_wp2_with fail
  go_ret
  exact ⟨rfl, by (repeat' (first | (with_reducible exact Below.refl _ _) | (with_reducible refine below_drewN ?_ _) | (with_reducible refine Below.drew ?_) | (with_reducible refine Below.alloc ?_ ?_ _) | (with_reducible refine Below.setCell ?_ ?_ _) | (with_reducible refine Below.trans ?_ (Below.mono (by with_reducible assumption) ?_)) | omega | (simp only [World.size_alloc, World.size_setCell, World.size_drew, Go.Proofs.YtogmlbjbjgkdcaaDoor.World.size_drewN] at *; omega) | (with_reducible refine Below.size (B := 0) ?_)))⟩

set_option maxRecDepth 100000 in
set_option maxHeartbeats 1600000 in
theorem cut_arg (s : Nat → Addr) (q R : Nat) (b : RB) (id n : Int) (w : World) (hs : Sent s w) (h : BBk w q R b) (hn : b.L.length ≤ 1000) (i : Nat) (x : Od) (hp : posI b.L id = (i : Nat)) (hx : b.L[i]? = some x) (hl : ¬ (1 ≤ n ∧ n ≤ x.lots)) :
    Calls Tryd.prog 25 #[.pointer (some ⟨q, 0, none⟩), .int .i64 id, .int .i64 n] w fun e w' => e = .returned (errV s 1) ∧ Below w.heap.size w w' := by
  rw [show errV s 1 = .iface 125 (.pointer (some (s 0))) from rfl]
  have HA := Lib.hid (at_c q R b id w h hn)
  rw [hp] at HA
  have HW := Lib.hid (fun W => within_c n x.lots W)
  rw [decide_eq_false hl] at HW
  have HS := Lib.hid hs
  have H1 := Lib.hid h
  have hil := (List.getElem?_eq_some_iff.1 hx).1
  have hi0 : (0 : Int) ≤ (i : Int) := by omega
  have hi1 : (i : Int) < (b.L.length : Int) := by omega
  clear h hp hs hl
  go_enter Tryd.func25, Tryd.ntmps25
  go_wp2_with fail
  refine HA.out.mono ?_
  rintro e w1 ⟨rfl, hb1⟩
  have e1 : w1.cell? ⟨0, 0, none⟩ = some (.iface 125 (.pointer (some (s 0)))) := (HS.out.below hb1 (Nat.le_refl _)).cell 0 (by omega)
  obtain ⟨A, c, c0, c1, cf, cx⟩ := (H1.out.on hb1).cells
  obtain ⟨ad, rfl, ea, rf, x0, x1, x2, x3, x4, x5⟩ := cx i x hx
  clear cx
  go_wp2_with fail
  refine (HW.out _).mono ?_
  rintro e w2 ⟨rfl, rfl⟩
  go_wp2_with fail
  go_ret
  exact ⟨rfl, by (repeat' (first | (with_reducible exact Below.refl _ _) | (with_reducible refine below_drewN ?_ _) | (with_reducible refine Below.drew ?_) | (with_reducible refine Below.alloc ?_ ?_ _) | (with_reducible refine Below.setCell ?_ ?_ _) | (with_reducible refine Below.trans ?_ (Below.mono (by with_reducible assumption) ?_)) | omega | (simp only [World.size_alloc, World.size_setCell, World.size_drew, Go.Proofs.YtogmlbjbjgkdcaaDoor.World.size_drewN] at *; omega) | (with_reducible refine Below.size (B := 0) ?_)))⟩

set_option maxRecDepth 100000 in
set_option maxHeartbeats 1600000 in
theorem cut_all (q R : Nat) (b : RB) (id n : Int) (w : World) (h : BBk w q R b) (hn : b.L.length ≤ 1000) (i : Nat) (x : Od) (hp : posI b.L id = (i : Nat)) (hx : b.L[i]? = some x) (hl : 1 ≤ n ∧ n ≤ x.lots) (he : n = x.lots) :
    Calls Tryd.prog 25 #[.pointer (some ⟨q, 0, none⟩), .int .i64 id, .int .i64 n] w fun e w' => e = .returned .nilIface ∧ BBk w' q R ⟨b.L.take i ++ b.L.drop (i + 1), b.came⟩ ∧ Chg q R w w' := by
  have HA := Lib.hid (at_c q R b id w h hn)
  rw [hp] at HA
  have HW := Lib.hid (fun W => within_c n x.lots W)
  rw [decide_eq_true hl] at HW
  have H1 := Lib.hid h
  have hil := (List.getElem?_eq_some_iff.1 hx).1
  have HV := Lib.hid (fun W (hW : BBk W q R b) => remove_c q R b i W hW hil hn)
  have hi0 : (0 : Int) ≤ (i : Int) := by omega
  have hi1 : (i : Int) < (b.L.length : Int) := by omega
  have he' : (n == x.lots) = true := by simpa using he
  clear h hp hl he
  go_enter Tryd.func25, Tryd.ntmps25
  go_wp2_with fail
  refine HA.out.mono ?_
  rintro e w1 ⟨rfl, hb1⟩
  have H2 := Lib.hid (H1.out.on hb1)
  obtain ⟨A, c, c0, c1, cf, cx⟩ := H2.out.cells
  obtain ⟨ad, rfl, ea, rf, x0, x1, x2, x3, x4, x5⟩ := cx i x hx
  clear cx
  go_wp2_with fail
  refine (HW.out _).mono ?_
  rintro e w2 ⟨rfl, rfl⟩
  go_wp2_with fail
  refine (HV.out _ H2.out).mono ?_
  rintro e w3 ⟨rfl, hB, hC⟩
  have HB := Lib.hid hB
  have HC := Lib.hid hC
  clear hB hC
  go_wp2_with fail
  go_ret
  exact ⟨rfl, HB.out, (Chg.of_below hb1).trans HC.out (.inl rfl)⟩

set_option maxRecDepth 100000 in
set_option maxHeartbeats 1600000 in
theorem cut_part (q R : Nat) (b : RB) (id n : Int) (w : World) (h : BBk w q R b) (hn : b.L.length ≤ 1000) (i : Nat) (x : Od) (hp : posI b.L id = (i : Nat)) (hx : b.L[i]? = some x) (hl : 1 ≤ n ∧ n ≤ x.lots) (he : n ≠ x.lots) (h3 : x.lots ≤ 1000) :
    Calls Tryd.prog 25 #[.pointer (some ⟨q, 0, none⟩), .int .i64 id, .int .i64 n] w fun e w' => e = .returned .nilIface ∧ BBk w' q R ⟨b.L.set i { x with lots := x.lots - n }, b.came⟩ ∧ Chg q R w w' := by
  have HA := Lib.hid (at_c q R b id w h hn)
  rw [hp] at HA
  have HW := Lib.hid (fun W => within_c n x.lots W)
  rw [decide_eq_true hl] at HW
  have H1 := Lib.hid h
  have hil := (List.getElem?_eq_some_iff.1 hx).1
  have hi0 : (0 : Int) ≤ (i : Int) := by omega
  have hi1 : (i : Int) < (b.L.length : Int) := by omega
  have he' : (n == x.lots) = false := by simpa using he
  have hsub : IntKind.i64.wrap (x.lots - n) = x.lots - n := IntWalk.i64_in _ (by omega)
  have hsub2 : wrap64 (x.lots - n) = x.lots - n := by unfold wrap64; omega
  clear h hp hl he h3
  go_enter Tryd.func25, Tryd.ntmps25
  go_wp2_with fail
  refine HA.out.mono ?_
  rintro e w1 ⟨rfl, hb1⟩
  have H2 := Lib.hid (H1.out.on hb1)
  obtain ⟨A, c, c0, c1, cf, cx⟩ := H2.out.cells
  obtain ⟨ad, rfl, ea, rf, x0, x1, x2, x3, x4, x5⟩ := cx i x hx
  clear cx
  go_wp2_with fail
  refine (HW.out _).mono ?_
  rintro e w2 ⟨rfl, rfl⟩
  go_wp2_with fail
  go_ret
  exact ⟨rfl, H2.out.lots hx (x.lots - n), Chg.setCell (ad := ⟨R, i * 6 + 4, none⟩) (Chg.of_below hb1) (.inr (.inl rfl)) _⟩

/-- Cut, whatever is there. -/
theorem cut_c (s : Nat → Addr) (q R : Nat) (b : RB) (id n : Int) (w : World) (hs : Sent s w) (h : BBk w q R b) (hn : b.L.length ≤ 1000) (hg : ∀ x ∈ b.L, x.lots ≤ 1000) :
    Calls Tryd.prog 25 #[.pointer (some ⟨q, 0, none⟩), .int .i64 id, .int .i64 n] w fun e w' => e = .returned (errV s (cutR13 b id n).2) ∧ BBk w' q R (cutR13 b id n).1 ∧ Chg q R w w' := by
  rcases posI_cases b.L id with ⟨i, x, h1, h2, h3, h4⟩ | ⟨h1, h2⟩
  · by_cases hl : 1 ≤ n ∧ n ≤ x.lots
    · have hd : cutR13 b id n = (if x.lots - n = 0 then (dropR13 ⟨b.L.set i { x with lots := x.lots - n }, b.came⟩ id).1 else ⟨b.L.set i { x with lots := x.lots - n }, b.came⟩, 0) := by unfold cutR13; rw [h2, h3]; simp only; rw [if_neg (by omega)]
      rw [hd]
      by_cases he : n = x.lots
      · rw [if_pos (by omega)]
        have hd2 : dropR13 ⟨b.L.set i { x with lots := x.lots - n }, b.came⟩ id = (⟨b.L.take i ++ b.L.drop (i + 1), b.came⟩, { x with lots := x.lots - n }, 0) := by
          obtain ⟨_, k2, k3⟩ := posI_set (x' := { x with lots := x.lots - n }) h1 h3 rfl
          unfold dropR13
          simp only [k3, k2]
          rw [List.take_set_of_le (Nat.le_refl _), List.drop_set_of_lt (Nat.lt_succ_self _)]
        rw [hd2]
        exact cut_all q R b id n w h hn i x h1 h3 hl he
      · rw [if_neg (by omega)]
        exact cut_part q R b id n w h hn i x h1 h3 hl he (hg x (List.mem_of_getElem? h3))
    · have hd : cutR13 b id n = (b, 1) := by unfold cutR13; rw [h2, h3]; simp only; rw [if_pos (by omega)]
      rw [hd]
      exact (cut_arg s q R b id n w hs h hn i x h1 h3 hl).mono fun e w' ⟨he, hb⟩ => ⟨he, h.on hb, Chg.of_below hb⟩
  · have hd : cutR13 b id n = (b, 5) := by unfold cutR13; rw [h2, List.getElem?_eq_none (Nat.le_refl _)]
    rw [hd]
    exact (cut_none s q R b id n w hs h hn h1).mono fun e w' ⟨he, hb⟩ => ⟨he, h.on hb, Chg.of_below hb⟩
end Go.Proofs.YtogmlbjbjgkdcaaDoor
