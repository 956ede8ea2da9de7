/- The reference's book of stage 13 by contracts: Cut. Conditions: the book is one that the calls have made. -/
import Derived.Test.YtogmlbjbjgkdcaaDoorOdS
import Derived.StillTailTactics
namespace Go.Proofs.YtogmlbjbjgkdcaaDoor
open Go Go.RowKit

/-- Behind a store into the lots of an order of the book. -/
theorem RBk.lots {w : World} {q R : Nat} {b : RB} (h : RBk w q R b) {i : Nat} {x : Od} (hi : b.L[i]? = some x) (n : Int) :
    RBk (w.setCell ⟨R, i * 6 + 4, none⟩ (.int .i64 n)) q R ⟨b.L.set i { x with lots := n }, b.came⟩ := by
  obtain ⟨v, h1, h2, h3⟩ := h
  obtain ⟨g, cap, rfl, _, hb, _, _, _⟩ := h2.some (Nat.lt_of_le_of_lt (Nat.zero_le _) (List.getElem?_eq_some_iff.1 hi).1)
  obtain rfl : g = R := by simpa [Value.ownBlock] using h3
  have hne : q ≠ g := by omega
  refine ⟨.slice (some ⟨g, 0, none⟩) (b.L.set i { x with lots := n }).length cap, ?_, OwnE.stored (E := encOd) h2 (x := x) (r := 4) hi (by omega) rfl, rfl⟩
  rw [heap_setCell_other _ _ _ _ hne, h1, List.length_set]
theorem RBk.drew {w : World} {q R : Nat} {b : RB} (h : RBk w q R b) : RBk w.drew q R b := h
theorem posI_set {L : List Od} {id : Int} {i : Nat} {x x' : Od} (hp : posI L id = (i : Nat)) (hi : L[i]? = some x) (he : x'.id = x.id) : posI (L.set i x') id = (i : Nat) ∧ (L.set i x')[i]? = some x' ∧ pos (L.set i x') id = i := by
  have hl := (List.getElem?_eq_some_iff.1 hi).1
  have hpos : pos L id = i := by
    unfold posI at hp
    split at hp <;> omega
  have hid : x.id = id := by
    rcases posI_cases L id with ⟨j, y, _, h2, h3, h4⟩ | ⟨h1, h2⟩
    · obtain rfl : j = i := h2.symm.trans hpos
      rw [hi] at h3; obtain rfl := Option.some.inj h3; exact h4
    · omega
  have hget : (L.set i x')[i]? = some x' := by rw [List.getElem?_set_self hl]
  have hno : ∀ j y, j < i → (L.set i x')[j]? = some y → y.id ≠ id := by
    intro j y hj hy
    rw [List.getElem?_set_ne (by omega)] at hy
    have hjl := (List.getElem?_eq_some_iff.1 hy).1
    have := List.not_of_lt_findIdx (p := fun z : Od => z.id == id) (xs := L) (i := j) (by unfold pos at hpos; omega)
    obtain ⟨_, rfl⟩ := List.getElem?_eq_some_iff.1 hy
    simpa using this
  exact ⟨posI_is hget (he.trans hid) hno, hget, pos_is hget (he.trans hid) hno⟩

set_option maxRecDepth 100000 in
set_option maxHeartbeats 1600000 in
theorem rcut13_no (q R : Nat) (b : RB) (id n : Int) (w : World) (h : RBk w q R b) (hn : b.L.length ≤ 1000) (hp : posI b.L id = -1) :
    Calls Tryd.prog 27 #[.pointer (some ⟨q, 0, none⟩), .int .i64 id, .int .i64 n] w fun e w' => e = .returned (.int .i64 5) ∧ w = w' := by
  have HA := Lib.hid (fun W (hW : RBk W q R b) => rat13_c q R b id W hW hn)
  rw [hp] at HA
  have H1 := Lib.hid h
  clear h hp
  go_enter Tryd.func27, Tryd.ntmps27
  go_wp2_with fail
  refine (HA.out _ H1.out).mono ?_
  rintro e w1 ⟨rfl, rfl⟩
  go_wp2_with fail
  go_ret
  exact ⟨rfl, rfl⟩

set_option maxRecDepth 100000 in
set_option maxHeartbeats 1600000 in
theorem rcut13_arg (q R : Nat) (b : RB) (id n : Int) (w : World) (h : RBk w q R b) (hn : b.L.length ≤ 1000) (i : Nat) (x : Od) (hp : posI b.L id = (i : Nat)) (hx : b.L[i]? = some x) (hl : n < 1 ∨ x.lots < n) :
    Calls Tryd.prog 27 #[.pointer (some ⟨q, 0, none⟩), .int .i64 id, .int .i64 n] w fun e w' => e = .returned (.int .i64 1) ∧ w = w' := by
  have HA := Lib.hid (fun W (hW : RBk W q R b) => rat13_c q R b id W hW hn)
  rw [hp] at HA
  have H1 := Lib.hid h
  have hil := (List.getElem?_eq_some_iff.1 hx).1
  have hi0 : (0 : Int) ≤ (i : Int) := by omega
  have hi1 : (i : Int) < (b.L.length : Int) := by omega
  clear h hp
  obtain ⟨A, c, c0, c1, cf, cx⟩ := H1.out.cells
  obtain ⟨ad, rfl, ea, rf, x0, x1, x2, x3, x4, x5⟩ := cx i x hx
  clear cx
  by_cases h1 : n < 1
  · clear hl
    go_enter Tryd.func27, Tryd.ntmps27
    go_wp2_with fail
    refine (HA.out _ H1.out).mono ?_
    rintro e w1 ⟨rfl, rfl⟩
    go_wp2_with fail
    go_ret
    exact ⟨rfl, rfl⟩
  · have h2 : x.lots < n := hl.resolve_left h1
    have h1' : 1 ≤ n := by omega
    clear hl h1
    go_enter Tryd.func27, Tryd.ntmps27
    go_wp2_with fail
    refine (HA.out _ H1.out).mono ?_
    rintro e w1 ⟨rfl, rfl⟩
    go_wp2_with fail
    go_ret
    exact ⟨rfl, rfl⟩

set_option maxRecDepth 100000 in
set_option maxHeartbeats 1600000 in
theorem rcut13_yes (q R : Nat) (b : RB) (id n : Int) (w : World) (h : RBk w q R b) (hn : b.L.length ≤ 1000) (i : Nat) (x : Od) (hp : posI b.L id = (i : Nat)) (hx : b.L[i]? = some x) (h1 : 1 ≤ n) (h2 : n ≤ x.lots) (h3 : x.lots ≤ 1000) :
    Calls Tryd.prog 27 #[.pointer (some ⟨q, 0, none⟩), .int .i64 id, .int .i64 n] w fun e w' => e = .returned (.int .i64 0) ∧ (∃ R', RBk w' q R' (if x.lots - n = 0 then (dropR13 ⟨b.L.set i { x with lots := x.lots - n }, b.came⟩ id).1 else ⟨b.L.set i { x with lots := x.lots - n }, b.came⟩) ∧ (R' = R ∨ w.heap.size ≤ R')) ∧ Chg q R w w' := by
  have HA := Lib.hid (fun W (hW : RBk W q R b) => rat13_c q R b id W hW hn)
  rw [hp] at HA
  have H1 := Lib.hid h
  have HS := Lib.hid (h.lots hx (x.lots - n))
  have hil := (List.getElem?_eq_some_iff.1 hx).1
  have hi0 : (0 : Int) ≤ (i : Int) := by omega
  have hi1 : (i : Int) < (b.L.length : Int) := by omega
  have hsub : IntKind.i64.wrap (x.lots - n) = x.lots - n := IntWalk.i64_in _ (by omega)
  have hRq := Lib.hid h.lt
  clear h hp
  obtain ⟨A, c, c0, c1, cf, cx⟩ := H1.out.cells
  obtain ⟨ad, rfl, ea, rf, x0, x1, x2, x3, x4, x5⟩ := cx i x hx
  clear cx x0 x1 x2 x3 x5
  by_cases hz : x.lots - n = 0
  · rw [if_pos hz]
    have hz' : (x.lots - n == 0) = true := by rw [hz]; rfl
    clear hz
    go_enter Tryd.func27, Tryd.ntmps27
    go_wp2_with fail
    refine (HA.out _ H1.out).mono ?_
    rintro e w1 ⟨rfl, rfl⟩
    go_wp2_with fail
    go_still_tail 17, (by kernel_rfl)
    change wpList _ _ _ _ _ w.drew
    go_wp2_with fail
    refine (rdrop13_c q R _ id _ HS.out.drew (by rw [List.length_set]; omega)).mono ?_
    rintro e w2 ⟨rfl, hR, hc⟩
    have HR := Lib.hid hR
    have HC := Lib.hid hc
    clear hR hc
    go_wp2_with fail
    go_ret
    have hsz : (w.setCell ⟨R, i * 6 + 4, none⟩ (.int .i64 (x.lots - n))).drew.heap.size = w.heap.size := by simp
    exact ⟨rfl, (by obtain ⟨R', k1, k2⟩ := HR.out; exact ⟨R', k1, by rw [hsz] at k2; exact k2⟩), ((Chg.setCell (ad := ⟨R, i * 6 + 4, none⟩) (Chg.refl q R w) (.inr (.inl rfl)) (.int .i64 (x.lots - n))).drew).trans HC.out (.inl rfl)⟩
  · rw [if_neg hz]
    have hz' : (x.lots - n == 0) = false := by simpa using hz
    clear hz
    go_enter Tryd.func27, Tryd.ntmps27
    go_wp2_with fail
    refine (HA.out _ H1.out).mono ?_
    rintro e w1 ⟨rfl, rfl⟩
    go_wp2_with fail
    go_still_tail 17, (by kernel_rfl)
    change wpList _ _ _ _ _ w.drew
    go_wp2_with fail
    go_ret
    exact ⟨rfl, ⟨R, HS.out.drew, .inl rfl⟩, (Chg.setCell (ad := ⟨R, i * 6 + 4, none⟩) (Chg.refl q R w) (.inr (.inl rfl)) (.int .i64 (x.lots - n))).drew⟩

/-- Cut, whatever is there. -/
theorem rcut13_c (q R : Nat) (b : RB) (id n : Int) (w : World) (h : RBk w q R b) (hn : b.L.length ≤ 1000) (hg : ∀ x ∈ b.L, x.lots ≤ 1000) :
    Calls Tryd.prog 27 #[.pointer (some ⟨q, 0, none⟩), .int .i64 id, .int .i64 n] w fun e w' => e = .returned (.int .i64 ((cutR13 b id n).2 : Nat)) ∧ (∃ R', RBk w' q R' (cutR13 b id n).1 ∧ (R' = R ∨ w.heap.size ≤ R')) ∧ Chg q R w w' := by
  rcases posI_cases b.L id with ⟨i, x, h1, h2, h3, h4⟩ | ⟨h1, h2⟩
  · by_cases hl : n < 1 ∨ x.lots < n
    · have hd : cutR13 b id n = (b, 1) := by unfold cutR13; rw [h2, h3]; simp only; rw [if_pos hl]
      rw [hd]
      exact (rcut13_arg q R b id n w h hn i x h1 h3 hl).mono fun e w' ⟨he, hw⟩ => by subst hw; exact ⟨he, ⟨R, h, .inl rfl⟩, Chg.refl _ _ _⟩
    · have hd : cutR13 b id n = (if x.lots - n = 0 then (dropR13 ⟨b.L.set i { x with lots := x.lots - n }, b.came⟩ id).1 else ⟨b.L.set i { x with lots := x.lots - n }, b.came⟩, 0) := by unfold cutR13; rw [h2, h3]; simp only; rw [if_neg hl]
      rw [hd]
      exact rcut13_yes q R b id n w h hn i x h1 h3 (by omega) (by omega) (hg x (List.mem_of_getElem? h3))
  · have hd : cutR13 b id n = (b, 5) := by unfold cutR13; rw [h2, List.getElem?_eq_none (Nat.le_refl _)]
    rw [hd]
    exact (rcut13_no q R b id n w h hn h1).mono fun e w' ⟨he, hw⟩ => by subst hw; exact ⟨he, ⟨R, h, .inl rfl⟩, Chg.refl _ _ _⟩
end Go.Proofs.YtogmlbjbjgkdcaaDoor
