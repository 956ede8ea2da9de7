/- The program's fit by contract: what is left of a spot, the best spot. Conditions: the spots lie in memory. -/
import Derived.Test.YtlckofoabnnlhaaDoorFtBa
import Derived.Test.YtlckofoabnnlhaaDoorFtBs
import Derived.Test.YtlckofoabnnlhaaDoorFtW
namespace Go.Proofs.YtlckofoabnnlhaaDoor
open Go Go.RowKit

set_option maxRecDepth 100000 in
set_option maxHeartbeats 1600000 in
theorem less16_c (s : Nat → Addr) (t : Spt) (x : V4) (w : World) (hs : Sent s w) :
    Calls Tryd.prog 44 #[.agg #[.int .i64 t.id, .int .i64 t.left.a, .int .i64 t.left.b, .int .i64 t.left.c, .int .i64 t.left.d], .agg #[.int .i64 x.a, .int .i64 x.b, .int .i64 x.c, .int .i64 x.d]] w fun e w' => e = .returned (.tuple #[.agg #[.int .i64 (remS t x).a, .int .i64 (remS t x).b, .int .i64 (remS t x).c, .int .i64 (remS t x).d], .bool (decide (fitS t x))]) ∧ Below w.heap.size w w' := by
  have HC : Hid (∀ W, Below w.heap.size w W → Calls Tryd.prog 33 #[.agg #[.int .i64 (t.left).a, .int .i64 (t.left).b, .int .i64 (t.left).c, .int .i64 (t.left).d], .agg #[.int .i64 x.a, .int .i64 x.b, .int .i64 x.c, .int .i64 x.d]] W fun e w' => e = .returned (.tuple #[.agg #[.int .i64 ((subR t.left x).1).a, .int .i64 ((subR t.left x).1).b, .int .i64 ((subR t.left x).1).c, .int .i64 ((subR t.left x).1).d], errV s (subR t.left x).2]) ∧ Below W.heap.size W w') := Lib.hid fun W hb => sub_c s t.left x W (hs.below hb (Nat.le_refl _))
  obtain ⟨r, hr⟩ : ∃ r, subR t.left x = r := ⟨_, rfl⟩
  rw [show decide (fitS t x) = ((subR t.left x).2 == 0) from by by_cases h0 : (subR t.left x).2 = 0 <;> simp [fitS, h0]]
  unfold remS
  rw [hr] at HC ⊢
  clear hr hs
  obtain ⟨⟨a, b, c, d⟩, m⟩ := r
  obtain ⟨W1, hW1⟩ : ∃ W1, W1 = ((w.alloc (.cells #[.int .i64 t.id, .int .i64 t.left.a, .int .i64 t.left.b, .int .i64 t.left.c, .int .i64 t.left.d] 82)).alloc (.cells #[.int .i64 x.a, .int .i64 x.b, .int .i64 x.c, .int .i64 x.d] 24)).alloc (.cells #[.int .i64 0, .int .i64 0, .int .i64 0, .int .i64 0] 24) := ⟨_, rfl⟩
  have hb1 : Below w.heap.size w W1 := by rw [hW1]; exact (((Below.refl _ _).alloc (Nat.le_refl _) _).alloc (by simp) _).alloc (by simp; omega) _
  have HB0 := Lib.hid hb1
  have HW1 := Lib.hid hW1
  clear hb1 hW1
  cases hm : m == 0 with
  | true =>
    obtain rfl : m = 0 := by simpa using hm
    rw [show errV s 0 = .nilIface from rfl] at HC
    clear hm
    go_enter Tryd.func44, Tryd.ntmps44
    go_upto_region 1 with fail
    go_wp2_with fail
    rw [← HW1.out]
    refine (HC.out _ HB0.out).mono ?_
    rintro e w1 ⟨rfl, b1⟩
    have hsz : W1.heap.size = w.heap.size + 3 := by rw [HW1.out]; simp
    have hz : Vk W1 (w.heap.size + 1 + 1) ⟨0, 0, 0, 0⟩ := by
      rw [HW1.out]; exact Vk.new_at (by simp) ⟨0, 0, 0, 0⟩
    have hl1 := b1.size
    rw [hsz] at hl1
    have HZ1 : Hid (Vk w1 (w.heap.size + 1 + 1) ⟨0, 0, 0, 0⟩) := Lib.hid (hz.on b1)
    have HB1 : Hid (Below w.heap.size w w1) := Lib.hid (HB0.out.trans (b1.mono (by omega)))
    have HLT : Hid (w.heap.size ≤ w.heap.size + 1 + 1 ∧ w.heap.size + 1 + 1 < w1.heap.size) := Lib.hid (by omega)
    clear hz b1 hsz hl1
    generalize w.heap.size + 1 + 1 = g at *
    obtain ⟨gy, hgy⟩ : ∃ gy, w1.heap.size = gy := ⟨_, rfl⟩
    have HY : Hid (Vk (w1.alloc (.cells #[.int .i64 a, .int .i64 b, .int .i64 c, .int .i64 d] 24)) gy ⟨a, b, c, d⟩) := Lib.hid (by rw [← hgy]; exact Vk.new_at rfl ⟨a, b, c, d⟩)
    have HZ2 : Hid (Vk (w1.alloc (.cells #[.int .i64 a, .int .i64 b, .int .i64 c, .int .i64 d] 24)) g ⟨0, 0, 0, 0⟩) := Lib.hid (HZ1.out.on ((Below.refl _ _).alloc (Nat.le_refl _) _))
    have HGY := Lib.hid hgy
    clear hgy
    go_upto_region 2 with fail
    rw [HGY.out]
    refine wp_reg (opsOf Tryd.f44 2) (by kernel_rfl) ?_
    refine less_r2n _ _ _ _ _ _ _ _ _ _ _ _ _ _ _ gy g ⟨a, b, c, d⟩ ⟨0, 0, 0, 0⟩ _ _ HY.out HZ2.out (by have := HLT.out; have := HGY.out; omega) ?_
    intro _ _ _
    obtain ⟨W2, hW2⟩ : ∃ W2, ((((((w1.alloc (.cells #[.int .i64 a, .int .i64 b, .int .i64 c, .int .i64 d] 24)).drew).setCell ⟨g, 0, none⟩ (.int .i64 a)).setCell ⟨g, 1, none⟩ (.int .i64 b)).setCell ⟨g, 2, none⟩ (.int .i64 c)).setCell ⟨g, 3, none⟩ (.int .i64 d)) = W2 := ⟨_, rfl⟩
    have hv2 : Vk W2 g ⟨a, b, c, d⟩ := by rw [← hW2]; exact HZ2.out.drew.set4 ⟨a, b, c, d⟩
    obtain ⟨z0, z1, z2, z3, zl, _⟩ := hv2.cells
    have HB2 : Hid (Below w.heap.size w W2) := Lib.hid (by rw [← hW2]; have hb := HB1.out; have hl := HLT.out.1; exact (((((hb.alloc hb.size _).drew).setCell (p := ⟨g, 0, none⟩) hl _).setCell (p := ⟨g, 1, none⟩) hl _).setCell (p := ⟨g, 2, none⟩) hl _).setCell (p := ⟨g, 3, none⟩) hl _)
    rw [hW2]
    clear hW2 hv2
    go_wp2_with fail
    exact bodyPost_ret (v := .tuple #[.agg #[.int .i64 a, .int .i64 b, .int .i64 c, .int .i64 d], .bool true]) (by simp [results, Tryd.results44, go_sem, z0, z1, z2, z3]) rfl ⟨rfl, HB2.out⟩
  | false =>
    obtain ⟨v, hv⟩ : ∃ v, errV s m = .iface 113 v := ⟨_, by unfold errV; rw [if_neg (by simpa using hm)]⟩
    rw [hv] at HC
    clear hv hm
    go_enter Tryd.func44, Tryd.ntmps44
    go_upto_region 1 with fail
    go_wp2_with fail
    rw [← HW1.out]
    refine (HC.out _ HB0.out).mono ?_
    rintro e w1 ⟨rfl, b1⟩
    have hsz : W1.heap.size = w.heap.size + 3 := by rw [HW1.out]; simp
    have hz : Vk W1 (w.heap.size + 1 + 1) ⟨0, 0, 0, 0⟩ := by
      rw [HW1.out]; exact Vk.new_at (by simp) ⟨0, 0, 0, 0⟩
    have hl1 := b1.size
    rw [hsz] at hl1
    have HZ1 : Hid (Vk w1 (w.heap.size + 1 + 1) ⟨0, 0, 0, 0⟩) := Lib.hid (hz.on b1)
    have HB1 : Hid (Below w.heap.size w w1) := Lib.hid (HB0.out.trans (b1.mono (by omega)))
    have HLT : Hid (w.heap.size ≤ w.heap.size + 1 + 1 ∧ w.heap.size + 1 + 1 < w1.heap.size) := Lib.hid (by omega)
    clear hz b1 hsz hl1
    generalize w.heap.size + 1 + 1 = g at *
    obtain ⟨gy, hgy⟩ : ∃ gy, w1.heap.size = gy := ⟨_, rfl⟩
    have HY : Hid (Vk (w1.alloc (.cells #[.int .i64 a, .int .i64 b, .int .i64 c, .int .i64 d] 24)) gy ⟨a, b, c, d⟩) := Lib.hid (by rw [← hgy]; exact Vk.new_at rfl ⟨a, b, c, d⟩)
    have HZ2 : Hid (Vk (w1.alloc (.cells #[.int .i64 a, .int .i64 b, .int .i64 c, .int .i64 d] 24)) g ⟨0, 0, 0, 0⟩) := Lib.hid (HZ1.out.on ((Below.refl _ _).alloc (Nat.le_refl _) _))
    have HGY := Lib.hid hgy
    clear hgy
    go_upto_region 2 with fail
    rw [HGY.out]
    refine wp_reg (opsOf Tryd.f44 2) (by kernel_rfl) ?_
    refine less_r2e _ _ _ _ _ _ _ _ _ _ _ _ _ _ _ gy g ⟨a, b, c, d⟩ ⟨0, 0, 0, 0⟩ v _ _ HY.out HZ2.out (by have := HLT.out; have := HGY.out; omega) ?_
    intro _ _ _
    obtain ⟨W2, hW2⟩ : ∃ W2, ((((((w1.alloc (.cells #[.int .i64 a, .int .i64 b, .int .i64 c, .int .i64 d] 24)).drew).setCell ⟨g, 0, none⟩ (.int .i64 a)).setCell ⟨g, 1, none⟩ (.int .i64 b)).setCell ⟨g, 2, none⟩ (.int .i64 c)).setCell ⟨g, 3, none⟩ (.int .i64 d)) = W2 := ⟨_, rfl⟩
    have hv2 : Vk W2 g ⟨a, b, c, d⟩ := by rw [← hW2]; exact HZ2.out.drew.set4 ⟨a, b, c, d⟩
    obtain ⟨z0, z1, z2, z3, zl, _⟩ := hv2.cells
    have HB2 : Hid (Below w.heap.size w W2) := Lib.hid (by rw [← hW2]; have hb := HB1.out; have hl := HLT.out.1; exact (((((hb.alloc hb.size _).drew).setCell (p := ⟨g, 0, none⟩) hl _).setCell (p := ⟨g, 1, none⟩) hl _).setCell (p := ⟨g, 2, none⟩) hl _).setCell (p := ⟨g, 3, none⟩) hl _)
    rw [hW2]
    clear hW2 hv2
    go_wp2_with fail
    exact bodyPost_ret (v := .tuple #[.agg #[.int .i64 a, .int .i64 b, .int .i64 c, .int .i64 d], .bool false]) (by simp [results, Tryd.results44, go_sem, z0, z1, z2, z3]) rfl ⟨rfl, HB2.out⟩

theorem below_set4b {B : Nat} {w w' : World} (h : Below B w w') {g : Nat} (hg : B ≤ g) {o1 o2 o3 o4 : Nat} (a b c d : Value) : Below B w ((((w'.setCell ⟨g, o1, none⟩ a).setCell ⟨g, o2, none⟩ b).setCell ⟨g, o3, none⟩ c).setCell ⟨g, o4, none⟩ d) :=
  (((h.setCell hg _).setCell hg _).setCell hg _).setCell hg _
/-- What remains of the best. -/
def remB (x : V4) : Option (Nat × Spt) → V4
  | none => ⟨0, 0, 0, 0⟩
  | some (_, t) => remS t x

set_option maxRecDepth 100000 in
set_option maxHeartbeats 6400000 in
theorem best_c (s : Nat → Addr) (A : Option Addr) (c : Nat) (L : List Spt) (x : V4) (w : World) (hs : Sent s w) (hL : ReadsE encSpt w A L) (hn : L.length ≤ 1000000) :
    Calls Tryd.prog 39 #[.slice A L.length c, .agg #[.int .i64 x.a, .int .i64 x.b, .int .i64 x.c, .int .i64 x.d]] w fun e w' => e = .returned (.tuple #[.int .i64 (placeS (bestS x L)), .agg #[.int .i64 (remB x (bestS x L)).a, .int .i64 (remB x (bestS x L)).b, .int .i64 (remB x (bestS x L)).c, .int .i64 (remB x (bestS x L)).d]]) ∧ Below w.heap.size w w' := by
  have HL := Lib.hid hL
  have HC : Hid (∀ W t, Below w.heap.size w W → Calls Tryd.prog 44 #[.agg #[.int .i64 t.id, .int .i64 t.left.a, .int .i64 t.left.b, .int .i64 t.left.c, .int .i64 t.left.d], .agg #[.int .i64 x.a, .int .i64 x.b, .int .i64 x.c, .int .i64 x.d]] W fun e w' => e = .returned (.tuple #[.agg #[.int .i64 (remS t x).a, .int .i64 (remS t x).b, .int .i64 (remS t x).c, .int .i64 (remS t x).d], .bool (decide (fitS t x))]) ∧ Below W.heap.size W w') := Lib.hid fun W t hb => less16_c s t x W (hs.below hb (Nat.le_refl _))
  obtain ⟨W1, hW1⟩ : ∃ W1, ((w.alloc (.cells #[.int .i64 x.a, .int .i64 x.b, .int .i64 x.c, .int .i64 x.d] 24)).alloc (.cells #[.int .i64 0, .int .i64 0, .int .i64 0, .int .i64 0] 24)).alloc (.cells #[.int .i64 0, .int .i64 0, .int .i64 0, .int .i64 0] 24) = W1 := ⟨_, rfl⟩
  obtain ⟨g, hg⟩ : ∃ g, w.heap.size = g := ⟨_, rfl⟩
  obtain ⟨g5, hg5⟩ : ∃ g5, w.heap.size + 1 = g5 := ⟨_, rfl⟩
  obtain ⟨g7, hg7⟩ : ∃ g7, w.heap.size + 1 + 1 = g7 := ⟨_, rfl⟩
  have HB1 : Hid (Below w.heap.size w W1) := Lib.hid (by rw [← hW1]; exact (((Below.refl _ _).alloc (Nat.le_refl _) _).alloc (by simp) _).alloc (by simp; omega) _)
  have HV1 : Hid (Vk W1 g x) := Lib.hid (by rw [← hW1, ← hg]; exact (Vk.new_at rfl x).on (((Below.refl _ _).alloc (Nat.le_refl _) _).alloc (by simp) _))
  have HV5 : Hid (Vk W1 g5 ⟨0, 0, 0, 0⟩) := Lib.hid (by rw [← hW1, ← hg5]; exact (Vk.new_at (by simp) ⟨0, 0, 0, 0⟩).on ((Below.refl _ _).alloc (Nat.le_refl _) _))
  have HV7 : Hid (Vk W1 g7 ⟨0, 0, 0, 0⟩) := Lib.hid (by rw [← hW1, ← hg7]; exact Vk.new_at (by simp) ⟨0, 0, 0, 0⟩)
  have HG : Hid (w.heap.size ≤ g ∧ g < g5 ∧ g5 < g7) := Lib.hid (by omega)
  have E1 := Lib.hid hW1
  have E2 := Lib.hid hg
  have E3 := Lib.hid hg5
  have E4 := Lib.hid hg7
  clear hW1 hg hg5 hg7 hL hs
  go_enter Tryd.func39, Tryd.ntmps39
  go_upto_region 3 with fail
  rw [E4.out, E3.out, E2.out, E1.out]
  go_loopg [6, 15] L.length (fun gk s6 s15 wr => ∃ (k : Nat), s15 = .int .i64 k ∧ k ≤ L.length ∧ L.length - k ≤ gk ∧ s6 = .int .i64 (placeS (bestS x (L.take k))) ∧ Aside (Below w.heap.size w wr ∧ Vk wr g x ∧ Vk wr g5 ⟨0, 0, 0, 0⟩ ∧ Vk wr g7 (remB x (bestS x (L.take k)))))
  case atStart => exact ⟨0, rfl, Nat.zero_le _, Nat.le_refl _, rfl, HB1.out, HV1.out, HV5.out, HV7.out⟩
  case round =>
    obtain ⟨k, rfl, hk, hgk, rfl, IN⟩ := hrel
    have HB := Lib.hid IN.out.1
    have HVX := Lib.hid IN.out.2.1
    have HV5 := Lib.hid IN.out.2.2.1
    have HV7 := Lib.hid IN.out.2.2.2
    clear IN
    by_cases hlt : k < L.length
    · obtain ⟨t, ht⟩ : ∃ t, L[k]? = some t := ⟨_, List.getElem?_eq_getElem hlt⟩
      have hltz : (k : Int) < (L.length : Int) := by omega
      have hst := bestS_take (x := x) ht
      have HST := Lib.hid hst
      have HBG : Hid (∀ a u, bestS x (L.take k) = some (a, u) → a < k ∧ L[a]? = some u) := Lib.hid fun a u h => by
        have := bestS_get h
        rw [List.getElem?_take] at this
        split at this
        · exact ⟨by assumption, this⟩
        · cases this
      obtain ⟨ad, p, rfl, hadd, hp, hc⟩ := HL.out k t ht
      have HP := Lib.hid hp
      have v0 := (HB.out.cell (p := p) hp).trans ((congrArg w.cell? (add_zeroE p).symm).trans (hc 0 _ rfl))
      have v1 := (HB.out.cell (p := ⟨p.block, p.off + 1, none⟩) hp).trans (hc 1 _ rfl)
      have v2 := (HB.out.cell (p := ⟨p.block, p.off + 2, none⟩) hp).trans (hc 2 _ rfl)
      have v3 := (HB.out.cell (p := ⟨p.block, p.off + 3, none⟩) hp).trans (hc 3 _ rfl)
      have v4 := (HB.out.cell (p := ⟨p.block, p.off + 4, none⟩) hp).trans (hc 4 _ rfl)
      obtain ⟨x0, x1, x2, x3, xl, _⟩ := HVX.out.cells
      have HXL := Lib.hid xl
      obtain ⟨W2, hW2⟩ : ∃ W2, wr.alloc (.cells #[.int .i64 t.id, .int .i64 t.left.a, .int .i64 t.left.b, .int .i64 t.left.c, .int .i64 t.left.d] 82) = W2 := ⟨_, rfl⟩
      have hbn : Below wr.heap.size wr W2 := by rw [← hW2]; exact (Below.refl _ _).alloc (Nat.le_refl _) _
      have hsz2 : W2.heap.size = wr.heap.size + 1 := by rw [← hW2]; simp
      have HBN := Lib.hid hbn
      have HSZ2 := Lib.hid hsz2
      have HSK : Hid (Sk 82 W2 wr.heap.size t) := Lib.hid (by rw [← hW2]; exact heap_alloc_new wr _)
      have HBS : Hid (Below w.heap.size w W2) := Lib.hid (HB.out.trans (hbn.mono HB.out.size))
      have E5 := Lib.hid hW2
      clear hst hc hp hW2 hbn hsz2 ht
      generalize hbe : bestS x (L.take k) = be at *
      clear hbe
      go_upto_region 5 with fail
      rw [E5.out]
      obtain ⟨s0, s1, s2, s3, s4, sl⟩ : W2.cell? ⟨wr.heap.size, 0, none⟩ = some (.int .i64 t.id) ∧ W2.cell? ⟨wr.heap.size, 1, none⟩ = some (.int .i64 t.left.a) ∧ W2.cell? ⟨wr.heap.size, 2, none⟩ = some (.int .i64 t.left.b) ∧ W2.cell? ⟨wr.heap.size, 3, none⟩ = some (.int .i64 t.left.c) ∧ W2.cell? ⟨wr.heap.size, 4, none⟩ = some (.int .i64 t.left.d) ∧ wr.heap.size < W2.heap.size := ⟨cell_of_heap HSK.out 0, cell_of_heap HSK.out 1, cell_of_heap HSK.out 2, cell_of_heap HSK.out 3, cell_of_heap HSK.out 4, lt_of_block HSK.out⟩
      obtain ⟨x0, x1, x2, x3, _, _⟩ := (HVX.out.on HBN.out).cells
      go_upto_region 6 with (refine (HC.out _ t HBS.out).mono ?_; rintro e w5 ⟨rfl, b5⟩; have HB5 := Lib.hid b5; clear b5 s0 s1 s2 s3 s4 x0 x1 x2 x3 v0 v1 v2 v3 v4)
      obtain ⟨gy, hgy⟩ : ∃ gy, w5.heap.size = gy := ⟨_, rfl⟩
      obtain ⟨y, hy⟩ : ∃ y, remS t x = y := ⟨_, rfl⟩
      rw [hy, hgy]
      obtain ⟨W6, hW6⟩ : ∃ W6, w5.alloc (.cells #[.int .i64 y.a, .int .i64 y.b, .int .i64 y.c, .int .i64 y.d] 24) = W6 := ⟨_, rfl⟩
      rw [hW6]
      have hl6 : W6.heap.size = gy + 1 := by rw [← hW6, ← hgy]; simp
      have HB26 : Hid (Below W2.heap.size W2 W6) := Lib.hid (by rw [← hW6]; exact HB5.out.alloc HB5.out.size _)
      have HY6 : Hid (Vk W6 gy y) := Lib.hid (by rw [← hW6]; exact Vk.new_at hgy.symm y)
      have HL7 : Hid (wr.heap.size < gy) := Lib.hid (by have := HB5.out.size; have := HSZ2.out; omega)
      have HGY : Hid (g7 < wr.heap.size) := Lib.hid (by have := HV7.out.cells.2.2.2.2.1; omega)
      have HYE : Hid (remS t x = y) := Lib.hid hy
      clear hW6 hy hgy hl6
      refine wp_reg (opsOf Tryd.f39 6) (by kernel_rfl) ?_
      by_cases hf : fitS t x
      · rw [decide_eq_true hf]
        cases be with
        | none =>
          have HB2 : Hid (bestS x (L.take (k + 1)) = some (k, t)) := Lib.hid (by rw [HST.out]; unfold stepS; simp only; rw [if_pos hf])
          rw [show placeS none = -1 from rfl]
          refine best_r6f _ _ _ _ _ _ _ _ _ _ _ _ _ _ _ _ _ _ _ _ _ _ _ _ _ _ _ _ _ _ _ _ _ _ _ _ _ _ _ _ _ _ _ _ _ _ _ _ _ _ _ _ _ _ _ _ ?_
          intro _ _ _ _ _ _ _ _ _ _ _ _ _ _ _ _ _ _ _ _ _ _ _ _ w7 b7
          have HB7 : Hid (Below W2.heap.size W2 w7) := Lib.hid (HB26.out.trans (b7.mono HB26.out.size))
          have HY7 : Hid (Vk w7 gy y) := Lib.hid (HY6.out.on b7)
          clear b7
          have HBW : Hid (Below wr.heap.size wr w7) := Lib.hid (HBN.out.trans (HB7.out.mono HBN.out.size))
          have HD7 : Hid (Below w.heap.size w w7) := Lib.hid (HB.out.trans (HBW.out.mono HB.out.size))
          have HX7 : Hid (Vk w7 g x) := Lib.hid (HVX.out.on HBW.out)
          have HZ7 : Hid (Vk w7 g5 ⟨0, 0, 0, 0⟩) := Lib.hid (HV5.out.on HBW.out)
          have HR7 : Hid (Vk w7 g7 (remB x (none))) := Lib.hid (HV7.out.on HBW.out)
          clear HB5
          go_upto_region 7 with fail
          refine wp_reg (opsOf Tryd.f39 7) (by kernel_rfl) ?_
          refine best_r7 _ _ _ _ _ _ _ _ _ _ _ _ _ _ _ _ _ _ _ _ _ _ _ _ _ _ _ _ _ _ _ _ _ _ _ _ _ _ _ _ _ _ _ _ _ _ _ _ _ _ _ _ _ gy g7 y (remB x (none)) (k : Int) _ _ HY7.out HR7.out (by have := HGY.out; have := HG.out; have := HL7.out; omega) ?_
          intro _ _
          obtain ⟨W8, hW8⟩ : ∃ W8, ((((w7.drew.setCell ⟨g7, 0, none⟩ (.int .i64 y.a)).setCell ⟨g7, 1, none⟩ (.int .i64 y.b)).setCell ⟨g7, 2, none⟩ (.int .i64 y.c)).setCell ⟨g7, 3, none⟩ (.int .i64 y.d)) = W8 := ⟨_, rfl⟩
          have hr8 : Vk W8 g7 (remS t x) := by rw [← hW8, HYE.out]; exact HR7.out.drew.set4 y
          have hx8 : Vk W8 g x := by rw [← hW8]; have hne : g ≠ g7 := by have := HG.out; omega
                                     exact (((Vk.off HX7.out.drew hne).off hne).off hne).off hne
          have hz8 : Vk W8 g5 ⟨0, 0, 0, 0⟩ := by rw [← hW8]; have hne : g5 ≠ g7 := by have := HG.out; omega
                                                 exact (((Vk.off HZ7.out.drew hne).off hne).off hne).off hne
          have hb8 : Below w.heap.size w W8 := by rw [← hW8]; exact below_set4b HD7.out.drew (by have := HG.out; omega) _ _ _ _
          have HR8 := Lib.hid hr8
          have HX8 := Lib.hid hx8
          have HZ8 := Lib.hid hz8
          have HD8 := Lib.hid hb8
          rw [hW8]
          clear hW8 hr8 hx8 hz8 hb8
          go_wp2_with fail
          go_roundg (L.length - (k + 1))
          case measure => omega
          case rel => exact ⟨k + 1, by go_num, by omega, Nat.le_refl _, by rw [HB2.out]; rfl, HD8.out, HX8.out, HZ8.out, by rw [HB2.out]; exact HR8.out⟩
        | some q =>
          obtain ⟨a, u⟩ := q
          obtain ⟨hak, hau⟩ := HBG.out a u rfl
          have HST2 : Hid (bestS x (L.take (k + 1)) = if betS x t u then some (k, t) else some (a, u)) := Lib.hid (by rw [HST.out]; unfold stepS; simp only; rw [if_pos hf])
          obtain ⟨ad', pa, hea, hada, hpa, hca⟩ := HL.out a u hau
          cases hea
          have hal : (a : Int) < (L.length : Int) := by omega
          rw [show placeS (some (a, u)) = (a : Int) from rfl]
          refine best_r6 _ _ _ _ _ _ _ _ _ _ _ _ _ _ _ _ _ _ _ _ _ _ _ _ _ _ _ _ _ _ _ _ _ _ _ _ _ _ _ _ _ _ _ _ _ _ _ _ _ _ ad pa L.length c gy g7 wr.heap.size a t.id u.id y (remS u x) _ W6 hada hal ((HB26.out.cell (p := ⟨wr.heap.size, 0, none⟩) (lt_of_block HSK.out)).trans (cell_of_heap HSK.out 0)) ((HB26.out.cell (p := pa) (Nat.lt_of_lt_of_le hpa HBS.out.size)).trans ((HBS.out.cell (p := pa) hpa).trans ((congrArg w.cell? (add_zeroE pa).symm).trans (hca 0 _ rfl)))) HY6.out ((HV7.out.on HBN.out).on HB26.out) (by have := HBS.out.size; have := HB26.out.size; omega) (by have := HSZ2.out; have := HB26.out.size; omega) ?_
          intro _ _ _ _ _ _ _ _ _ _ _ _ _ _ _ _ _ _ _ _ _ _ _ _ w7 b7
          have HB7 : Hid (Below W2.heap.size W2 w7) := Lib.hid (HB26.out.trans (b7.mono HB26.out.size))
          have HY7 : Hid (Vk w7 gy y) := Lib.hid (HY6.out.on b7)
          clear b7
          have HBW : Hid (Below wr.heap.size wr w7) := Lib.hid (HBN.out.trans (HB7.out.mono HBN.out.size))
          have HD7 : Hid (Below w.heap.size w w7) := Lib.hid (HB.out.trans (HBW.out.mono HB.out.size))
          have HX7 : Hid (Vk w7 g x) := Lib.hid (HVX.out.on HBW.out)
          have HZ7 : Hid (Vk w7 g5 ⟨0, 0, 0, 0⟩) := Lib.hid (HV5.out.on HBW.out)
          have HR7 : Hid (Vk w7 g7 (remB x (some (a, u)))) := Lib.hid (HV7.out.on HBW.out)
          clear HB5
          have hbt : (lessV y (remS u x) || (decide (y = remS u x) && decide (t.id < u.id))) = betS x t u := by rw [← HYE.out]; rfl
          rw [hbt]
          clear hbt hak hau hada hpa hca hf
          cases hbu : betS x t u with
          | true =>
            have HB2 : Hid (bestS x (L.take (k + 1)) = some (k, t)) := Lib.hid (by rw [HST2.out, hbu]; rfl)
            clear hbu
            go_upto_region 7 with fail
            refine wp_reg (opsOf Tryd.f39 7) (by kernel_rfl) ?_
            refine best_r7 _ _ _ _ _ _ _ _ _ _ _ _ _ _ _ _ _ _ _ _ _ _ _ _ _ _ _ _ _ _ _ _ _ _ _ _ _ _ _ _ _ _ _ _ _ _ _ _ _ _ _ _ _ gy g7 y (remB x (some (a, u))) (k : Int) _ _ HY7.out HR7.out (by have := HGY.out; have := HG.out; have := HL7.out; omega) ?_
            intro _ _
            obtain ⟨W8, hW8⟩ : ∃ W8, ((((w7.drew.setCell ⟨g7, 0, none⟩ (.int .i64 y.a)).setCell ⟨g7, 1, none⟩ (.int .i64 y.b)).setCell ⟨g7, 2, none⟩ (.int .i64 y.c)).setCell ⟨g7, 3, none⟩ (.int .i64 y.d)) = W8 := ⟨_, rfl⟩
            have hr8 : Vk W8 g7 (remS t x) := by rw [← hW8, HYE.out]; exact HR7.out.drew.set4 y
            have hx8 : Vk W8 g x := by rw [← hW8]; have hne : g ≠ g7 := by have := HG.out; omega
                                       exact (((Vk.off HX7.out.drew hne).off hne).off hne).off hne
            have hz8 : Vk W8 g5 ⟨0, 0, 0, 0⟩ := by rw [← hW8]; have hne : g5 ≠ g7 := by have := HG.out; omega
                                                   exact (((Vk.off HZ7.out.drew hne).off hne).off hne).off hne
            have hb8 : Below w.heap.size w W8 := by rw [← hW8]; exact below_set4b HD7.out.drew (by have := HG.out; omega) _ _ _ _
            have HR8 := Lib.hid hr8
            have HX8 := Lib.hid hx8
            have HZ8 := Lib.hid hz8
            have HD8 := Lib.hid hb8
            rw [hW8]
            clear hW8 hr8 hx8 hz8 hb8
            go_wp2_with fail
            go_roundg (L.length - (k + 1))
            case measure => omega
            case rel => exact ⟨k + 1, by go_num, by omega, Nat.le_refl _, by rw [HB2.out]; rfl, HD8.out, HX8.out, HZ8.out, by rw [HB2.out]; exact HR8.out⟩
          | false =>
            have HB2 : Hid (bestS x (L.take (k + 1)) = some (a, u)) := Lib.hid (by rw [HST2.out, hbu]; rfl)
            clear hbu
            go_wp2_with fail
            go_roundg (L.length - (k + 1))
            case measure => omega
            case rel => exact ⟨k + 1, by go_num, by omega, Nat.le_refl _, by rw [HB2.out]; rfl, HD7.out, HX7.out, HZ7.out, by rw [HB2.out]; exact HR7.out⟩
      · rw [decide_eq_false hf]
        have HB2 : Hid (bestS x (L.take (k + 1)) = be) := Lib.hid (by rw [HST.out]; unfold stepS; cases be <;> simp only <;> rw [if_neg hf])
        clear hf
        refine best_r6n _ _ _ _ _ _ _ _ _ _ _ _ _ _ _ _ _ _ _ _ _ _ _ _ _ _ _ _ _ _ _ _ _ _ _ _ _ _ _ _ _ _ _ _ _ _ _ _ _ _ _ _ _ _ _ _ _ ?_
        intro _ _ _ _ _ _ _ _ _ _ _ _ _ _ _ _ _ _ _ _ _ _ _ _ w7 b7
        have HB7 : Hid (Below W2.heap.size W2 w7) := Lib.hid (HB26.out.trans (b7.mono HB26.out.size))
        have HY7 : Hid (Vk w7 gy y) := Lib.hid (HY6.out.on b7)
        clear b7
        have HBW : Hid (Below wr.heap.size wr w7) := Lib.hid (HBN.out.trans (HB7.out.mono HBN.out.size))
        have HD7 : Hid (Below w.heap.size w w7) := Lib.hid (HB.out.trans (HBW.out.mono HB.out.size))
        have HX7 : Hid (Vk w7 g x) := Lib.hid (HVX.out.on HBW.out)
        have HZ7 : Hid (Vk w7 g5 ⟨0, 0, 0, 0⟩) := Lib.hid (HV5.out.on HBW.out)
        have HR7 : Hid (Vk w7 g7 (remB x (be))) := Lib.hid (HV7.out.on HBW.out)
        clear HB5
        go_wp2_with fail
        go_roundg (L.length - (k + 1))
        case measure => omega
        case rel => exact ⟨k + 1, by go_num, by omega, Nat.le_refl _, by rw [HB2.out], HD7.out, HX7.out, HZ7.out, by rw [HB2.out]; exact HR7.out⟩
    · obtain rfl : k = L.length := by omega
      have hlz : ¬ ((L.length : Int) < (L.length : Int)) := by omega
      have HV7' : Hid (Vk wr g7 (remB x (bestS x L))) := Lib.hid (by have := HV7.out; rwa [List.take_length] at this)
      rw [List.take_length]
      clear hn HV7
      obtain ⟨y, hy⟩ : ∃ y, remB x (bestS x L) = y := ⟨_, rfl⟩
      obtain ⟨pl, hpl⟩ : ∃ pl, placeS (bestS x L) = pl := ⟨_, rfl⟩
      rw [hy] at HV7'
      rw [hpl]
      have HY := Lib.hid hy
      have HPL := Lib.hid hpl
      clear hy hpl
      go_upto_region 9 with fail
      refine wp_reg (opsOf Tryd.f39 9) (by kernel_rfl) ?_
      refine best_r9 _ _ _ _ _ _ _ _ _ _ _ _ _ _ _ _ _ _ _ _ _ _ _ _ _ _ _ _ _ _ _ _ _ _ _ _ _ _ _ _ _ _ _ _ _ _ _ _ _ _ _ _ _ g7 g5 y ⟨0, 0, 0, 0⟩ pl _ _ HV7'.out HV5.out (by have := HG.out; omega) ?_
      intro _ _
      obtain ⟨W8, hW8⟩ : ∃ W8, ((((wr.drew.setCell ⟨g5, 0, none⟩ (.int .i64 y.a)).setCell ⟨g5, 1, none⟩ (.int .i64 y.b)).setCell ⟨g5, 2, none⟩ (.int .i64 y.c)).setCell ⟨g5, 3, none⟩ (.int .i64 y.d)) = W8 := ⟨_, rfl⟩
      have hr8 : Vk W8 g5 y := by rw [← hW8]; exact HV5.out.drew.set4 y
      have HD8 : Hid (Below w.heap.size w W8) := Lib.hid (by rw [← hW8]; exact below_set4b HB.out.drew (by have := HG.out; omega) _ _ _ _)
      obtain ⟨z0, z1, z2, z3, zl, _⟩ := hr8.cells
      rw [hW8]
      clear hW8 hr8
      go_wp2_with fail
      exact bodyPost_ret (v := .tuple #[.int .i64 pl, .agg #[.int .i64 y.a, .int .i64 y.b, .int .i64 y.c, .int .i64 y.d]]) (by simp [results, Tryd.results39, go_sem, z0, z1, z2, z3]) rfl ⟨by rw [HPL.out, HY.out], HD8.out⟩
end Go.Proofs.YtlckofoabnnlhaaDoor
