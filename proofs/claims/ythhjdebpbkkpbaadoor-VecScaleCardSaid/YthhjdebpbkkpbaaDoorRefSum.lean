/- The contract of Sum of the reference, over any slice of vectors: the sum, the error's number, the place. No conditions. -/
import Derived.Test.YthhjdebpbkkpbaaDoorRefAdd
import Derived.Test.YthhjdebpbkkpbaaDoorSum
import Derived.Deep.RegionHeld3
namespace Go.Proofs.YthhjdebpbkkpbaaDoor
open Go Go.RowKit

theorem radd_ok (x y : V4) (w : World) (h : (addR x y).2 = 0) :
    Calls Tryd.prog 11 #[.agg #[.int .i64 x.a, .int .i64 x.b, .int .i64 x.c, .int .i64 x.d], .agg #[.int .i64 y.a, .int .i64 y.b, .int .i64 y.c, .int .i64 y.d]] w fun e w' => e = .returned (.tuple #[.agg #[.int .i64 ((addR x y).1).a, .int .i64 ((addR x y).1).b, .int .i64 ((addR x y).1).c, .int .i64 ((addR x y).1).d], .int .i64 0]) ∧ Below w.heap.size w w' := by
  have := radd_c x y w
  rw [h] at this
  exact this

theorem SRel.next {w W : World} {zs : List V4} {k : Nat} {t z : V4} (HR : sumR zs = sumGo (zs.drop k) t k) (HZ : zs[k]? = some z) (HE : (addR t z).2 = 0) (hlt : k < zs.length)
    (hb : Below w.heap.size w W) (h0 : Vb W w.heap.size ⟨0, 0, 0, 0⟩) (h1 : Vb W (w.heap.size + 1) (addR t z).1) : SRel w zs (.int .i64 ((k : Int) + 1)) W :=
  ⟨k + 1, (addR t z).1, by omega, by go_num, by rw [HR, drop_of_get HZ, sumGo_ok HE], hb, by have := lt_of_row h1; omega, h0, h1⟩

/-- How the reference's Sum ends. -/
def RSumPost (R : V4 × Nat × Nat) (w : World) (e : Ending) (w' : World) : Prop :=
  Below w.heap.size w w' ∧ e = .returned (.tuple #[.agg #[.int .i64 (R.1).a, .int .i64 (R.1).b, .int .i64 (R.1).c, .int .i64 (R.1).d], .int .i64 (R.2.1 : Nat), .int .i64 (R.2.2 : Nat)])

set_option maxRecDepth 100000 in
set_option maxHeartbeats 1600000 in
theorem rsum_any (A : Option Addr) (c : Nat) (zs : List V4) (w : World) (hr : VRow w w.heap.size A zs) (hl : zs.length ≤ 9223372036854775807) :
    Calls Tryd.prog 23 #[.slice A zs.length c] w (RSumPost (sumR zs) w) := by
  go_enter Tryd.func23, Tryd.ntmps23
  go_wp2_with fail
  go_loopw [6] (fun i wr => SRel w zs i wr) (fun i _ => zs.length - (intOf i).toNat)
  case atStart => exact ⟨0, ⟨0, 0, 0, 0⟩, Nat.zero_le _, rfl, rfl, by (repeat' (first | (with_reducible exact Below.refl _ _) | (with_reducible refine below_drewN ?_ _) | (with_reducible refine Below.drew ?_) | (with_reducible refine Below.alloc ?_ ?_ _) | (with_reducible refine Below.setCell ?_ ?_ _) | (with_reducible refine Below.trans ?_ (Below.mono (by with_reducible assumption) ?_)) | omega | (simp only [World.size_alloc] at *; omega) | (with_reducible refine Below.size (B := 0) ?_))), by simp, (Vb.new w ⟨0, 0, 0, 0⟩).below (B := w.heap.size + 1) ((Below.refl _ _).alloc (by simp) _) (by omega), Vb.new_at (by simp) ⟨0, 0, 0, 0⟩⟩
  case round =>
    obtain ⟨k, t, hk, rfl, hR, hb, hz, hB0, hB1⟩ := hrel
    have HR := Lib.hid hR; clear hR
    by_cases hlt : k < zs.length
    · obtain ⟨ad, rfl, had, hcells⟩ := (hr.below hb) (by omega)
      have hzk := List.getElem?_eq_getElem hlt
      generalize zs[k] = z at hzk
      obtain ⟨q0, q1, q2, q3⟩ := hcells k _ hzk
      clear hcells
      have HZ := Lib.hid hzk; clear hzk
      have hpl : (ad.add (k * 4)).block < wr.heap.size := by rw [block_of_add]; omega
      obtain ⟨c0, c1, c2, c3, cf, cl⟩ := hB1.facts
      have HS : Hid (∀ w' : World, Below wr.heap.size wr w' → (w'.cell? (ad.add (k * 4)) = some (.int .i64 z.a) ∧ w'.cell? ⟨(ad.add (k * 4)).block, (ad.add (k * 4)).off + 1, none⟩ = some (.int .i64 z.b) ∧ w'.cell? ⟨(ad.add (k * 4)).block, (ad.add (k * 4)).off + 2, none⟩ = some (.int .i64 z.c) ∧ w'.cell? ⟨(ad.add (k * 4)).block, (ad.add (k * 4)).off + 3, none⟩ = some (.int .i64 z.d) ∧
          w'.cell? ⟨w.heap.size + 1, 0, none⟩ = some (.int .i64 t.a) ∧ w'.cell? ⟨w.heap.size + 1, 1, none⟩ = some (.int .i64 t.b) ∧ w'.cell? ⟨w.heap.size + 1, 2, none⟩ = some (.int .i64 t.c) ∧ w'.cell? ⟨w.heap.size + 1, 3, none⟩ = some (.int .i64 t.d) ∧ Below wr.heap.size wr w')) :=
        Lib.hid fun w' h => ⟨(h.cell hpl).trans q0, (h.cell (p := ⟨(ad.add (k * 4)).block, _, none⟩) hpl).trans q1, (h.cell (p := ⟨(ad.add (k * 4)).block, _, none⟩) hpl).trans q2, (h.cell (p := ⟨(ad.add (k * 4)).block, _, none⟩) hpl).trans q3,
          (h.cell (p := ⟨w.heap.size + 1, 0, none⟩) cl).trans c0, (h.cell (p := ⟨w.heap.size + 1, 1, none⟩) cl).trans c1, (h.cell (p := ⟨w.heap.size + 1, 2, none⟩) cl).trans c2, (h.cell (p := ⟨w.heap.size + 1, 3, none⟩) cl).trans c3, h⟩
      clear q0 q1 q2 q3 c0 c1 c2 c3 cf cl
      by_cases he : (addR t z).2 = 0
      · have HE := Lib.hid he; clear he
        go_wp2_with fail
        go_region_held3 (fun w' => w'.cell? (ad.add (k * 4)) = some (.int .i64 z.a) ∧ w'.cell? ⟨(ad.add (k * 4)).block, (ad.add (k * 4)).off + 1, none⟩ = some (.int .i64 z.b) ∧ w'.cell? ⟨(ad.add (k * 4)).block, (ad.add (k * 4)).off + 2, none⟩ = some (.int .i64 z.c) ∧ w'.cell? ⟨(ad.add (k * 4)).block, (ad.add (k * 4)).off + 3, none⟩ = some (.int .i64 z.d) ∧
          w'.cell? ⟨w.heap.size + 1, 0, none⟩ = some (.int .i64 t.a) ∧ w'.cell? ⟨w.heap.size + 1, 1, none⟩ = some (.int .i64 t.b) ∧ w'.cell? ⟨w.heap.size + 1, 2, none⟩ = some (.int .i64 t.c) ∧ w'.cell? ⟨w.heap.size + 1, 3, none⟩ = some (.int .i64 t.d) ∧ Below wr.heap.size wr w')
          (exact HS.out _ (by (repeat' (first | (with_reducible exact Below.refl _ _) | (with_reducible refine below_drewN ?_ _) | (with_reducible refine Below.drew ?_) | (with_reducible refine Below.alloc ?_ ?_ _) | (with_reducible refine Below.setCell ?_ ?_ _) | (with_reducible refine Below.trans ?_ (Below.mono (by with_reducible assumption) ?_)) | omega | (simp only [World.size_alloc, World.size_drew] at *; omega) | (with_reducible refine Below.size (B := 0) ?_)))))
          (first | (go_at_call 11; refine (radd_ok t z _ HE.out).mono ?_; rintro e w1 ⟨rfl, hb1⟩; obtain ⟨hc1, hf1⟩ := bcell hb1; have hw : Below wr.heap.size wr w1 := (by (repeat' (first | (with_reducible exact Below.refl _ _) | (with_reducible refine below_drewN ?_ _) | (with_reducible refine Below.drew ?_) | (with_reducible refine Below.alloc ?_ ?_ _) | (with_reducible refine Below.setCell ?_ ?_ _) | (with_reducible refine Below.trans ?_ (Below.mono (by with_reducible assumption) ?_)) | omega | (simp only [World.size_alloc, World.size_drew] at *; omega) | (with_reducible refine Below.size (B := 0) ?_)))); have hB1' := hB1.below hw (by omega); have hB0' := hB0.below hw (by omega); have hsw := hw.size; obtain ⟨d0, d1, d2, d3, df, dl⟩ := hB1'.facts))
        all_goals go_wp2_with fail
        all_goals go_roundw
        all_goals first
          | (refine SRel.next HR.out HZ.out HE.out hlt (by (repeat' (first | (with_reducible exact Below.refl _ _) | (with_reducible refine below_drewN ?_ _) | (with_reducible refine Below.drew ?_) | (with_reducible refine Below.alloc ?_ ?_ _) | (with_reducible refine Below.setCell ?_ ?_ _) | (with_reducible refine Below.trans ?_ (Below.mono (by with_reducible assumption) ?_)) | omega | (simp only [World.size_alloc, World.size_setCell, World.size_drew] at *; omega) | (with_reducible refine Below.size (B := 0) ?_)))) ?_ ?_
             · repeat' (first | (with_reducible exact hB0') | (with_reducible refine Vb.alloc ?_ _) | (with_reducible refine Vb.far ?_ (by first | omega | (simp; done) | (simp; omega)) _))
             · repeat' (first | (with_reducible exact hB1') | (with_reducible refine Vb.alloc ?_ _) | (with_reducible refine Vb.set4 (x := t) ?_ _ _ _ _) | (with_reducible refine Vb.far ?_ (by first | omega | (simp; done) | (simp; omega)) _)))
          | (simp [intOf]; omega)
      · have hle := add_le t z
        have hpos : 0 < (addR t z).2 := Nat.pos_of_ne_zero he
        have hne : ((((addR t z).2 : Nat) : Int) != 0) = true := by rw [bne_iff_ne]; omega
        have hfin : sumR zs = (⟨0, 0, 0, 0⟩, (addR t z).2, k) := by rw [HR.out, drop_of_get HZ.out, sumGo_err he]
        have HE := Lib.hid he; clear he
        have HF := Lib.hid hfin; clear hfin
        go_wp2_with fail
        go_region_held3 (fun w' => w'.cell? (ad.add (k * 4)) = some (.int .i64 z.a) ∧ w'.cell? ⟨(ad.add (k * 4)).block, (ad.add (k * 4)).off + 1, none⟩ = some (.int .i64 z.b) ∧ w'.cell? ⟨(ad.add (k * 4)).block, (ad.add (k * 4)).off + 2, none⟩ = some (.int .i64 z.c) ∧ w'.cell? ⟨(ad.add (k * 4)).block, (ad.add (k * 4)).off + 3, none⟩ = some (.int .i64 z.d) ∧
          w'.cell? ⟨w.heap.size + 1, 0, none⟩ = some (.int .i64 t.a) ∧ w'.cell? ⟨w.heap.size + 1, 1, none⟩ = some (.int .i64 t.b) ∧ w'.cell? ⟨w.heap.size + 1, 2, none⟩ = some (.int .i64 t.c) ∧ w'.cell? ⟨w.heap.size + 1, 3, none⟩ = some (.int .i64 t.d) ∧ Below wr.heap.size wr w')
          (exact HS.out _ (by (repeat' (first | (with_reducible exact Below.refl _ _) | (with_reducible refine below_drewN ?_ _) | (with_reducible refine Below.drew ?_) | (with_reducible refine Below.alloc ?_ ?_ _) | (with_reducible refine Below.setCell ?_ ?_ _) | (with_reducible refine Below.trans ?_ (Below.mono (by with_reducible assumption) ?_)) | omega | (simp only [World.size_alloc, World.size_drew] at *; omega) | (with_reducible refine Below.size (B := 0) ?_)))))
          (first | (go_at_call 11; refine (radd_c t z _).mono ?_; rintro e w1 ⟨rfl, hb1⟩; obtain ⟨hc1, hf1⟩ := bcell hb1; have hw : Below wr.heap.size wr w1 := (by (repeat' (first | (with_reducible exact Below.refl _ _) | (with_reducible refine below_drewN ?_ _) | (with_reducible refine Below.drew ?_) | (with_reducible refine Below.alloc ?_ ?_ _) | (with_reducible refine Below.setCell ?_ ?_ _) | (with_reducible refine Below.trans ?_ (Below.mono (by with_reducible assumption) ?_)) | omega | (simp only [World.size_alloc, World.size_drew] at *; omega) | (with_reducible refine Below.size (B := 0) ?_)))); have hB1' := hB1.below hw (by omega); have hB0' := hB0.below hw (by omega); have hsw := hw.size; obtain ⟨d0, d1, d2, d3, df, dl⟩ := hB0'.facts))
        all_goals go_wp2_with fail
        all_goals rw [HF.out]
        all_goals exact bodyPost_ret (v := .tuple #[.agg #[.int .i64 0, .int .i64 0, .int .i64 0, .int .i64 0], .int .i64 ((addR t z).2 : Nat), .int .i64 (k : Nat)]) (by simp [results, Tryd.results23, go_sem, d0, d1, d2, d3, dl]) rfl ⟨by (repeat' (first | (with_reducible exact Below.refl _ _) | (with_reducible refine below_drewN ?_ _) | (with_reducible refine Below.drew ?_) | (with_reducible refine Below.alloc ?_ ?_ _) | (with_reducible refine Below.setCell ?_ ?_ _) | (with_reducible refine Below.trans ?_ (Below.mono (by with_reducible assumption) ?_)) | omega | (simp only [World.size_alloc, World.size_setCell, World.size_drew] at *; omega) | (with_reducible refine Below.size (B := 0) ?_))), rfl⟩
    · have hke : k = zs.length := by omega
      subst hke
      obtain ⟨c0, c1, c2, c3, cf, cl⟩ := hB1.facts
      obtain ⟨r0, r1, r2, r3, rf, rl⟩ := hB0.facts
      have hfin : sumR zs = (t, 0, 0) := by rw [HR.out, List.drop_length]; rfl
      have HF := Lib.hid hfin; clear hfin
      go_wp2_with fail
      rw [HF.out]
      exact bodyPost_ret (v := .tuple #[.agg #[.int .i64 t.a, .int .i64 t.b, .int .i64 t.c, .int .i64 t.d], .int .i64 0, .int .i64 0]) (by simp [results, Tryd.results23, go_sem, r0, r1, r2, r3]) rfl ⟨by (repeat' (first | (with_reducible exact Below.refl _ _) | (with_reducible refine below_drewN ?_ _) | (with_reducible refine Below.drew ?_) | (with_reducible refine Below.alloc ?_ ?_ _) | (with_reducible refine Below.setCell ?_ ?_ _) | (with_reducible refine Below.trans ?_ (Below.mono (by with_reducible assumption) ?_)) | omega | (simp only [] at *; omega) | (with_reducible refine Below.size (B := 0) ?_))), rfl⟩
end Go.Proofs.YthhjdebpbkkpbaaDoor
