/- The contract of Sum of the package vec, over any slice of vectors. Condition: the sentinels lie as the text lays them. -/
import Derived.Test.YtaenpajmgenjhaaDoorVecAdd
import Derived.LoopTactic
import Derived.Lib.Hide
import Derived.Deep.AppendLies
import Derived.Laws.OwnMore
namespace Go.Proofs.YtaenpajmgenjhaaDoor
open Go Go.RowKit

/-- The sum of a list from a total on: the sum, the error's number, the place. -/
def sumGo : List V4 → V4 → Nat → V4 × Nat × Nat
  | [], t, _ => (t, 0, 0)
  | z :: r, t, i => if (addR t z).2 = 0 then sumGo r (addR t z).1 (i + 1) else (⟨0, 0, 0, 0⟩, (addR t z).2, i)
def sumR (zs : List V4) : V4 × Nat × Nat := sumGo zs ⟨0, 0, 0, 0⟩ 0

theorem block_of_add (a : Addr) (n : Nat) : (a.add n).block = a.block := by unfold Addr.add; split <;> rfl

/-- A slice value reads as a list of vectors that lie below block B. -/
def VRow (w : World) (B : Nat) (A : Option Addr) (zs : List V4) : Prop :=
  0 < zs.length → ∃ ad, A = some ad ∧ ad.block < B ∧ ∀ i z, zs[i]? = some z →
    w.cell? (ad.add (i * 4)) = some (.int .i64 z.a) ∧ w.cell? ⟨(ad.add (i * 4)).block, (ad.add (i * 4)).off + 1, none⟩ = some (.int .i64 z.b) ∧ w.cell? ⟨(ad.add (i * 4)).block, (ad.add (i * 4)).off + 2, none⟩ = some (.int .i64 z.c) ∧ w.cell? ⟨(ad.add (i * 4)).block, (ad.add (i * 4)).off + 3, none⟩ = some (.int .i64 z.d)
theorem VRow.below {w w' : World} {B : Nat} {A : Option Addr} {zs : List V4} (h : VRow w B A zs) (hb : Below B w w') : VRow w' B A zs := fun hn => by
  obtain ⟨ad, e, hl, hc⟩ := h hn
  refine ⟨ad, e, hl, fun i z hz => ?_⟩
  obtain ⟨h0, h1, h2, h3⟩ := hc i z hz
  have hp : (ad.add (i * 4)).block < B := by rw [block_of_add]; exact hl
  exact ⟨(hb.cell hp).trans h0, (hb.cell (p := ⟨(ad.add (i * 4)).block, _, none⟩) hp).trans h1, (hb.cell (p := ⟨(ad.add (i * 4)).block, _, none⟩) hp).trans h2, (hb.cell (p := ⟨(ad.add (i * 4)).block, _, none⟩) hp).trans h3⟩

/-- A block that is one vector. -/
def Vb (w : World) (g : Nat) (x : V4) : Prop := w.heap[g]? = some (.cells #[.int .i64 x.a, .int .i64 x.b, .int .i64 x.c, .int .i64 x.d] 28 (0, 0))
theorem Vb.facts {w : World} {g : Nat} {x : V4} (h : Vb w g x) : w.cell? ⟨g, 0, none⟩ = some (.int .i64 x.a) ∧ w.cell? ⟨g, 1, none⟩ = some (.int .i64 x.b) ∧ w.cell? ⟨g, 2, none⟩ = some (.int .i64 x.c) ∧ w.cell? ⟨g, 3, none⟩ = some (.int .i64 x.d) ∧
    (∀ i, w.frozen? ⟨g, i, none⟩ = false) ∧ g < w.heap.size := by
  have hl := lt_of_row h
  unfold Vb at h
  refine ⟨?_, ?_, ?_, ?_, fun i => ?_, hl⟩ <;> simp [World.cell?, World.frozen?, h]
theorem Vb.below {w w' : World} {g B : Nat} {x : V4} (h : Vb w g x) (hb : Below B w w') (hg : g < B) : Vb w' g x := (hb.block g hg).trans h
theorem Vb.new (w : World) (x : V4) : Vb (w.alloc (.cells #[.int .i64 x.a, .int .i64 x.b, .int .i64 x.c, .int .i64 x.d] 28)) w.heap.size x := by
  exact heap_alloc_new w _

theorem Vb.new_at {w : World} {g : Nat} (hg : g = w.heap.size) (x : V4) : Vb (w.alloc (.cells #[.int .i64 x.a, .int .i64 x.b, .int .i64 x.c, .int .i64 x.d] 28)) g x := by
  subst hg; exact Vb.new w x
theorem Vb.alloc {w : World} {g : Nat} {x : V4} (h : Vb w g x) (o : Obj) : Vb (w.alloc o) g x := (Below.heap_alloc w o g (lt_of_row h)).trans h
theorem Vb.set4 {w : World} {g : Nat} {x : V4} (h : Vb w g x) (a b c d : Int) :
    Vb ((((w.setCell ⟨g, 0, none⟩ (.int .i64 a)).setCell ⟨g, 1, none⟩ (.int .i64 b)).setCell ⟨g, 2, none⟩ (.int .i64 c)).setCell ⟨g, 3, none⟩ (.int .i64 d)) g ⟨a, b, c, d⟩ := by
  unfold Vb at h ⊢
  simp [World.setCell, Array.getElem?_modify, h]
theorem Vb.far {w : World} {g : Nat} {x : V4} (h : Vb w g x) {p : Addr} (hp : g ≠ p.block) (u : Value) : Vb (w.setCell p u) g x := (Below.heap_setCell w p u g hp).trans h

theorem add_ok (s : Nat → Addr) (x y : V4) (w : World) (hs : Sent s w) (h : (addR x y).2 = 0) :
    Calls Tryd.prog 46 #[.agg #[.int .i64 x.a, .int .i64 x.b, .int .i64 x.c, .int .i64 x.d], .agg #[.int .i64 y.a, .int .i64 y.b, .int .i64 y.c, .int .i64 y.d]] w fun e w' => e = .returned (.tuple #[.agg #[.int .i64 ((addR x y).1).a, .int .i64 ((addR x y).1).b, .int .i64 ((addR x y).1).c, .int .i64 ((addR x y).1).d], .nilIface]) ∧ Below w.heap.size w w' := by
  have := add_c s x y w hs
  rw [show errV s (addR x y).2 = .nilIface from if_pos h] at this
  exact this
theorem add_err (s : Nat → Addr) (x y : V4) (w : World) (hs : Sent s w) (h : (addR x y).2 ≠ 0) :
    Calls Tryd.prog 46 #[.agg #[.int .i64 x.a, .int .i64 x.b, .int .i64 x.c, .int .i64 x.d], .agg #[.int .i64 y.a, .int .i64 y.b, .int .i64 y.c, .int .i64 y.d]] w fun e w' => e = .returned (.tuple #[.agg #[.int .i64 ((addR x y).1).a, .int .i64 ((addR x y).1).b, .int .i64 ((addR x y).1).c, .int .i64 ((addR x y).1).d], .iface 102 (.pointer (some (s ((addR x y).2 - 1))))]) ∧ Below w.heap.size w w' := by
  have := add_c s x y w hs
  rw [show errV s (addR x y).2 = _ from if_neg h] at this
  exact this
theorem drop_of_get {zs : List V4} {k : Nat} {z : V4} (h : zs[k]? = some z) : zs.drop k = z :: zs.drop (k + 1) := by
  obtain ⟨hk, rfl⟩ := List.getElem?_eq_some_iff.1 h
  exact List.drop_eq_getElem_cons hk
theorem sumGo_ok {z t : V4} {r : List V4} {i : Nat} (h : (addR t z).2 = 0) : sumGo (z :: r) t i = sumGo r (addR t z).1 (i + 1) := if_pos h
theorem sumGo_err {z t : V4} {r : List V4} {i : Nat} (h : (addR t z).2 ≠ 0) : sumGo (z :: r) t i = (⟨0, 0, 0, 0⟩, (addR t z).2, i) := if_neg h

/-- How Sum ends: the sum and no error, or nothing and a Fault that names the place. -/
def SumPost (s : Nat → Addr) (R : V4 × Nat × Nat) (w : World) (e : Ending) (w' : World) : Prop :=
  Below w.heap.size w w' ∧
  ((R.2.1 = 0 ∧ e = .returned (.tuple #[.agg #[.int .i64 (R.1).a, .int .i64 (R.1).b, .int .i64 (R.1).c, .int .i64 (R.1).d], .nilIface])) ∨
   (0 < R.2.1 ∧ R.2.1 ≤ 14 ∧ R.1 = ⟨0, 0, 0, 0⟩ ∧ ∃ b, e = .returned (.tuple #[.agg #[.int .i64 0, .int .i64 0, .int .i64 0, .int .i64 0], .iface 97 (.pointer (some ⟨b, 0, none⟩))]) ∧ w.heap.size ≤ b ∧
     w'.cell? ⟨b, 0, none⟩ = some (.string ⟨#[115, 117, 109]⟩) ∧ w'.cell? ⟨b, 1, none⟩ = some (.int .i64 (R.2.2 : Nat)) ∧ w'.cell? ⟨b, 2, none⟩ = some (.iface 102 (.pointer (some (s (R.2.1 - 1)))))))

/-- What a round of Sum begins with. -/
def SRel (w : World) (zs : List V4) (i : Value) (wr : World) : Prop :=
  ∃ (k : Nat) (t : V4), k ≤ zs.length ∧ i = .int .i64 k ∧ sumR zs = sumGo (zs.drop k) t k ∧ Below w.heap.size w wr ∧ w.heap.size + 2 ≤ wr.heap.size ∧
    Vb wr w.heap.size ⟨0, 0, 0, 0⟩ ∧ Vb wr (w.heap.size + 1) t

set_option maxRecDepth 100000 in
set_option maxHeartbeats 800000 in
theorem sum_any (s : Nat → Addr) (A : Option Addr) (c : Nat) (zs : List V4) (w : World) (hs : Sent s w) (hr : VRow w w.heap.size A zs) (hl : zs.length ≤ 9223372036854775807) :
    Calls Tryd.prog 41 #[.slice A zs.length c] w (SumPost s (sumR zs) w) := by
  go_enter Tryd.func41, Tryd.ntmps41
  go_wp2_with fail
  go_loopw [11] (fun i wr => SRel w zs i wr) (fun i _ => zs.length - (intOf i).toNat)
  case atStart => exact ⟨0, ⟨0, 0, 0, 0⟩, Nat.zero_le _, rfl, rfl, by (repeat' (first | (with_reducible exact Below.refl _ _) | (with_reducible refine below_drewN ?_ _) | (with_reducible refine Below.drew ?_) | (with_reducible refine Below.alloc ?_ ?_ _) | (with_reducible refine Below.setCell ?_ ?_ _) | (with_reducible refine Below.trans ?_ (Below.mono (by with_reducible assumption) ?_)) | omega | (simp only [World.size_alloc] at *; omega) | (with_reducible refine Below.size (B := 0) ?_))), by simp, (Vb.new w ⟨0, 0, 0, 0⟩).below (B := w.heap.size + 1) ((Below.refl _ _).alloc (by simp) _) (by omega), Vb.new_at (by simp) ⟨0, 0, 0, 0⟩⟩
  case round =>
    obtain ⟨k, t, hk, rfl, hR, hb, hz, hB0, hB1⟩ := hrel
    have HR := Lib.hid hR; clear hR
    by_cases hlt : k < zs.length
    · obtain ⟨ad, rfl, had, hcells⟩ := (hr.below hb) (by omega)
      have hzk := List.getElem?_eq_getElem hlt
      generalize zs[k] = z at hzk
      obtain ⟨q0, q1, q2, q3⟩ := hcells k _ hzk
      clear hcells
      have HZ := Lib.hid hzk; clear hzk
      have hpl : (ad.add (k * 4)).block < w.heap.size := by rw [block_of_add]; exact had
      obtain ⟨c0, c1, c2, c3, cf, cl⟩ := hB1.facts
      obtain ⟨r0, r1, r2, r3, rf, rl⟩ := hB0.facts
      by_cases he : (addR t z).2 = 0
      · have HE := Lib.hid he; clear he
        go_wp2_with fail
        refine (add_ok s t z _ (hs.below (B := w.heap.size) (by (repeat' (first | (with_reducible exact Below.refl _ _) | (with_reducible refine below_drewN ?_ _) | (with_reducible refine Below.drew ?_) | (with_reducible refine Below.alloc ?_ ?_ _) | (with_reducible refine Below.setCell ?_ ?_ _) | (with_reducible refine Below.trans ?_ (Below.mono (by with_reducible assumption) ?_)) | omega | (simp only [World.size_alloc, World.size_setCell, World.size_drew, Go.Proofs.YtaenpajmgenjhaaDoor.World.size_drewN] at *; omega) | (with_reducible refine Below.size (B := 0) ?_)))) (Nat.le_refl _)) HE.out).mono ?_
        rintro e w1 ⟨rfl, hb1⟩
        clear q0 q1 q2 q3 c0 c1 c2 c3 cf cl r0 r1 r2 r3 rf rl
        have hb0 : Below wr.heap.size wr w1 := by (repeat' (first | (with_reducible exact Below.refl _ _) | (with_reducible refine below_drewN ?_ _) | (with_reducible refine Below.drew ?_) | (with_reducible refine Below.alloc ?_ ?_ _) | (with_reducible refine Below.setCell ?_ ?_ _) | (with_reducible refine Below.trans ?_ (Below.mono (by with_reducible assumption) ?_)) | omega | (simp only [World.size_alloc] at *; omega) | (with_reducible refine Below.size (B := 0) ?_)))
        have hB1' : Vb w1 (w.heap.size + 1) t := hB1.below hb0 (by omega)
        have hB0' : Vb w1 w.heap.size ⟨0, 0, 0, 0⟩ := hB0.below hb0 (by omega)
        have hs1 := hb0.size
        obtain ⟨c0, c1, c2, c3, cf, cl⟩ := hB1'.facts
        go_wp2_with fail
        go_roundw
        case rel =>
          refine ⟨k + 1, (addR t z).1, by omega, by go_num, ?_, by (repeat' (first | (with_reducible exact Below.refl _ _) | (with_reducible refine below_drewN ?_ _) | (with_reducible refine Below.drew ?_) | (with_reducible refine Below.alloc ?_ ?_ _) | (with_reducible refine Below.setCell ?_ ?_ _) | (with_reducible refine Below.trans ?_ (Below.mono (by with_reducible assumption) ?_)) | omega | (simp only [World.size_alloc, World.size_setCell] at *; omega) | (with_reducible refine Below.size (B := 0) ?_))), ?_, ?_, ?_⟩
          · rw [HR.out, drop_of_get HZ.out, sumGo_ok HE.out]
          · simp only [World.size_setCell, World.size_alloc]; omega
          · exact ((((hB0'.far (by simp) _).far (by simp) _).far (by simp) _).far (by simp) _).alloc _
          · exact (hB1'.set4 _ _ _ _).alloc _
        case measure => simp [intOf]; omega
      · have HE := Lib.hid he; clear he
        have hle := add_le t z
        go_wp2_with fail
        refine (add_err s t z _ (hs.below (B := w.heap.size) (by (repeat' (first | (with_reducible exact Below.refl _ _) | (with_reducible refine below_drewN ?_ _) | (with_reducible refine Below.drew ?_) | (with_reducible refine Below.alloc ?_ ?_ _) | (with_reducible refine Below.setCell ?_ ?_ _) | (with_reducible refine Below.trans ?_ (Below.mono (by with_reducible assumption) ?_)) | omega | (simp only [World.size_alloc, World.size_setCell, World.size_drew, Go.Proofs.YtaenpajmgenjhaaDoor.World.size_drewN] at *; omega) | (with_reducible refine Below.size (B := 0) ?_)))) (Nat.le_refl _)) HE.out).mono ?_
        rintro e w1 ⟨rfl, hb1⟩
        clear q0 q1 q2 q3 c0 c1 c2 c3 cf cl r0 r1 r2 r3 rf rl
        have hb0 : Below wr.heap.size wr w1 := by (repeat' (first | (with_reducible exact Below.refl _ _) | (with_reducible refine below_drewN ?_ _) | (with_reducible refine Below.drew ?_) | (with_reducible refine Below.alloc ?_ ?_ _) | (with_reducible refine Below.setCell ?_ ?_ _) | (with_reducible refine Below.trans ?_ (Below.mono (by with_reducible assumption) ?_)) | omega | (simp only [World.size_alloc] at *; omega) | (with_reducible refine Below.size (B := 0) ?_)))
        have hB0' : Vb w1 w.heap.size ⟨0, 0, 0, 0⟩ := hB0.below hb0 (by omega)
        have hs1 := hb0.size
        obtain ⟨r0, r1, r2, r3, rf, rl⟩ := hB0'.facts
        go_wp2_with fail
        have hfin : sumR zs = (⟨0, 0, 0, 0⟩, (addR t z).2, k) := by rw [HR.out, drop_of_get HZ.out, sumGo_err HE.out]
        have hpos : 0 < (addR t z).2 := Nat.pos_of_ne_zero HE.out
        rw [hfin]
        have rl' : w.heap.size < w1.heap.size + 1 := by omega
        exact bodyPost_ret (v := .tuple #[.agg #[.int .i64 0, .int .i64 0, .int .i64 0, .int .i64 0], .iface 97 (.pointer (some ⟨w1.heap.size + 1, 0, none⟩))]) (by simp [results, Tryd.results41, go_sem, r0, r1, r2, r3, rl, rl']) rfl
          ⟨by (repeat' (first | (with_reducible exact Below.refl _ _) | (with_reducible refine below_drewN ?_ _) | (with_reducible refine Below.drew ?_) | (with_reducible refine Below.alloc ?_ ?_ _) | (with_reducible refine Below.setCell ?_ ?_ _) | (with_reducible refine Below.trans ?_ (Below.mono (by with_reducible assumption) ?_)) | omega | (simp only [World.size_alloc, World.size_setCell] at *; omega) | (with_reducible refine Below.size (B := 0) ?_))), .inr ⟨hpos, hle, rfl, _, rfl, by omega, by rw [World.cell?_alloc_at _ _ _ _ (by simp)]; rfl, by rw [World.cell?_alloc_at _ _ _ _ (by simp)]; rfl, by rw [World.cell?_alloc_at _ _ _ _ (by simp)]; rfl⟩⟩
    · have hke : k = zs.length := by omega
      subst hke
      obtain ⟨c0, c1, c2, c3, cf, cl⟩ := hB1.facts
      obtain ⟨r0, r1, r2, r3, rf, rl⟩ := hB0.facts
      have hfin : sumR zs = (t, 0, 0) := by rw [HR.out, List.drop_length]; rfl
      have HF := Lib.hid hfin; clear hfin
      go_wp2_with fail
      exact bodyPost_ret (v := .tuple #[.agg #[.int .i64 t.a, .int .i64 t.b, .int .i64 t.c, .int .i64 t.d], .nilIface]) (by simp [results, Tryd.results41, go_sem, r0, r1, r2, r3]) rfl ⟨by (repeat' (first | (with_reducible exact Below.refl _ _) | (with_reducible refine below_drewN ?_ _) | (with_reducible refine Below.drew ?_) | (with_reducible refine Below.alloc ?_ ?_ _) | (with_reducible refine Below.setCell ?_ ?_ _) | (with_reducible refine Below.trans ?_ (Below.mono (by with_reducible assumption) ?_)) | omega | (with_reducible refine Below.size (B := 0) ?_))), .inl (by rw [HF.out]; exact ⟨rfl, rfl⟩)⟩
end Go.Proofs.YtaenpajmgenjhaaDoor
