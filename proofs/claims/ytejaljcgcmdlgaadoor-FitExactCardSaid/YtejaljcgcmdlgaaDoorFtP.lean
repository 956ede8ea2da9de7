/- The program's fit, as the laws ask it, and the law's own awake. Conditions: the program's three functions keep their contracts (FitC). -/
import Derived.Test.YtejaljcgcmdlgaaDoorFtW
namespace Go.Proofs.YtejaljcgcmdlgaaDoor
open Go Go.RowKit

/-- The number of the best. -/
def idS : Option (Nat × Spt) → Int
  | none => 0
  | some (_, t) => t.id
/-- What the laws ask of the program's fit. -/
structure FitC (s : Nat → Addr) : Prop where
  best : ∀ (A : Option Addr) (c : Nat) (L : List Spt) (x : V4) (w : World), Sent s w → LiesE encSpt w (.slice A L.length c) L → L.length ≤ 1000 →
    Calls Tryd.prog 8 #[.slice A L.length c, .agg #[.int .i64 x.a, .int .i64 x.b, .int .i64 x.c, .int .i64 x.d]] w fun e w' => e = .returned (.tuple #[.int .i64 (idS (bestS x L)), .bool (bestS x L).isSome]) ∧ Below w.heap.size w w'
  all : ∀ (A : Option Addr) (c : Nat) (L : List Spt) (An : Option Addr) (cn : Nat) (needs : List V4) (w : World), Sent s w → LiesE encSpt w (.slice A L.length c) L → ReadsE encV16 w An needs → L.length ≤ 1000 → needs.length ≤ 1000 →
    Calls Tryd.prog 10 #[.slice A L.length c, .slice An needs.length cn] w fun e w' => Below w.heap.size w w' ∧ ∃ B c', e = .returned (.tuple #[.slice B (allS L needs [] 0).1.length c', .int .i64 (allS L needs [] 0).2]) ∧ OwnE encI 3 w' w.heap.size (.slice B (allS L needs [] 0).1.length c') (allS L needs [] 0).1
  rest : ∀ (A : Option Addr) (c : Nat) (L : List Spt) (An : Option Addr) (cn : Nat) (needs : List V4) (Ai : Option Addr) (ci : Nat) (ids : List Int) (w : World), Sent s w → LiesE encSpt w (.slice A L.length c) L → ReadsE encV16 w An needs → ReadsE encI w Ai ids → L.length ≤ 1000 → needs.length ≤ 1000 → ids.length ≤ 1000 →
    Calls Tryd.prog 12 #[.slice A L.length c, .slice An needs.length cn, .slice Ai ids.length ci] w fun e w' => Below w.heap.size w w' ∧ ∃ B c', e = .returned (.slice B (restS L needs ids).length c') ∧ OwnE encSpt 40 w' w.heap.size (.slice B (restS L needs ids).length c') (restS L needs ids)

/-- A literal's row. -/
theorem lies_reads {α : Type} {n : Nat} {E : EncK α n} (hn : 0 < n) {w : World} {A : Option Addr} {m c : Nat} {L : List α} (h : LiesE E w (.slice A m c) L) : ReadsE E w A L := fun i x hi => by
  obtain ⟨ad, e, h1, h2⟩ := h.at hi
  refine ⟨ad, ad.add (i * n), e, rfl, ?_, fun r u hu => ?_⟩
  · rw [block_add16]; exact h1 hn
  · rw [add_addE]; exact h2 r u hu
theorem lies_lit {α : Type} {n : Nat} (E : EncK α n) {w : World} {g : Nat} {t : TypeId} (L : List α) (h : w.heap[g]? = some (.cells (cellsE E L).toArray t (0, 0))) : LiesE E w (.slice (some ⟨g, 0, none⟩) L.length L.length) L :=
  .inr ⟨_, _, rfl, Nat.le_refl _, fun j u hu => by rw [Addr.add_lit, Nat.zero_add, cell_of_heap h, List.getElem?_toArray]; exact hu⟩
theorem reads_lit {α : Type} {n : Nat} (E : EncK α n) {w : World} {g : Nat} {t : TypeId} (L : List α) (h : w.heap[g]? = some (.cells (cellsE E L).toArray t (0, 0))) : ReadsE E w (some ⟨g, 0, none⟩) L := fun i x hi => by
  refine ⟨_, ⟨g, i * n, none⟩, rfl, by rw [Addr.add_lit, Nat.zero_add], lt_of_block h, fun r u hu => ?_⟩
  have hr : r < n := by
    have := (List.getElem?_eq_some_iff.1 hu).1
    rwa [E.len] at this
  rw [Addr.add_lit, cell_of_heap h, List.getElem?_toArray, cellsE_get E L i r hi hr]
  exact hu

set_option maxRecDepth 100000 in
set_option maxHeartbeats 3200000 in
theorem awake16_c (s : Nat → Addr) (F : FitC s) (w : World) (hs : Sent s w) : Calls Tryd.prog 6 #[] w fun e w' => e = .returned (.bool true) ∧ Below w.heap.size w w' := by
  have HF := Lib.hid F
  obtain ⟨L, hL⟩ : ∃ L : List Spt, L = [⟨1, ⟨5, 0, 0, 0⟩⟩, ⟨2, ⟨4, 0, 0, 0⟩⟩] := ⟨_, rfl⟩
  obtain ⟨N, hN⟩ : ∃ N : List V4, N = [⟨4, 0, 0, 0⟩, ⟨5, 0, 0, 0⟩, ⟨1, 0, 0, 0⟩] := ⟨_, rfl⟩
  have e1 : bestS ⟨4, 0, 0, 0⟩ L = some (1, ⟨2, ⟨4, 0, 0, 0⟩⟩) := by rw [hL]; kernel_rfl
  have e2 : bestS ⟨6, 0, 0, 0⟩ L = none := by rw [hL]; kernel_rfl
  have e3 : allS L N [] 0 = ([], 2) := by rw [hL, hN]; kernel_rfl
  obtain ⟨W1, hW1⟩ : ∃ W1, w.alloc (.cells #[.int .i64 1, .int .i64 5, .int .i64 0, .int .i64 0, .int .i64 0, .int .i64 2, .int .i64 4, .int .i64 0, .int .i64 0, .int .i64 0] 40) = W1 := ⟨_, rfl⟩
  have HR1 : Hid (LiesE encSpt W1 (.slice (some ⟨w.heap.size, 0, none⟩) L.length L.length) L) := Lib.hid (by rw [← hW1, hL]; exact lies_lit encSpt _ (heap_alloc_new w _))
  have HB1 : Hid (Below w.heap.size w W1) := Lib.hid (by rw [← hW1]; exact (Below.refl _ _).alloc (Nat.le_refl _) _)
  have HS1 : Hid (∀ W, Below W1.heap.size W1 W → Sent s W) := Lib.hid fun W hb => (hs.below HB1.out (Nat.le_refl _)).below hb (Nat.le_refl _)
  have hll : L.length = 2 := by rw [hL]; rfl
  have hln : N.length = 3 := by rw [hN]; rfl
  have HBE : Hid (∀ W x, Below W1.heap.size W1 W → Calls Tryd.prog 8 #[.slice (some ⟨w.heap.size, 0, none⟩) 2 2, .agg #[.int .i64 x.a, .int .i64 x.b, .int .i64 x.c, .int .i64 x.d]] W fun e w' => e = .returned (.tuple #[.int .i64 (idS (bestS x L)), .bool (bestS x L).isSome]) ∧ Below W.heap.size W w') := Lib.hid fun W x hb => by
    have := F.best (some ⟨w.heap.size, 0, none⟩) 2 L x W (HS1.out W hb) (by have := HR1.out.onB hb; rwa [hll] at this ⊢) (by omega)
    rwa [hll] at this
  have HBA : Hid (∀ W g, Below W1.heap.size W1 W → ReadsE encV16 W (some ⟨g, 0, none⟩) N → Calls Tryd.prog 10 #[.slice (some ⟨w.heap.size, 0, none⟩) 2 2, .slice (some ⟨g, 0, none⟩) 3 3] W fun e w' => Below W.heap.size W w' ∧ ∃ B c', e = .returned (.tuple #[.slice B 0 c', .int .i64 2])) := Lib.hid fun W g hb hr => by
    have := F.all (some ⟨w.heap.size, 0, none⟩) 2 L (some ⟨g, 0, none⟩) 3 N W (HS1.out W hb) (by have := HR1.out.onB hb; rwa [hll] at this ⊢) hr (by omega) (by omega)
    rw [hll, hln, e3] at this
    exact this.mono fun e w' ⟨h1, B, c', h2, _⟩ => ⟨h1, B, c', h2⟩
  have HN3 : Hid (N = [⟨4, 0, 0, 0⟩, ⟨5, 0, 0, 0⟩, ⟨1, 0, 0, 0⟩]) := Lib.hid hN
  have HE1 := Lib.hid e1
  have HE2 := Lib.hid e2
  have E1 := Lib.hid hW1
  clear hW1 e1 e2 e3 hL hN F hll hln hs
  go_enter Tryd.func6, Tryd.ntmps6
  go_upto_region 2 with fail
  rw [E1.out]
  go_wp2_with fail
  refine (HBE.out _ ⟨4, 0, 0, 0⟩ (Below.refl _ _)).mono ?_
  rintro e w2 ⟨rfl, b2⟩
  rw [HE1.out]
  have HB2 := Lib.hid b2
  clear b2
  rw [show idS (some (1, (⟨2, ⟨4, 0, 0, 0⟩⟩ : Spt))) = 2 from rfl]
  go_wp2_with fail
  refine (HBA.out _ _ (HB2.out.alloc HB2.out.size _) (by rw [HN3.out]; exact reads_lit encV16 _ (heap_alloc_new w2 _))).mono ?_
  rintro e w3 ⟨b3, B, c', rfl⟩
  have HB3 : Hid (Below W1.heap.size W1 w3) := Lib.hid ((HB2.out.alloc HB2.out.size _).trans (b3.mono (by have := HB2.out.size; simp only [World.size_alloc]; omega)))
  clear b3
  go_wp2_with fail
  refine (HBE.out _ ⟨6, 0, 0, 0⟩ HB3.out).mono ?_
  rintro e w4 ⟨rfl, b4⟩
  rw [HE2.out]
  have HB4 : Hid (Below w.heap.size w w4) := Lib.hid (HB1.out.trans ((HB3.out.trans (b4.mono HB3.out.size)).mono HB1.out.size))
  clear b4
  rw [show idS none = 0 from rfl]
  go_wp2_with fail
  go_ret
  exact ⟨rfl, HB4.out⟩
end Go.Proofs.YtejaljcgcmdlgaaDoor
