/- The contracts of grant's methods that change a book: what is given, taken, charged, held, moved, passed. Conditions: the book lies in memory as its map has it; the sentinels lie where the program's text lays them. -/
import Derived.Test.YtpgioihmaodlcaaDoorGrF
namespace Go.Proofs.YtpgioihmaodlcaaDoor
open Go Go.RowKit Go.Maps Go.Sort

/-- What is wrong with an amount. -/
theorem check_c (s : Nat → Addr) (q : Nat) (v : V4) (w : World) (hs : Sent s w) :
    Calls Tryd.prog 27 #[.pointer (some ⟨q, 0, none⟩), .agg #[.int .i64 v.a, .int .i64 v.b, .int .i64 v.c, .int .i64 v.d]] w fun e w' => e = .returned (errV s (if goodV v = true then 0 else 1)) ∧ Below w.heap.size w w' := by
  have HS := Lib.hid hs
  have hg := good_c v
  have HG := Lib.hid hg
  clear hs hg
  cases h : goodV v
  · rw [if_neg (by decide)]
    rw [h] at HG
    go_enter Tryd.func27, Tryd.ntmps27
    go_wp2_with fail
    refine (HG.out _).mono ?_
    rintro e w1 ⟨rfl, hb1⟩
    have hb : Below w.heap.size w w1 := by (repeat' (first | (with_reducible exact Below.refl _ _) | (with_reducible refine below_drewN ?_ _) | (with_reducible refine Below.drew ?_) | (with_reducible refine Below.alloc ?_ ?_ _) | (with_reducible refine Below.setCell ?_ ?_ _) | (with_reducible refine Below.trans ?_ (Below.mono (by with_reducible assumption) ?_)) | omega | (simp only [World.size_alloc] at *; omega) | (with_reducible refine Below.size (B := 0) ?_)))
    have e0 := (HS.out.below hb (Nat.le_refl _)).cell 0 (by omega)
    simp only [gnum, List.getD_cons_zero] at e0
    clear hb1
    go_wp2_with fail
    go_ret
    exact ⟨rfl, hb⟩
  · rw [if_pos rfl]
    rw [h] at HG
    go_enter Tryd.func27, Tryd.ntmps27
    go_wp2_with fail
    refine (HG.out _).mono ?_
    rintro e w1 ⟨rfl, hb1⟩
    have hb : Below w.heap.size w w1 := by (repeat' (first | (with_reducible exact Below.refl _ _) | (with_reducible refine below_drewN ?_ _) | (with_reducible refine Below.drew ?_) | (with_reducible refine Below.alloc ?_ ?_ _) | (with_reducible refine Below.setCell ?_ ?_ _) | (with_reducible refine Below.trans ?_ (Below.mono (by with_reducible assumption) ?_)) | omega | (simp only [World.size_alloc] at *; omega) | (with_reducible refine Below.size (B := 0) ?_)))
    clear hb1
    go_wp2_with fail
    go_ret
    exact ⟨rfl, hb⟩

/-- Between the operations that look an account up and compare it. -/
structure LkS (w0 : World) (X q b : Nat) (T : Grs) (k v : V4) (W : World) : Prop where
  book : BookAt W q b T
  key : KyB W X k
  vec : Vb W (X + 1) v
  below : Below w0.heap.size w0 W
theorem LkS.drew {w0 : World} {X q b : Nat} {T : Grs} {k v : V4} {W : World} (h : LkS w0 X q b T k v W) : LkS w0 X q b T k v W.drew := ⟨h.book.on (Below.drew (Below.refl _ _)) (Nat.le_refl _), h.key, h.vec, h.below.drew⟩
theorem LkS.on {w0 : World} {X q b : Nat} {T : Grs} {k v : V4} {W W' : World} (h : LkS w0 X q b T k v W) (hb : Below W.heap.size W W') : LkS w0 X q b T k v W' := ⟨h.book.grow hb, h.key.on hb, h.vec.below hb (lt_of_row h.vec), h.below.trans (hb.mono h.below.size)⟩
theorem LkS.lk {w0 : World} {X q b : Nat} {T : Grs} {k v : V4} {W : World} (h : LkS w0 X q b T k v W) (hk : okV k) {x : Acc} (hx : acc T k = x) :
    (Instr.lookup 52 (.map (some b)) (.agg #[.int .i64 k.a, .int .i64 k.b, .int .i64 k.c, .int .i64 k.d]) false).run Tryd.prog W = .ok (.agg #[.int .i64 x.f.a, .int .i64 x.f.b, .int .i64 x.f.c, .int .i64 x.f.d, .int .i64 x.c.a, .int .i64 x.c.b, .int .i64 x.c.c, .int .i64 x.c.d, .int .i64 x.h.a, .int .i64 x.h.b, .int .i64 x.h.c, .int .i64 x.h.d]) W := by
  have := run_lookG kitV Tryd.underlying52 (z := zA) (Tryd.zeroA W) h.book.map hk
  rw [show (look T k).getD zA = acc T k from rfl, hx] at this
  exact this
theorem LkS.made (w : World) {q b : Nat} {T : Grs} (k v : V4) (h : BookAt w q b T) : LkS w w.heap.size q b T k v ((w.alloc (.cells #[.int .i64 k.a, .int .i64 k.b, .int .i64 k.c, .int .i64 k.d] 31)).alloc (.cells #[.int .i64 v.a, .int .i64 v.b, .int .i64 v.c, .int .i64 v.d] 29)) := by
  have hb : Below w.heap.size w ((w.alloc (.cells #[.int .i64 k.a, .int .i64 k.b, .int .i64 k.c, .int .i64 k.d] 31)).alloc (.cells #[.int .i64 v.a, .int .i64 v.b, .int .i64 v.c, .int .i64 v.d] 29)) := by (repeat' (first | (with_reducible exact Below.refl _ _) | (with_reducible refine below_drewN ?_ _) | (with_reducible refine Below.drew ?_) | (with_reducible refine Below.alloc ?_ ?_ _) | (with_reducible refine Below.setCell ?_ ?_ _) | (with_reducible refine Below.trans ?_ (Below.mono (by with_reducible assumption) ?_)) | omega | (simp only [World.size_alloc] at *; omega) | (with_reducible refine Below.size (B := 0) ?_)))
  exact ⟨h.grow hb, (KyB.new w k).alloc _, Vb.new_at (by simp) v, hb⟩

/-- Between the operations that end in a change of an account. -/
structure CgS (q b X : Nat) (k v : V4) (W : World) : Prop where
  box : W.heap[q]? = some (.cells #[.map (some b)] 54 (0, 0))
  key : KyB W X k
  vec : Vb W (X + 1) v
  nq : q ≠ b
  nb : b < X
theorem CgS.drew {q b X : Nat} {k v : V4} {W : World} (h : CgS q b X k v W) : CgS q b X k v W.drew := ⟨h.box, h.key, h.vec, h.nq, h.nb⟩
theorem CgS.chg {q b X : Nat} {k v : V4} {W W' : World} (h : CgS q b X k v W) (hc : Chg b b W W') : CgS q b X k v W' :=
  ⟨hc.row h.box h.nq h.nq, h.key.chg hc (by have := h.nb; omega) (by have := h.nb; omega), hc.row h.vec (by have := h.nb; omega) (by have := h.nb; omega), h.nq, h.nb⟩
theorem LkS.cg {w0 : World} {X q b : Nat} {T : Grs} {k v : V4} {W : World} (h : LkS w0 X q b T k v W) (hb : b < X) : CgS q b X k v W := ⟨h.book.box, h.key, h.vec, h.book.ne, hb⟩
theorem errV_one (s : Nat → Addr) : errV s 1 = .iface 122 (.pointer (some (s 0))) := rfl
theorem errV_some (s : Nat → Addr) {m : Nat} (h : m ≠ 0) : errV s m = .iface 122 (.pointer (some (s (m - 1)))) := if_neg h

set_option maxRecDepth 100000 in
set_option maxHeartbeats 1600000 in
/-- What is wrong with an amount as part of what is free. -/
theorem checkFree_c (s : Nat → Addr) (q b : Nat) (T : Grs) (k v : V4) (w : World) (hs : Sent s w) (h : BookAt w q b T) (hk : okV k) :
    Calls Tryd.prog 30 #[.pointer (some ⟨q, 0, none⟩), .agg #[.int .i64 k.a, .int .i64 k.b, .int .i64 k.c, .int .i64 k.d], .agg #[.int .i64 v.a, .int .i64 v.b, .int .i64 v.c, .int .i64 v.d]] w fun e w' => e = .returned (errV s (takeErr T k v)) ∧ Below w.heap.size w w' := by
  have H := Lib.hid h; have HS := Lib.hid hs; have HK := Lib.hid hk
  have HL := Lib.hid (LkS.made w k v h)
  have HCK := Lib.hid (fun (W : World) (hW : Below w.heap.size w W) => check_c s q v W (hs.below hW (Nat.le_refl _)))
  obtain ⟨x, hx⟩ : ∃ x, acc T k = x := ⟨_, rfl⟩
  have HX2 := Lib.hid hx
  have HFT : Hid (∀ W, LkS w w.heap.size q b T k v W → Calls Tryd.prog 32 #[.agg #[.int .i64 v.a, .int .i64 v.b, .int .i64 v.c, .int .i64 v.d], .agg #[.int .i64 (x.f).a, .int .i64 (x.f).b, .int .i64 (x.f).c, .int .i64 (x.f).d]] W fun e w' => e = .returned (.bool (fitsV v x.f)) ∧ LkS w w.heap.size q b T k v w') := Lib.hid fun W hW => (fits_c v x.f W).mono fun _ _ p => ⟨p.1, hW.on p.2⟩
  by_cases hg : goodV v = true
  · have HT : Hid (takeErr T k v = if fitsV v x.f = true then 0 else 8) := Lib.hid (by unfold takeErr; rw [if_pos hg, hx])
    rw [if_pos hg] at HCK
    clear h hs hk hx hg
    cases hf : fitsV v x.f
    · rw [hf] at HFT
      have HT2 : Hid (takeErr T k v = 8) := Lib.hid (by rw [HT.out, hf]; rfl)
      rw [HT2.out]
      clear HT hf
      go_enter Tryd.func30, Tryd.ntmps30
      go_wp2_with fail
      have HB1 := Lib.hid HL.out.below
      refine (HCK.out _ HB1.out).mono ?_
      rintro e w1 ⟨rfl, hb1⟩
      rw [errV_zero]
      have hl1 := HL.out.on (hb1.mono (Nat.le_refl _))
      obtain ⟨X, hX⟩ : ∃ X, w.heap.size = X := ⟨_, rfl⟩
      rw [hX] at hl1 HFT ⊢
      have HX := Lib.hid hX
      have HL1 := Lib.hid hl1
      obtain ⟨c0, c1, c2, c3⟩ := hl1.key.cells
      obtain ⟨v0, v1, v2, v3⟩ := vb_cells hl1.vec
      clear hb1 hl1 hX HL HB1
      go_wp2_with fail
      clear c0 c1 c2 c3 v0 v1 v2 v3
      refine wp_region_held_drew (S := fun W => LkS w X q b T k v W) (by kernel_rfl) ?_ (fun hHeld => ?_)
      · exact HL1.out.drew
      refine rg_take 0 (some 14) _ (by kernel_rfl) (by kernel_rfl) (by kernel_rfl) (fun _ _ _ h => h) (by kernel_rfl) (by kernel_rfl) (by intro w' hSw op_ ho; have c0 := cell_of_heap hSw.book.box 0; obtain ⟨k0, k1, k2, k3⟩ := hSw.key.cells; obtain ⟨v0, v1, v2, v3⟩ := vb_cells hSw.vec; have hlk := hSw.lk HK.out HX2.out; have hf0 := field0A; have hf1 := field1A; have hf2 := field2A; clear hSw; simp only [List.getElem?_toArray, List.getElem?_cons_zero, Option.some.injEq] at ho; subst ho; go_simp; with_reducible rfl) (by assumption) ?_
      try simp only [Act.put, List.setIfInBounds_toArray, List.set_cons_zero, List.set_cons_succ]
      refine rg_take 1 (some 15) _ (by kernel_rfl) (by kernel_rfl) (by kernel_rfl) (fun _ _ _ h => h) (by kernel_rfl) (by kernel_rfl) (by intro w' hSw op_ ho; have c0 := cell_of_heap hSw.book.box 0; obtain ⟨k0, k1, k2, k3⟩ := hSw.key.cells; obtain ⟨v0, v1, v2, v3⟩ := vb_cells hSw.vec; have hlk := hSw.lk HK.out HX2.out; have hf0 := field0A; have hf1 := field1A; have hf2 := field2A; clear hSw; simp only [List.getElem?_toArray, List.getElem?_cons_succ, List.getElem?_cons_zero, Option.some.injEq] at ho; subst ho; go_simp; with_reducible rfl) (by assumption) ?_
      try simp only [Act.put, List.setIfInBounds_toArray, List.set_cons_zero, List.set_cons_succ]
      refine rg_take 2 (some 16) _ (by kernel_rfl) (by kernel_rfl) (by kernel_rfl) (fun _ _ _ h => h) (by kernel_rfl) (by kernel_rfl) (by intro w' hSw op_ ho; have c0 := cell_of_heap hSw.book.box 0; obtain ⟨k0, k1, k2, k3⟩ := hSw.key.cells; obtain ⟨v0, v1, v2, v3⟩ := vb_cells hSw.vec; have hlk := hSw.lk HK.out HX2.out; have hf0 := field0A; have hf1 := field1A; have hf2 := field2A; clear hSw; simp only [List.getElem?_toArray, List.getElem?_cons_succ, List.getElem?_cons_zero, Option.some.injEq] at ho; subst ho; go_simp; with_reducible rfl) (by assumption) ?_
      try simp only [Act.put, List.setIfInBounds_toArray, List.set_cons_zero, List.set_cons_succ]
      refine rg_take 3 (some 17) _ (by kernel_rfl) (by kernel_rfl) (by kernel_rfl) (fun _ _ _ h => h) (by kernel_rfl) (by kernel_rfl) (by intro w' hSw op_ ho; have c0 := cell_of_heap hSw.book.box 0; obtain ⟨k0, k1, k2, k3⟩ := hSw.key.cells; obtain ⟨v0, v1, v2, v3⟩ := vb_cells hSw.vec; have hlk := hSw.lk HK.out HX2.out; have hf0 := field0A; have hf1 := field1A; have hf2 := field2A; clear hSw; simp only [List.getElem?_toArray, List.getElem?_cons_succ, List.getElem?_cons_zero, Option.some.injEq] at ho; subst ho; go_simp; with_reducible rfl) (by assumption) ?_
      try simp only [Act.put, List.setIfInBounds_toArray, List.set_cons_zero, List.set_cons_succ]
      refine rg_take 4 (some 18) _ (by kernel_rfl) (by kernel_rfl) (by kernel_rfl) (fun _ _ _ h => h) (by kernel_rfl) (by kernel_rfl) (by intro w' hSw op_ ho; have c0 := cell_of_heap hSw.book.box 0; obtain ⟨k0, k1, k2, k3⟩ := hSw.key.cells; obtain ⟨v0, v1, v2, v3⟩ := vb_cells hSw.vec; have hlk := hSw.lk HK.out HX2.out; have hf0 := field0A; have hf1 := field1A; have hf2 := field2A; clear hSw; simp only [List.getElem?_toArray, List.getElem?_cons_succ, List.getElem?_cons_zero, Option.some.injEq] at ho; subst ho; go_simp; with_reducible rfl) (by assumption) ?_
      try simp only [Act.put, List.setIfInBounds_toArray, List.set_cons_zero, List.set_cons_succ]
      refine rg_take 5 (some 19) _ (by kernel_rfl) (by kernel_rfl) (by kernel_rfl) (fun _ _ _ h => h) (by kernel_rfl) (by kernel_rfl) (by intro w' hSw op_ ho; have c0 := cell_of_heap hSw.book.box 0; obtain ⟨k0, k1, k2, k3⟩ := hSw.key.cells; obtain ⟨v0, v1, v2, v3⟩ := vb_cells hSw.vec; have hlk := hSw.lk HK.out HX2.out; have hf0 := field0A; have hf1 := field1A; have hf2 := field2A; clear hSw; simp only [List.getElem?_toArray, List.getElem?_cons_succ, List.getElem?_cons_zero, Option.some.injEq] at ho; subst ho; go_simp; with_reducible rfl) (by assumption) ?_
      try simp only [Act.put, List.setIfInBounds_toArray, List.set_cons_zero, List.set_cons_succ]
      refine rg_take 6 (some 20) _ (by kernel_rfl) (by kernel_rfl) (by kernel_rfl) (fun _ _ _ h => h) (by kernel_rfl) (by kernel_rfl) (by intro w' hSw op_ ho; have c0 := cell_of_heap hSw.book.box 0; obtain ⟨k0, k1, k2, k3⟩ := hSw.key.cells; obtain ⟨v0, v1, v2, v3⟩ := vb_cells hSw.vec; have hlk := hSw.lk HK.out HX2.out; have hf0 := field0A; have hf1 := field1A; have hf2 := field2A; clear hSw; simp only [List.getElem?_toArray, List.getElem?_cons_succ, List.getElem?_cons_zero, Option.some.injEq] at ho; subst ho; go_simp; with_reducible rfl) (by assumption) ?_
      try simp only [Act.put, List.setIfInBounds_toArray, List.set_cons_zero, List.set_cons_succ]
      refine rg_take 7 (some 21) _ (by kernel_rfl) (by kernel_rfl) (by kernel_rfl) (fun _ _ _ h => h) (by kernel_rfl) (by kernel_rfl) (by intro w' hSw op_ ho; have c0 := cell_of_heap hSw.book.box 0; obtain ⟨k0, k1, k2, k3⟩ := hSw.key.cells; obtain ⟨v0, v1, v2, v3⟩ := vb_cells hSw.vec; have hlk := hSw.lk HK.out HX2.out; have hf0 := field0A; have hf1 := field1A; have hf2 := field2A; clear hSw; simp only [List.getElem?_toArray, List.getElem?_cons_succ, List.getElem?_cons_zero, Option.some.injEq] at ho; subst ho; go_simp; with_reducible rfl) (by assumption) ?_
      try simp only [Act.put, List.setIfInBounds_toArray, List.set_cons_zero, List.set_cons_succ]
      refine rg_one 8 (by kernel_rfl) (by kernel_rfl) (fun op_ ho K hK => ?_)
      simp only [List.getElem?_toArray, List.getElem?_cons_succ, List.getElem?_cons_zero, Option.some.injEq] at ho
      subst ho
      go_simp
      go_at_call 32
      refine (HFT.out _ (by assumption)).mono ?_
      rintro e wz ⟨rfl, rz⟩
      go_wp2_with fail
      refine hK.out _ _ (by assumption) (fun hHeld => ?_)
      clear hK
      try simp only [Act.put, List.setIfInBounds_toArray, List.set_cons_zero, List.set_cons_succ]
      refine rg_take 9 (some 23) _ (by kernel_rfl) (by kernel_rfl) (by kernel_rfl) (fun _ _ _ h => h) (by kernel_rfl) (by kernel_rfl) (by intro w' hSw op_ ho; have c0 := cell_of_heap hSw.book.box 0; obtain ⟨k0, k1, k2, k3⟩ := hSw.key.cells; obtain ⟨v0, v1, v2, v3⟩ := vb_cells hSw.vec; have hlk := hSw.lk HK.out HX2.out; have hf0 := field0A; have hf1 := field1A; have hf2 := field2A; clear hSw; simp only [List.getElem?_toArray, List.getElem?_cons_succ, List.getElem?_cons_zero, Option.some.injEq] at ho; subst ho; go_simp; with_reducible rfl) (by assumption) ?_
      try simp only [Act.put, List.setIfInBounds_toArray, List.set_cons_zero, List.set_cons_succ]
      refine wpAnyH_done (by kernel_rfl) ?_ _
      have HHE := Lib.hid hHeld
      clear hHeld
      have HB : Hid (Below w.heap.size w wz) := Lib.hid HHE.out.below
      have e7 := (HS.out.below HB.out (Nat.le_refl _)).cell 7 (by omega)
      simp only [gnum, List.getD_cons_zero, List.getD_cons_succ] at e7
      go_wp2_with fail
      go_ret
      exact ⟨rfl, HB.out⟩
    · rw [hf] at HFT
      have HT2 : Hid (takeErr T k v = 0) := Lib.hid (by rw [HT.out, hf]; rfl)
      rw [HT2.out]
      clear HT hf
      go_enter Tryd.func30, Tryd.ntmps30
      go_wp2_with fail
      have HB1 := Lib.hid HL.out.below
      refine (HCK.out _ HB1.out).mono ?_
      rintro e w1 ⟨rfl, hb1⟩
      rw [errV_zero]
      have hl1 := HL.out.on (hb1.mono (Nat.le_refl _))
      obtain ⟨X, hX⟩ : ∃ X, w.heap.size = X := ⟨_, rfl⟩
      rw [hX] at hl1 HFT ⊢
      have HX := Lib.hid hX
      have HL1 := Lib.hid hl1
      obtain ⟨c0, c1, c2, c3⟩ := hl1.key.cells
      obtain ⟨v0, v1, v2, v3⟩ := vb_cells hl1.vec
      clear hb1 hl1 hX HL HB1
      go_wp2_with fail
      clear c0 c1 c2 c3 v0 v1 v2 v3
      refine wp_region_held_drew (S := fun W => LkS w X q b T k v W) (by kernel_rfl) ?_ (fun hHeld => ?_)
      · exact HL1.out.drew
      refine rg_take 0 (some 14) _ (by kernel_rfl) (by kernel_rfl) (by kernel_rfl) (fun _ _ _ h => h) (by kernel_rfl) (by kernel_rfl) (by intro w' hSw op_ ho; have c0 := cell_of_heap hSw.book.box 0; obtain ⟨k0, k1, k2, k3⟩ := hSw.key.cells; obtain ⟨v0, v1, v2, v3⟩ := vb_cells hSw.vec; have hlk := hSw.lk HK.out HX2.out; have hf0 := field0A; have hf1 := field1A; have hf2 := field2A; clear hSw; simp only [List.getElem?_toArray, List.getElem?_cons_zero, Option.some.injEq] at ho; subst ho; go_simp; with_reducible rfl) (by assumption) ?_
      try simp only [Act.put, List.setIfInBounds_toArray, List.set_cons_zero, List.set_cons_succ]
      refine rg_take 1 (some 15) _ (by kernel_rfl) (by kernel_rfl) (by kernel_rfl) (fun _ _ _ h => h) (by kernel_rfl) (by kernel_rfl) (by intro w' hSw op_ ho; have c0 := cell_of_heap hSw.book.box 0; obtain ⟨k0, k1, k2, k3⟩ := hSw.key.cells; obtain ⟨v0, v1, v2, v3⟩ := vb_cells hSw.vec; have hlk := hSw.lk HK.out HX2.out; have hf0 := field0A; have hf1 := field1A; have hf2 := field2A; clear hSw; simp only [List.getElem?_toArray, List.getElem?_cons_succ, List.getElem?_cons_zero, Option.some.injEq] at ho; subst ho; go_simp; with_reducible rfl) (by assumption) ?_
      try simp only [Act.put, List.setIfInBounds_toArray, List.set_cons_zero, List.set_cons_succ]
      refine rg_take 2 (some 16) _ (by kernel_rfl) (by kernel_rfl) (by kernel_rfl) (fun _ _ _ h => h) (by kernel_rfl) (by kernel_rfl) (by intro w' hSw op_ ho; have c0 := cell_of_heap hSw.book.box 0; obtain ⟨k0, k1, k2, k3⟩ := hSw.key.cells; obtain ⟨v0, v1, v2, v3⟩ := vb_cells hSw.vec; have hlk := hSw.lk HK.out HX2.out; have hf0 := field0A; have hf1 := field1A; have hf2 := field2A; clear hSw; simp only [List.getElem?_toArray, List.getElem?_cons_succ, List.getElem?_cons_zero, Option.some.injEq] at ho; subst ho; go_simp; with_reducible rfl) (by assumption) ?_
      try simp only [Act.put, List.setIfInBounds_toArray, List.set_cons_zero, List.set_cons_succ]
      refine rg_take 3 (some 17) _ (by kernel_rfl) (by kernel_rfl) (by kernel_rfl) (fun _ _ _ h => h) (by kernel_rfl) (by kernel_rfl) (by intro w' hSw op_ ho; have c0 := cell_of_heap hSw.book.box 0; obtain ⟨k0, k1, k2, k3⟩ := hSw.key.cells; obtain ⟨v0, v1, v2, v3⟩ := vb_cells hSw.vec; have hlk := hSw.lk HK.out HX2.out; have hf0 := field0A; have hf1 := field1A; have hf2 := field2A; clear hSw; simp only [List.getElem?_toArray, List.getElem?_cons_succ, List.getElem?_cons_zero, Option.some.injEq] at ho; subst ho; go_simp; with_reducible rfl) (by assumption) ?_
      try simp only [Act.put, List.setIfInBounds_toArray, List.set_cons_zero, List.set_cons_succ]
      refine rg_take 4 (some 18) _ (by kernel_rfl) (by kernel_rfl) (by kernel_rfl) (fun _ _ _ h => h) (by kernel_rfl) (by kernel_rfl) (by intro w' hSw op_ ho; have c0 := cell_of_heap hSw.book.box 0; obtain ⟨k0, k1, k2, k3⟩ := hSw.key.cells; obtain ⟨v0, v1, v2, v3⟩ := vb_cells hSw.vec; have hlk := hSw.lk HK.out HX2.out; have hf0 := field0A; have hf1 := field1A; have hf2 := field2A; clear hSw; simp only [List.getElem?_toArray, List.getElem?_cons_succ, List.getElem?_cons_zero, Option.some.injEq] at ho; subst ho; go_simp; with_reducible rfl) (by assumption) ?_
      try simp only [Act.put, List.setIfInBounds_toArray, List.set_cons_zero, List.set_cons_succ]
      refine rg_take 5 (some 19) _ (by kernel_rfl) (by kernel_rfl) (by kernel_rfl) (fun _ _ _ h => h) (by kernel_rfl) (by kernel_rfl) (by intro w' hSw op_ ho; have c0 := cell_of_heap hSw.book.box 0; obtain ⟨k0, k1, k2, k3⟩ := hSw.key.cells; obtain ⟨v0, v1, v2, v3⟩ := vb_cells hSw.vec; have hlk := hSw.lk HK.out HX2.out; have hf0 := field0A; have hf1 := field1A; have hf2 := field2A; clear hSw; simp only [List.getElem?_toArray, List.getElem?_cons_succ, List.getElem?_cons_zero, Option.some.injEq] at ho; subst ho; go_simp; with_reducible rfl) (by assumption) ?_
      try simp only [Act.put, List.setIfInBounds_toArray, List.set_cons_zero, List.set_cons_succ]
      refine rg_take 6 (some 20) _ (by kernel_rfl) (by kernel_rfl) (by kernel_rfl) (fun _ _ _ h => h) (by kernel_rfl) (by kernel_rfl) (by intro w' hSw op_ ho; have c0 := cell_of_heap hSw.book.box 0; obtain ⟨k0, k1, k2, k3⟩ := hSw.key.cells; obtain ⟨v0, v1, v2, v3⟩ := vb_cells hSw.vec; have hlk := hSw.lk HK.out HX2.out; have hf0 := field0A; have hf1 := field1A; have hf2 := field2A; clear hSw; simp only [List.getElem?_toArray, List.getElem?_cons_succ, List.getElem?_cons_zero, Option.some.injEq] at ho; subst ho; go_simp; with_reducible rfl) (by assumption) ?_
      try simp only [Act.put, List.setIfInBounds_toArray, List.set_cons_zero, List.set_cons_succ]
      refine rg_take 7 (some 21) _ (by kernel_rfl) (by kernel_rfl) (by kernel_rfl) (fun _ _ _ h => h) (by kernel_rfl) (by kernel_rfl) (by intro w' hSw op_ ho; have c0 := cell_of_heap hSw.book.box 0; obtain ⟨k0, k1, k2, k3⟩ := hSw.key.cells; obtain ⟨v0, v1, v2, v3⟩ := vb_cells hSw.vec; have hlk := hSw.lk HK.out HX2.out; have hf0 := field0A; have hf1 := field1A; have hf2 := field2A; clear hSw; simp only [List.getElem?_toArray, List.getElem?_cons_succ, List.getElem?_cons_zero, Option.some.injEq] at ho; subst ho; go_simp; with_reducible rfl) (by assumption) ?_
      try simp only [Act.put, List.setIfInBounds_toArray, List.set_cons_zero, List.set_cons_succ]
      refine rg_one 8 (by kernel_rfl) (by kernel_rfl) (fun op_ ho K hK => ?_)
      simp only [List.getElem?_toArray, List.getElem?_cons_succ, List.getElem?_cons_zero, Option.some.injEq] at ho
      subst ho
      go_simp
      go_at_call 32
      refine (HFT.out _ (by assumption)).mono ?_
      rintro e wz ⟨rfl, rz⟩
      go_wp2_with fail
      refine hK.out _ _ (by assumption) (fun hHeld => ?_)
      clear hK
      try simp only [Act.put, List.setIfInBounds_toArray, List.set_cons_zero, List.set_cons_succ]
      refine rg_take 9 (some 23) _ (by kernel_rfl) (by kernel_rfl) (by kernel_rfl) (fun _ _ _ h => h) (by kernel_rfl) (by kernel_rfl) (by intro w' hSw op_ ho; have c0 := cell_of_heap hSw.book.box 0; obtain ⟨k0, k1, k2, k3⟩ := hSw.key.cells; obtain ⟨v0, v1, v2, v3⟩ := vb_cells hSw.vec; have hlk := hSw.lk HK.out HX2.out; have hf0 := field0A; have hf1 := field1A; have hf2 := field2A; clear hSw; simp only [List.getElem?_toArray, List.getElem?_cons_succ, List.getElem?_cons_zero, Option.some.injEq] at ho; subst ho; go_simp; with_reducible rfl) (by assumption) ?_
      try simp only [Act.put, List.setIfInBounds_toArray, List.set_cons_zero, List.set_cons_succ]
      refine wpAnyH_done (by kernel_rfl) ?_ _
      have HHE := Lib.hid hHeld
      clear hHeld
      have HB : Hid (Below w.heap.size w wz) := Lib.hid HHE.out.below
      go_wp2_with fail
      go_ret
      exact ⟨rfl, HB.out⟩
  · have HT : Hid (takeErr T k v = 1) := Lib.hid (by unfold takeErr; rw [if_neg hg])
    rw [if_neg hg, errV_one] at HCK
    rw [HT.out]
    clear h hs hk hx hg HFT
    go_enter Tryd.func30, Tryd.ntmps30
    go_wp2_with fail
    have HB1 := Lib.hid HL.out.below
    refine (HCK.out _ HB1.out).mono ?_
    rintro e w1 ⟨rfl, hb1⟩
    have HB : Hid (Below w.heap.size w w1) := Lib.hid (HB1.out.trans (hb1.mono HB1.out.size))
    clear hb1
    go_wp2_with fail
    go_ret
    exact ⟨rfl, HB.out⟩
/-- Block b is none of the sentinels' nor of their variables'. -/
def NotSent (s : Nat → Addr) (b : Nat) : Prop := ∀ i, i < 14 → b ≠ gnum i ∧ b ≠ (s i).block
theorem sent_chg {s : Nat → Addr} {w w' : World} {b : Nat} (h : Sent s w) (hc : Chg b b w w') (hb : NotSent s b) : Sent s w' where
  cell := fun i hi => by
    have h1 := h.cell i hi
    have h2 := hc.block (gnum i) (lt_of_cell h1) (fun e => (hb i hi).1 e.symm) (fun e => (hb i hi).1 e.symm)
    unfold World.cell? at h1 ⊢
    simp only at h1 ⊢
    rw [h2]; exact h1
  row := fun i hi => by
    obtain ⟨cs, t, hr⟩ := h.row i hi
    exact ⟨cs, t, (hc.block _ (lt_of_row hr) (fun e => (hb i hi).2 e.symm) (fun e => (hb i hi).2 e.symm)).trans hr⟩
  inj := h.inj
theorem goodZ : goodV z4 = true := by decide
theorem fitsZ {x : V4} (h : goodV x = true) : fitsV z4 x = true := fits_comp.2 fun r => by rw [comp_z4]; exact (good_comp.1 h r).1
/-- An account can change so if the book stays solid. -/
theorem canA {T : Grs} {k : V4} {l m : Acc} (h : Solid T) (hS : Solid (chT T k l m)) (l1 : goodV l.f = true) (l2 : goodV l.c = true) (l3 : goodV l.h = true) (m1 : goodV m.f = true) (m2 : goodV m.c = true) (m3 : goodV m.h = true)
    (f1 : fitsV l.f (acc T k).f = true) (f2 : fitsV l.c (acc T k).c = true) (f3 : fitsV l.h (acc T k).h = true) : CanA (acc T k) l m := by
  have e : acc (chT T k l m) k = chA (acc T k) l m := by rw [acc_chT, if_pos rfl]
  have g1 := hS.goodF k; have g2 := hS.goodC k; have g3 := hS.goodH k
  rw [e] at g1 g2 g3
  exact ⟨⟨h.goodF k, l1, m1, f1, g1⟩, ⟨h.goodC k, l2, m2, f2, g2⟩, ⟨h.goodH k, l3, m3, f3, g3⟩⟩
set_option maxRecDepth 100000 in
set_option maxHeartbeats 3200000 in
/-- Book.Take. -/
theorem take_c (s : Nat → Addr) (q b : Nat) (T : Grs) (k : V4) (v : V4) (w : World) (hs : Sent s w) (hsb : NotSent s b) (h : BookAt w q b T) (hk : okV k) (hn : T.length + 1 < 1000000) :
    Calls Tryd.prog 20 #[.pointer (some ⟨q, 0, none⟩), .agg #[.int .i64 k.a, .int .i64 k.b, .int .i64 k.c, .int .i64 k.d], .agg #[.int .i64 v.a, .int .i64 v.b, .int .i64 v.c, .int .i64 v.d]] w fun e w' => e = .returned (errV s (takeErr T k v)) ∧ BookAt w' q b (taken T k v) ∧ Chg b b w w' := by
  have H := Lib.hid h; have HS := Lib.hid hs; have HSB := Lib.hid hsb
  have HL := Lib.hid (LkS.made w k v h)
  have HCK := Lib.hid (fun (W : World) (hW : Below w.heap.size w W) => checkFree_c s q b T k v W (hs.below hW (Nat.le_refl _)) (h.grow hW) hk)
  obtain ⟨m, hm⟩ : ∃ m, takeErr T k v = m := ⟨_, rfl⟩
  rw [hm] at HCK ⊢
  by_cases h0 : m = 0
  · subst h0
    obtain ⟨hg, hf⟩ := takeErr_zero hm
    have hS := h.solid.ch2 hg hf
    have hT : taken T k v = chT T k (fA v) zA := by unfold taken; rw [hm]; rfl
    rw [hT]
    have HSO := Lib.hid hS
    have hcan : CanA (acc T k) (fA v) zA := canA h.solid hS hg goodZ goodZ goodZ goodZ goodZ hf (fitsZ (h.solid.goodC k)) (fitsZ (h.solid.goodH k))
    have HCH : Hid (∀ W, Sent s W → GrsAt W b T → Calls Tryd.prog 29 #[.map (some b), .agg #[.int .i64 k.a, .int .i64 k.b, .int .i64 k.c, .int .i64 k.d], .agg #[.int .i64 v.a, .int .i64 v.b, .int .i64 v.c, .int .i64 v.d, .int .i64 0, .int .i64 0, .int .i64 0, .int .i64 0, .int .i64 0, .int .i64 0, .int .i64 0, .int .i64 0], .agg #[.int .i64 0, .int .i64 0, .int .i64 0, .int .i64 0, .int .i64 0, .int .i64 0, .int .i64 0, .int .i64 0, .int .i64 0, .int .i64 0, .int .i64 0, .int .i64 0]] W fun e w' => e = .returned (.tuple #[]) ∧ GrsAt w' b (chT T k (fA v) zA) ∧ Chg b b W w') := Lib.hid fun W hW hM => change_c s b T k (fA v) zA W hW hM hk (by omega) hcan
    rw [errV_zero] at HCK ⊢
    clear h hs hsb hk hm hg hf hT hS hcan hn
    go_enter Tryd.func20, Tryd.ntmps20
    go_wp2_with fail
    have HB1 := Lib.hid HL.out.below
    refine (HCK.out _ HB1.out).mono ?_
    rintro e w1 ⟨rfl, hb1⟩
    have hl1 := HL.out.on (hb1.mono (Nat.le_refl _))
    obtain ⟨X, hX⟩ : ∃ X, w.heap.size = X := ⟨_, rfl⟩
    have HBX : Hid (b < X) := Lib.hid (by rw [← hX]; exact H.out.map.lt)
    rw [hX] at hl1 ⊢
    have HX := Lib.hid hX
    have HL1 := Lib.hid hl1
    obtain ⟨c0, c1, c2, c3⟩ := hl1.key.cells
    obtain ⟨v0, v1, v2, v3⟩ := vb_cells hl1.vec
    have HSD : Hid (Sent s w1.drew) := Lib.hid (HS.out.below (HL1.out.below.drew) (Nat.le_refl _))
    have HMD : Hid (GrsAt w1.drew b T) := Lib.hid (HL1.out.book.map.on (Below.drew (Below.refl _ _)) (Nat.le_refl _))
    have HKD : Hid (Chg b b w w1.drew) := Lib.hid (Chg.of_below HL1.out.below).drew
    have HBD : Hid (BookAt w1.drew q b T) := Lib.hid (HL1.out.book.on (Below.drew (Below.refl _ _)) (Nat.le_refl _))
    clear hb1 hl1 hX HL HB1
    go_wp2_with fail
    clear c0 c1 c2 c3 v0 v1 v2 v3
    refine wp_region_held_drew (S := fun W => CgS q b X k v W) (by kernel_rfl) ?_ (fun hHeld => ?_)
    · exact (HL1.out.cg HBX.out).drew
    refine rg_take 0 (some 15) _ (by kernel_rfl) (by kernel_rfl) (by kernel_rfl) (fun _ _ _ h => h) (by kernel_rfl) (by kernel_rfl) (by intro w' hSw op_ ho; have c0 := cell_of_heap hSw.box 0; obtain ⟨k0, k1, k2, k3⟩ := hSw.key.cells; obtain ⟨v0, v1, v2, v3⟩ := vb_cells hSw.vec; clear hSw; simp only [List.getElem?_toArray, List.getElem?_cons_zero, Option.some.injEq] at ho; subst ho; go_simp; with_reducible rfl) (by assumption) ?_
    try simp only [Act.put, List.setIfInBounds_toArray, List.set_cons_zero, List.set_cons_succ]
    refine rg_take 1 (some 16) _ (by kernel_rfl) (by kernel_rfl) (by kernel_rfl) (fun _ _ _ h => h) (by kernel_rfl) (by kernel_rfl) (by intro w' hSw op_ ho; have c0 := cell_of_heap hSw.box 0; obtain ⟨k0, k1, k2, k3⟩ := hSw.key.cells; obtain ⟨v0, v1, v2, v3⟩ := vb_cells hSw.vec; clear hSw; simp only [List.getElem?_toArray, List.getElem?_cons_succ, List.getElem?_cons_zero, Option.some.injEq] at ho; subst ho; go_simp; with_reducible rfl) (by assumption) ?_
    try simp only [Act.put, List.setIfInBounds_toArray, List.set_cons_zero, List.set_cons_succ]
    refine rg_take 2 (some 17) _ (by kernel_rfl) (by kernel_rfl) (by kernel_rfl) (fun _ _ _ h => h) (by kernel_rfl) (by kernel_rfl) (by intro w' hSw op_ ho; have c0 := cell_of_heap hSw.box 0; obtain ⟨k0, k1, k2, k3⟩ := hSw.key.cells; obtain ⟨v0, v1, v2, v3⟩ := vb_cells hSw.vec; clear hSw; simp only [List.getElem?_toArray, List.getElem?_cons_succ, List.getElem?_cons_zero, Option.some.injEq] at ho; subst ho; go_simp; with_reducible rfl) (by assumption) ?_
    try simp only [Act.put, List.setIfInBounds_toArray, List.set_cons_zero, List.set_cons_succ]
    refine rg_take 3 (some 18) _ (by kernel_rfl) (by kernel_rfl) (by kernel_rfl) (fun _ _ _ h => h) (by kernel_rfl) (by kernel_rfl) (by intro w' hSw op_ ho; have c0 := cell_of_heap hSw.box 0; obtain ⟨k0, k1, k2, k3⟩ := hSw.key.cells; obtain ⟨v0, v1, v2, v3⟩ := vb_cells hSw.vec; clear hSw; simp only [List.getElem?_toArray, List.getElem?_cons_succ, List.getElem?_cons_zero, Option.some.injEq] at ho; subst ho; go_simp; with_reducible rfl) (by assumption) ?_
    try simp only [Act.put, List.setIfInBounds_toArray, List.set_cons_zero, List.set_cons_succ]
    refine rg_take 4 (some 19) _ (by kernel_rfl) (by kernel_rfl) (by kernel_rfl) (fun _ _ _ h => h) (by kernel_rfl) (by kernel_rfl) (by intro w' hSw op_ ho; have c0 := cell_of_heap hSw.box 0; obtain ⟨k0, k1, k2, k3⟩ := hSw.key.cells; obtain ⟨v0, v1, v2, v3⟩ := vb_cells hSw.vec; clear hSw; simp only [List.getElem?_toArray, List.getElem?_cons_succ, List.getElem?_cons_zero, Option.some.injEq] at ho; subst ho; go_simp; with_reducible rfl) (by assumption) ?_
    try simp only [Act.put, List.setIfInBounds_toArray, List.set_cons_zero, List.set_cons_succ]
    refine rg_take 5 (some 20) _ (by kernel_rfl) (by kernel_rfl) (by kernel_rfl) (fun _ _ _ h => h) (by kernel_rfl) (by kernel_rfl) (by intro w' hSw op_ ho; have c0 := cell_of_heap hSw.box 0; obtain ⟨k0, k1, k2, k3⟩ := hSw.key.cells; obtain ⟨v0, v1, v2, v3⟩ := vb_cells hSw.vec; clear hSw; simp only [List.getElem?_toArray, List.getElem?_cons_succ, List.getElem?_cons_zero, Option.some.injEq] at ho; subst ho; go_simp; with_reducible rfl) (by assumption) ?_
    try simp only [Act.put, List.setIfInBounds_toArray, List.set_cons_zero, List.set_cons_succ]
    refine rg_take 6 (some 21) _ (by kernel_rfl) (by kernel_rfl) (by kernel_rfl) (fun _ _ _ h => h) (by kernel_rfl) (by kernel_rfl) (by intro w' hSw op_ ho; have c0 := cell_of_heap hSw.box 0; obtain ⟨k0, k1, k2, k3⟩ := hSw.key.cells; obtain ⟨v0, v1, v2, v3⟩ := vb_cells hSw.vec; clear hSw; simp only [List.getElem?_toArray, List.getElem?_cons_succ, List.getElem?_cons_zero, Option.some.injEq] at ho; subst ho; go_simp; with_reducible rfl) (by assumption) ?_
    try simp only [Act.put, List.setIfInBounds_toArray, List.set_cons_zero, List.set_cons_succ]
    refine rg_take 7 (some 22) _ (by kernel_rfl) (by kernel_rfl) (by kernel_rfl) (fun _ _ _ h => h) (by kernel_rfl) (by kernel_rfl) (by intro w' hSw op_ ho; have c0 := cell_of_heap hSw.box 0; obtain ⟨k0, k1, k2, k3⟩ := hSw.key.cells; obtain ⟨v0, v1, v2, v3⟩ := vb_cells hSw.vec; clear hSw; simp only [List.getElem?_toArray, List.getElem?_cons_succ, List.getElem?_cons_zero, Option.some.injEq] at ho; subst ho; go_simp; with_reducible rfl) (by assumption) ?_
    try simp only [Act.put, List.setIfInBounds_toArray, List.set_cons_zero, List.set_cons_succ]
    refine rg_one 8 (by kernel_rfl) (by kernel_rfl) (fun op_ ho K hK => ?_)
    simp only [List.getElem?_toArray, List.getElem?_cons_succ, List.getElem?_cons_zero, Option.some.injEq] at ho
    subst ho
    go_simp
    go_at_call 29
    refine (HCH.out _ HSD.out HMD.out).mono ?_
    rintro e w2 ⟨rfl, mm, kk⟩
    have HM2 := Lib.hid mm
    have HK2 := Lib.hid kk
    clear mm kk
    go_wp2_with fail
    refine hK.out _ _ (CgS.chg hHeld HK2.out) (fun hHeld => ?_)
    clear hK
    try simp only [Act.put, List.setIfInBounds_toArray, List.set_cons_zero, List.set_cons_succ]
    refine wpAnyH_done (by kernel_rfl) ?_ _
    have HHEw2 := Lib.hid hHeld
    clear hHeld
    go_wp2_with fail
    go_ret
    exact ⟨rfl, HBD.out.step HK2.out HM2.out HSO.out, HKD.out.trans HK2.out (.inl rfl)⟩
  · have HT : Hid (taken T k v = T) := Lib.hid (by unfold taken; rw [hm, if_neg h0])
    have he := errV_some s h0
    rw [he] at HCK ⊢
    rw [HT.out]
    clear h hs hsb hk hm h0 he hn
    go_enter Tryd.func20, Tryd.ntmps20
    go_wp2_with fail
    have HB1 := Lib.hid HL.out.below
    refine (HCK.out _ HB1.out).mono ?_
    rintro e w1 ⟨rfl, hb1⟩
    have HB : Hid (Below w.heap.size w w1) := Lib.hid (HB1.out.trans (hb1.mono HB1.out.size))
    clear hb1
    go_wp2_with fail
    go_ret
    exact ⟨rfl, H.out.grow HB.out, Chg.of_below HB.out⟩
set_option maxRecDepth 100000 in
set_option maxHeartbeats 3200000 in
/-- Book.Charge. -/
theorem charge_c (s : Nat → Addr) (q b : Nat) (T : Grs) (k : V4) (v : V4) (w : World) (hs : Sent s w) (hsb : NotSent s b) (h : BookAt w q b T) (hk : okV k) (hn : T.length + 1 < 1000000) :
    Calls Tryd.prog 14 #[.pointer (some ⟨q, 0, none⟩), .agg #[.int .i64 k.a, .int .i64 k.b, .int .i64 k.c, .int .i64 k.d], .agg #[.int .i64 v.a, .int .i64 v.b, .int .i64 v.c, .int .i64 v.d]] w fun e w' => e = .returned (errV s (takeErr T k v)) ∧ BookAt w' q b (charged T k v) ∧ Chg b b w w' := by
  have H := Lib.hid h; have HS := Lib.hid hs; have HSB := Lib.hid hsb
  have HL := Lib.hid (LkS.made w k v h)
  have HCK := Lib.hid (fun (W : World) (hW : Below w.heap.size w W) => checkFree_c s q b T k v W (hs.below hW (Nat.le_refl _)) (h.grow hW) hk)
  obtain ⟨m, hm⟩ : ∃ m, takeErr T k v = m := ⟨_, rfl⟩
  rw [hm] at HCK ⊢
  by_cases h0 : m = 0
  · subst h0
    obtain ⟨hg, hf⟩ := takeErr_zero hm
    have hS := h.solid.ch3 hg hf
    have hT : charged T k v = chT T k (fA v) (cA v) := by unfold charged; rw [hm]; rfl
    rw [hT]
    have HSO := Lib.hid hS
    have hcan : CanA (acc T k) (fA v) (cA v) := canA h.solid hS hg goodZ goodZ goodZ hg goodZ hf (fitsZ (h.solid.goodC k)) (fitsZ (h.solid.goodH k))
    have HCH : Hid (∀ W, Sent s W → GrsAt W b T → Calls Tryd.prog 29 #[.map (some b), .agg #[.int .i64 k.a, .int .i64 k.b, .int .i64 k.c, .int .i64 k.d], .agg #[.int .i64 v.a, .int .i64 v.b, .int .i64 v.c, .int .i64 v.d, .int .i64 0, .int .i64 0, .int .i64 0, .int .i64 0, .int .i64 0, .int .i64 0, .int .i64 0, .int .i64 0], .agg #[.int .i64 0, .int .i64 0, .int .i64 0, .int .i64 0, .int .i64 v.a, .int .i64 v.b, .int .i64 v.c, .int .i64 v.d, .int .i64 0, .int .i64 0, .int .i64 0, .int .i64 0]] W fun e w' => e = .returned (.tuple #[]) ∧ GrsAt w' b (chT T k (fA v) (cA v)) ∧ Chg b b W w') := Lib.hid fun W hW hM => change_c s b T k (fA v) (cA v) W hW hM hk (by omega) hcan
    rw [errV_zero] at HCK ⊢
    clear h hs hsb hk hm hg hf hT hS hcan hn
    go_enter Tryd.func14, Tryd.ntmps14
    go_wp2_with fail
    have HB1 := Lib.hid HL.out.below
    refine (HCK.out _ HB1.out).mono ?_
    rintro e w1 ⟨rfl, hb1⟩
    have hl1 := HL.out.on (hb1.mono (Nat.le_refl _))
    obtain ⟨X, hX⟩ : ∃ X, w.heap.size = X := ⟨_, rfl⟩
    have HBX : Hid (b < X) := Lib.hid (by rw [← hX]; exact H.out.map.lt)
    rw [hX] at hl1 ⊢
    have HX := Lib.hid hX
    have HL1 := Lib.hid hl1
    obtain ⟨c0, c1, c2, c3⟩ := hl1.key.cells
    obtain ⟨v0, v1, v2, v3⟩ := vb_cells hl1.vec
    have HSD : Hid (Sent s w1.drew) := Lib.hid (HS.out.below (HL1.out.below.drew) (Nat.le_refl _))
    have HMD : Hid (GrsAt w1.drew b T) := Lib.hid (HL1.out.book.map.on (Below.drew (Below.refl _ _)) (Nat.le_refl _))
    have HKD : Hid (Chg b b w w1.drew) := Lib.hid (Chg.of_below HL1.out.below).drew
    have HBD : Hid (BookAt w1.drew q b T) := Lib.hid (HL1.out.book.on (Below.drew (Below.refl _ _)) (Nat.le_refl _))
    clear hb1 hl1 hX HL HB1
    go_wp2_with fail
    clear c0 c1 c2 c3 v0 v1 v2 v3
    refine wp_region_held_drew (S := fun W => CgS q b X k v W) (by kernel_rfl) ?_ (fun hHeld => ?_)
    · exact (HL1.out.cg HBX.out).drew
    refine rg_take 0 (some 15) _ (by kernel_rfl) (by kernel_rfl) (by kernel_rfl) (fun _ _ _ h => h) (by kernel_rfl) (by kernel_rfl) (by intro w' hSw op_ ho; have c0 := cell_of_heap hSw.box 0; obtain ⟨k0, k1, k2, k3⟩ := hSw.key.cells; obtain ⟨v0, v1, v2, v3⟩ := vb_cells hSw.vec; clear hSw; simp only [List.getElem?_toArray, List.getElem?_cons_zero, Option.some.injEq] at ho; subst ho; go_simp; with_reducible rfl) (by assumption) ?_
    try simp only [Act.put, List.setIfInBounds_toArray, List.set_cons_zero, List.set_cons_succ]
    refine rg_take 1 (some 16) _ (by kernel_rfl) (by kernel_rfl) (by kernel_rfl) (fun _ _ _ h => h) (by kernel_rfl) (by kernel_rfl) (by intro w' hSw op_ ho; have c0 := cell_of_heap hSw.box 0; obtain ⟨k0, k1, k2, k3⟩ := hSw.key.cells; obtain ⟨v0, v1, v2, v3⟩ := vb_cells hSw.vec; clear hSw; simp only [List.getElem?_toArray, List.getElem?_cons_succ, List.getElem?_cons_zero, Option.some.injEq] at ho; subst ho; go_simp; with_reducible rfl) (by assumption) ?_
    try simp only [Act.put, List.setIfInBounds_toArray, List.set_cons_zero, List.set_cons_succ]
    refine rg_take 2 (some 17) _ (by kernel_rfl) (by kernel_rfl) (by kernel_rfl) (fun _ _ _ h => h) (by kernel_rfl) (by kernel_rfl) (by intro w' hSw op_ ho; have c0 := cell_of_heap hSw.box 0; obtain ⟨k0, k1, k2, k3⟩ := hSw.key.cells; obtain ⟨v0, v1, v2, v3⟩ := vb_cells hSw.vec; clear hSw; simp only [List.getElem?_toArray, List.getElem?_cons_succ, List.getElem?_cons_zero, Option.some.injEq] at ho; subst ho; go_simp; with_reducible rfl) (by assumption) ?_
    try simp only [Act.put, List.setIfInBounds_toArray, List.set_cons_zero, List.set_cons_succ]
    refine rg_take 3 (some 18) _ (by kernel_rfl) (by kernel_rfl) (by kernel_rfl) (fun _ _ _ h => h) (by kernel_rfl) (by kernel_rfl) (by intro w' hSw op_ ho; have c0 := cell_of_heap hSw.box 0; obtain ⟨k0, k1, k2, k3⟩ := hSw.key.cells; obtain ⟨v0, v1, v2, v3⟩ := vb_cells hSw.vec; clear hSw; simp only [List.getElem?_toArray, List.getElem?_cons_succ, List.getElem?_cons_zero, Option.some.injEq] at ho; subst ho; go_simp; with_reducible rfl) (by assumption) ?_
    try simp only [Act.put, List.setIfInBounds_toArray, List.set_cons_zero, List.set_cons_succ]
    refine rg_take 4 (some 19) _ (by kernel_rfl) (by kernel_rfl) (by kernel_rfl) (fun _ _ _ h => h) (by kernel_rfl) (by kernel_rfl) (by intro w' hSw op_ ho; have c0 := cell_of_heap hSw.box 0; obtain ⟨k0, k1, k2, k3⟩ := hSw.key.cells; obtain ⟨v0, v1, v2, v3⟩ := vb_cells hSw.vec; clear hSw; simp only [List.getElem?_toArray, List.getElem?_cons_succ, List.getElem?_cons_zero, Option.some.injEq] at ho; subst ho; go_simp; with_reducible rfl) (by assumption) ?_
    try simp only [Act.put, List.setIfInBounds_toArray, List.set_cons_zero, List.set_cons_succ]
    refine rg_take 5 (some 20) _ (by kernel_rfl) (by kernel_rfl) (by kernel_rfl) (fun _ _ _ h => h) (by kernel_rfl) (by kernel_rfl) (by intro w' hSw op_ ho; have c0 := cell_of_heap hSw.box 0; obtain ⟨k0, k1, k2, k3⟩ := hSw.key.cells; obtain ⟨v0, v1, v2, v3⟩ := vb_cells hSw.vec; clear hSw; simp only [List.getElem?_toArray, List.getElem?_cons_succ, List.getElem?_cons_zero, Option.some.injEq] at ho; subst ho; go_simp; with_reducible rfl) (by assumption) ?_
    try simp only [Act.put, List.setIfInBounds_toArray, List.set_cons_zero, List.set_cons_succ]
    refine rg_take 6 (some 21) _ (by kernel_rfl) (by kernel_rfl) (by kernel_rfl) (fun _ _ _ h => h) (by kernel_rfl) (by kernel_rfl) (by intro w' hSw op_ ho; have c0 := cell_of_heap hSw.box 0; obtain ⟨k0, k1, k2, k3⟩ := hSw.key.cells; obtain ⟨v0, v1, v2, v3⟩ := vb_cells hSw.vec; clear hSw; simp only [List.getElem?_toArray, List.getElem?_cons_succ, List.getElem?_cons_zero, Option.some.injEq] at ho; subst ho; go_simp; with_reducible rfl) (by assumption) ?_
    try simp only [Act.put, List.setIfInBounds_toArray, List.set_cons_zero, List.set_cons_succ]
    refine rg_take 7 (some 22) _ (by kernel_rfl) (by kernel_rfl) (by kernel_rfl) (fun _ _ _ h => h) (by kernel_rfl) (by kernel_rfl) (by intro w' hSw op_ ho; have c0 := cell_of_heap hSw.box 0; obtain ⟨k0, k1, k2, k3⟩ := hSw.key.cells; obtain ⟨v0, v1, v2, v3⟩ := vb_cells hSw.vec; clear hSw; simp only [List.getElem?_toArray, List.getElem?_cons_succ, List.getElem?_cons_zero, Option.some.injEq] at ho; subst ho; go_simp; with_reducible rfl) (by assumption) ?_
    try simp only [Act.put, List.setIfInBounds_toArray, List.set_cons_zero, List.set_cons_succ]
    refine rg_take 8 (some 23) _ (by kernel_rfl) (by kernel_rfl) (by kernel_rfl) (fun _ _ _ h => h) (by kernel_rfl) (by kernel_rfl) (by intro w' hSw op_ ho; have c0 := cell_of_heap hSw.box 0; obtain ⟨k0, k1, k2, k3⟩ := hSw.key.cells; obtain ⟨v0, v1, v2, v3⟩ := vb_cells hSw.vec; clear hSw; simp only [List.getElem?_toArray, List.getElem?_cons_succ, List.getElem?_cons_zero, Option.some.injEq] at ho; subst ho; go_simp; with_reducible rfl) (by assumption) ?_
    try simp only [Act.put, List.setIfInBounds_toArray, List.set_cons_zero, List.set_cons_succ]
    refine rg_one 9 (by kernel_rfl) (by kernel_rfl) (fun op_ ho K hK => ?_)
    simp only [List.getElem?_toArray, List.getElem?_cons_succ, List.getElem?_cons_zero, Option.some.injEq] at ho
    subst ho
    go_simp
    go_at_call 29
    refine (HCH.out _ HSD.out HMD.out).mono ?_
    rintro e w2 ⟨rfl, mm, kk⟩
    have HM2 := Lib.hid mm
    have HK2 := Lib.hid kk
    clear mm kk
    go_wp2_with fail
    refine hK.out _ _ (CgS.chg hHeld HK2.out) (fun hHeld => ?_)
    clear hK
    try simp only [Act.put, List.setIfInBounds_toArray, List.set_cons_zero, List.set_cons_succ]
    refine wpAnyH_done (by kernel_rfl) ?_ _
    have HHEw2 := Lib.hid hHeld
    clear hHeld
    go_wp2_with fail
    go_ret
    exact ⟨rfl, HBD.out.step HK2.out HM2.out HSO.out, HKD.out.trans HK2.out (.inl rfl)⟩
  · have HT : Hid (charged T k v = T) := Lib.hid (by unfold charged; rw [hm, if_neg h0])
    have he := errV_some s h0
    rw [he] at HCK ⊢
    rw [HT.out]
    clear h hs hsb hk hm h0 he hn
    go_enter Tryd.func14, Tryd.ntmps14
    go_wp2_with fail
    have HB1 := Lib.hid HL.out.below
    refine (HCK.out _ HB1.out).mono ?_
    rintro e w1 ⟨rfl, hb1⟩
    have HB : Hid (Below w.heap.size w w1) := Lib.hid (HB1.out.trans (hb1.mono HB1.out.size))
    clear hb1
    go_wp2_with fail
    go_ret
    exact ⟨rfl, H.out.grow HB.out, Chg.of_below HB.out⟩
set_option maxRecDepth 100000 in
set_option maxHeartbeats 3200000 in
/-- Book.Hold. -/
theorem hold_c (s : Nat → Addr) (q b : Nat) (T : Grs) (k : V4) (v : V4) (w : World) (hs : Sent s w) (hsb : NotSent s b) (h : BookAt w q b T) (hk : okV k) (hn : T.length + 1 < 1000000) :
    Calls Tryd.prog 16 #[.pointer (some ⟨q, 0, none⟩), .agg #[.int .i64 k.a, .int .i64 k.b, .int .i64 k.c, .int .i64 k.d], .agg #[.int .i64 v.a, .int .i64 v.b, .int .i64 v.c, .int .i64 v.d]] w fun e w' => e = .returned (errV s (takeErr T k v)) ∧ BookAt w' q b (holds T k v) ∧ Chg b b w w' := by
  have H := Lib.hid h; have HS := Lib.hid hs; have HSB := Lib.hid hsb
  have HL := Lib.hid (LkS.made w k v h)
  have HCK := Lib.hid (fun (W : World) (hW : Below w.heap.size w W) => checkFree_c s q b T k v W (hs.below hW (Nat.le_refl _)) (h.grow hW) hk)
  obtain ⟨m, hm⟩ : ∃ m, takeErr T k v = m := ⟨_, rfl⟩
  rw [hm] at HCK ⊢
  by_cases h0 : m = 0
  · subst h0
    obtain ⟨hg, hf⟩ := takeErr_zero hm
    have hS := h.solid.ch5 hg hf
    have hT : holds T k v = chT T k (fA v) (hA v) := by unfold holds; rw [hm]; rfl
    rw [hT]
    have HSO := Lib.hid hS
    have hcan : CanA (acc T k) (fA v) (hA v) := canA h.solid hS hg goodZ goodZ goodZ goodZ hg hf (fitsZ (h.solid.goodC k)) (fitsZ (h.solid.goodH k))
    have HCH : Hid (∀ W, Sent s W → GrsAt W b T → Calls Tryd.prog 29 #[.map (some b), .agg #[.int .i64 k.a, .int .i64 k.b, .int .i64 k.c, .int .i64 k.d], .agg #[.int .i64 v.a, .int .i64 v.b, .int .i64 v.c, .int .i64 v.d, .int .i64 0, .int .i64 0, .int .i64 0, .int .i64 0, .int .i64 0, .int .i64 0, .int .i64 0, .int .i64 0], .agg #[.int .i64 0, .int .i64 0, .int .i64 0, .int .i64 0, .int .i64 0, .int .i64 0, .int .i64 0, .int .i64 0, .int .i64 v.a, .int .i64 v.b, .int .i64 v.c, .int .i64 v.d]] W fun e w' => e = .returned (.tuple #[]) ∧ GrsAt w' b (chT T k (fA v) (hA v)) ∧ Chg b b W w') := Lib.hid fun W hW hM => change_c s b T k (fA v) (hA v) W hW hM hk (by omega) hcan
    rw [errV_zero] at HCK ⊢
    clear h hs hsb hk hm hg hf hT hS hcan hn
    go_enter Tryd.func16, Tryd.ntmps16
    go_wp2_with fail
    have HB1 := Lib.hid HL.out.below
    refine (HCK.out _ HB1.out).mono ?_
    rintro e w1 ⟨rfl, hb1⟩
    have hl1 := HL.out.on (hb1.mono (Nat.le_refl _))
    obtain ⟨X, hX⟩ : ∃ X, w.heap.size = X := ⟨_, rfl⟩
    have HBX : Hid (b < X) := Lib.hid (by rw [← hX]; exact H.out.map.lt)
    rw [hX] at hl1 ⊢
    have HX := Lib.hid hX
    have HL1 := Lib.hid hl1
    obtain ⟨c0, c1, c2, c3⟩ := hl1.key.cells
    obtain ⟨v0, v1, v2, v3⟩ := vb_cells hl1.vec
    have HSD : Hid (Sent s w1.drew) := Lib.hid (HS.out.below (HL1.out.below.drew) (Nat.le_refl _))
    have HMD : Hid (GrsAt w1.drew b T) := Lib.hid (HL1.out.book.map.on (Below.drew (Below.refl _ _)) (Nat.le_refl _))
    have HKD : Hid (Chg b b w w1.drew) := Lib.hid (Chg.of_below HL1.out.below).drew
    have HBD : Hid (BookAt w1.drew q b T) := Lib.hid (HL1.out.book.on (Below.drew (Below.refl _ _)) (Nat.le_refl _))
    clear hb1 hl1 hX HL HB1
    go_wp2_with fail
    clear c0 c1 c2 c3 v0 v1 v2 v3
    refine wp_region_held_drew (S := fun W => CgS q b X k v W) (by kernel_rfl) ?_ (fun hHeld => ?_)
    · exact (HL1.out.cg HBX.out).drew
    refine rg_take 0 (some 15) _ (by kernel_rfl) (by kernel_rfl) (by kernel_rfl) (fun _ _ _ h => h) (by kernel_rfl) (by kernel_rfl) (by intro w' hSw op_ ho; have c0 := cell_of_heap hSw.box 0; obtain ⟨k0, k1, k2, k3⟩ := hSw.key.cells; obtain ⟨v0, v1, v2, v3⟩ := vb_cells hSw.vec; clear hSw; simp only [List.getElem?_toArray, List.getElem?_cons_zero, Option.some.injEq] at ho; subst ho; go_simp; with_reducible rfl) (by assumption) ?_
    try simp only [Act.put, List.setIfInBounds_toArray, List.set_cons_zero, List.set_cons_succ]
    refine rg_take 1 (some 16) _ (by kernel_rfl) (by kernel_rfl) (by kernel_rfl) (fun _ _ _ h => h) (by kernel_rfl) (by kernel_rfl) (by intro w' hSw op_ ho; have c0 := cell_of_heap hSw.box 0; obtain ⟨k0, k1, k2, k3⟩ := hSw.key.cells; obtain ⟨v0, v1, v2, v3⟩ := vb_cells hSw.vec; clear hSw; simp only [List.getElem?_toArray, List.getElem?_cons_succ, List.getElem?_cons_zero, Option.some.injEq] at ho; subst ho; go_simp; with_reducible rfl) (by assumption) ?_
    try simp only [Act.put, List.setIfInBounds_toArray, List.set_cons_zero, List.set_cons_succ]
    refine rg_take 2 (some 17) _ (by kernel_rfl) (by kernel_rfl) (by kernel_rfl) (fun _ _ _ h => h) (by kernel_rfl) (by kernel_rfl) (by intro w' hSw op_ ho; have c0 := cell_of_heap hSw.box 0; obtain ⟨k0, k1, k2, k3⟩ := hSw.key.cells; obtain ⟨v0, v1, v2, v3⟩ := vb_cells hSw.vec; clear hSw; simp only [List.getElem?_toArray, List.getElem?_cons_succ, List.getElem?_cons_zero, Option.some.injEq] at ho; subst ho; go_simp; with_reducible rfl) (by assumption) ?_
    try simp only [Act.put, List.setIfInBounds_toArray, List.set_cons_zero, List.set_cons_succ]
    refine rg_take 3 (some 18) _ (by kernel_rfl) (by kernel_rfl) (by kernel_rfl) (fun _ _ _ h => h) (by kernel_rfl) (by kernel_rfl) (by intro w' hSw op_ ho; have c0 := cell_of_heap hSw.box 0; obtain ⟨k0, k1, k2, k3⟩ := hSw.key.cells; obtain ⟨v0, v1, v2, v3⟩ := vb_cells hSw.vec; clear hSw; simp only [List.getElem?_toArray, List.getElem?_cons_succ, List.getElem?_cons_zero, Option.some.injEq] at ho; subst ho; go_simp; with_reducible rfl) (by assumption) ?_
    try simp only [Act.put, List.setIfInBounds_toArray, List.set_cons_zero, List.set_cons_succ]
    refine rg_take 4 (some 19) _ (by kernel_rfl) (by kernel_rfl) (by kernel_rfl) (fun _ _ _ h => h) (by kernel_rfl) (by kernel_rfl) (by intro w' hSw op_ ho; have c0 := cell_of_heap hSw.box 0; obtain ⟨k0, k1, k2, k3⟩ := hSw.key.cells; obtain ⟨v0, v1, v2, v3⟩ := vb_cells hSw.vec; clear hSw; simp only [List.getElem?_toArray, List.getElem?_cons_succ, List.getElem?_cons_zero, Option.some.injEq] at ho; subst ho; go_simp; with_reducible rfl) (by assumption) ?_
    try simp only [Act.put, List.setIfInBounds_toArray, List.set_cons_zero, List.set_cons_succ]
    refine rg_take 5 (some 20) _ (by kernel_rfl) (by kernel_rfl) (by kernel_rfl) (fun _ _ _ h => h) (by kernel_rfl) (by kernel_rfl) (by intro w' hSw op_ ho; have c0 := cell_of_heap hSw.box 0; obtain ⟨k0, k1, k2, k3⟩ := hSw.key.cells; obtain ⟨v0, v1, v2, v3⟩ := vb_cells hSw.vec; clear hSw; simp only [List.getElem?_toArray, List.getElem?_cons_succ, List.getElem?_cons_zero, Option.some.injEq] at ho; subst ho; go_simp; with_reducible rfl) (by assumption) ?_
    try simp only [Act.put, List.setIfInBounds_toArray, List.set_cons_zero, List.set_cons_succ]
    refine rg_take 6 (some 21) _ (by kernel_rfl) (by kernel_rfl) (by kernel_rfl) (fun _ _ _ h => h) (by kernel_rfl) (by kernel_rfl) (by intro w' hSw op_ ho; have c0 := cell_of_heap hSw.box 0; obtain ⟨k0, k1, k2, k3⟩ := hSw.key.cells; obtain ⟨v0, v1, v2, v3⟩ := vb_cells hSw.vec; clear hSw; simp only [List.getElem?_toArray, List.getElem?_cons_succ, List.getElem?_cons_zero, Option.some.injEq] at ho; subst ho; go_simp; with_reducible rfl) (by assumption) ?_
    try simp only [Act.put, List.setIfInBounds_toArray, List.set_cons_zero, List.set_cons_succ]
    refine rg_take 7 (some 22) _ (by kernel_rfl) (by kernel_rfl) (by kernel_rfl) (fun _ _ _ h => h) (by kernel_rfl) (by kernel_rfl) (by intro w' hSw op_ ho; have c0 := cell_of_heap hSw.box 0; obtain ⟨k0, k1, k2, k3⟩ := hSw.key.cells; obtain ⟨v0, v1, v2, v3⟩ := vb_cells hSw.vec; clear hSw; simp only [List.getElem?_toArray, List.getElem?_cons_succ, List.getElem?_cons_zero, Option.some.injEq] at ho; subst ho; go_simp; with_reducible rfl) (by assumption) ?_
    try simp only [Act.put, List.setIfInBounds_toArray, List.set_cons_zero, List.set_cons_succ]
    refine rg_take 8 (some 23) _ (by kernel_rfl) (by kernel_rfl) (by kernel_rfl) (fun _ _ _ h => h) (by kernel_rfl) (by kernel_rfl) (by intro w' hSw op_ ho; have c0 := cell_of_heap hSw.box 0; obtain ⟨k0, k1, k2, k3⟩ := hSw.key.cells; obtain ⟨v0, v1, v2, v3⟩ := vb_cells hSw.vec; clear hSw; simp only [List.getElem?_toArray, List.getElem?_cons_succ, List.getElem?_cons_zero, Option.some.injEq] at ho; subst ho; go_simp; with_reducible rfl) (by assumption) ?_
    try simp only [Act.put, List.setIfInBounds_toArray, List.set_cons_zero, List.set_cons_succ]
    refine rg_one 9 (by kernel_rfl) (by kernel_rfl) (fun op_ ho K hK => ?_)
    simp only [List.getElem?_toArray, List.getElem?_cons_succ, List.getElem?_cons_zero, Option.some.injEq] at ho
    subst ho
    go_simp
    go_at_call 29
    refine (HCH.out _ HSD.out HMD.out).mono ?_
    rintro e w2 ⟨rfl, mm, kk⟩
    have HM2 := Lib.hid mm
    have HK2 := Lib.hid kk
    clear mm kk
    go_wp2_with fail
    refine hK.out _ _ (CgS.chg hHeld HK2.out) (fun hHeld => ?_)
    clear hK
    try simp only [Act.put, List.setIfInBounds_toArray, List.set_cons_zero, List.set_cons_succ]
    refine wpAnyH_done (by kernel_rfl) ?_ _
    have HHEw2 := Lib.hid hHeld
    clear hHeld
    go_wp2_with fail
    go_ret
    exact ⟨rfl, HBD.out.step HK2.out HM2.out HSO.out, HKD.out.trans HK2.out (.inl rfl)⟩
  · have HT : Hid (holds T k v = T) := Lib.hid (by unfold holds; rw [hm, if_neg h0])
    have he := errV_some s h0
    rw [he] at HCK ⊢
    rw [HT.out]
    clear h hs hsb hk hm h0 he hn
    go_enter Tryd.func16, Tryd.ntmps16
    go_wp2_with fail
    have HB1 := Lib.hid HL.out.below
    refine (HCK.out _ HB1.out).mono ?_
    rintro e w1 ⟨rfl, hb1⟩
    have HB : Hid (Below w.heap.size w w1) := Lib.hid (HB1.out.trans (hb1.mono HB1.out.size))
    clear hb1
    go_wp2_with fail
    go_ret
    exact ⟨rfl, H.out.grow HB.out, Chg.of_below HB.out⟩
set_option maxRecDepth 100000 in
set_option maxHeartbeats 3200000 in
/-- Book.Move. -/
theorem move_c (s : Nat → Addr) (q b : Nat) (T : Grs) (k : V4) (t : Int) (v : V4) (w : World) (hs : Sent s w) (hsb : NotSent s b) (h : BookAt w q b T) (hk : okV k) (ht : i64 t) (hn : T.length + 1 < 1000000) :
    Calls Tryd.prog 19 #[.pointer (some ⟨q, 0, none⟩), .agg #[.int .i64 k.a, .int .i64 k.b, .int .i64 k.c, .int .i64 k.d], .int .i64 t, .agg #[.int .i64 v.a, .int .i64 v.b, .int .i64 v.c, .int .i64 v.d]] w fun e w' => e = .returned (errV s (takeErr T k v)) ∧ BookAt w' q b (moved T k t v) ∧ Chg b b w w' := by
  have H := Lib.hid h; have HS := Lib.hid hs; have HSB := Lib.hid hsb
  have HL := Lib.hid (LkS.made w k v h)
  have HCK := Lib.hid (fun (W : World) (hW : Below w.heap.size w W) => checkFree_c s q b T k v W (hs.below hW (Nat.le_refl _)) (h.grow hW) hk)
  obtain ⟨m, hm⟩ : ∃ m, takeErr T k v = m := ⟨_, rfl⟩
  rw [hm] at HCK ⊢
  by_cases h0 : m = 0
  · subst h0
    obtain ⟨hg, hf⟩ := takeErr_zero hm
    have hS := h.solid.ch2 hg hf
    have hS2 := hS.ch1 hg (h.solid.ch7 t hg (fun r => allOf_fA r v) hS)
    have hT : moved T k t v = chT (chT T k (fA v) zA) (atT k t) zA (fA v) := by unfold moved; rw [hm]; rfl
    rw [hT]
    have HSO := Lib.hid hS
    have hcan : CanA (acc T k) (fA v) zA := canA h.solid hS hg goodZ goodZ goodZ goodZ goodZ hf (fitsZ (h.solid.goodC k)) (fitsZ (h.solid.goodH k))
    have HCH : Hid (∀ W, Sent s W → GrsAt W b T → Calls Tryd.prog 29 #[.map (some b), .agg #[.int .i64 k.a, .int .i64 k.b, .int .i64 k.c, .int .i64 k.d], .agg #[.int .i64 v.a, .int .i64 v.b, .int .i64 v.c, .int .i64 v.d, .int .i64 0, .int .i64 0, .int .i64 0, .int .i64 0, .int .i64 0, .int .i64 0, .int .i64 0, .int .i64 0], .agg #[.int .i64 0, .int .i64 0, .int .i64 0, .int .i64 0, .int .i64 0, .int .i64 0, .int .i64 0, .int .i64 0, .int .i64 0, .int .i64 0, .int .i64 0, .int .i64 0]] W fun e w' => e = .returned (.tuple #[]) ∧ GrsAt w' b (chT T k (fA v) zA) ∧ Chg b b W w') := Lib.hid fun W hW hM => change_c s b T k (fA v) zA W hW hM hk (by omega) hcan
    have HSO2 := Lib.hid hS2
    have hlen := chT_len T k (fA v) zA
    have hcan2 : CanA (acc (chT T k (fA v) zA) (atT k t)) zA (fA v) := canA hS hS2 goodZ goodZ goodZ hg goodZ goodZ (fitsZ (hS.goodF (atT k t))) (fitsZ (hS.goodC (atT k t))) (fitsZ (hS.goodH (atT k t)))
    have HCI : Hid (∀ W, Sent s W → GrsAt W b (chT T k (fA v) zA) → Calls Tryd.prog 29 #[.map (some b), .agg #[.int .i64 t, .int .i64 k.b, .int .i64 k.c, .int .i64 k.d], .agg #[.int .i64 0, .int .i64 0, .int .i64 0, .int .i64 0, .int .i64 0, .int .i64 0, .int .i64 0, .int .i64 0, .int .i64 0, .int .i64 0, .int .i64 0, .int .i64 0], .agg #[.int .i64 v.a, .int .i64 v.b, .int .i64 v.c, .int .i64 v.d, .int .i64 0, .int .i64 0, .int .i64 0, .int .i64 0, .int .i64 0, .int .i64 0, .int .i64 0, .int .i64 0]] W fun e w' => e = .returned (.tuple #[]) ∧ GrsAt w' b (chT (chT T k (fA v) zA) (atT k t) zA (fA v)) ∧ Chg b b W w') := Lib.hid fun W hW hM => change_c s b (chT T k (fA v) zA) (atT k t) zA (fA v) W hW hM (show okV (atT k t) from ⟨ht, hk.2.1, hk.2.2.1, hk.2.2.2⟩) (by omega) hcan2
    rw [errV_zero] at HCK ⊢
    clear h hs hsb hk hm hg hf hT hS hcan hn hS2 hlen hcan2 ht
    go_enter Tryd.func19, Tryd.ntmps19
    go_wp2_with fail
    have HB1 := Lib.hid HL.out.below
    refine (HCK.out _ HB1.out).mono ?_
    rintro e w1 ⟨rfl, hb1⟩
    have hl1 := HL.out.on (hb1.mono (Nat.le_refl _))
    obtain ⟨X, hX⟩ : ∃ X, w.heap.size = X := ⟨_, rfl⟩
    have HBX : Hid (b < X) := Lib.hid (by rw [← hX]; exact H.out.map.lt)
    rw [hX] at hl1 ⊢
    have HX := Lib.hid hX
    have HL1 := Lib.hid hl1
    obtain ⟨c0, c1, c2, c3⟩ := hl1.key.cells
    obtain ⟨v0, v1, v2, v3⟩ := vb_cells hl1.vec
    have HSD : Hid (Sent s w1.drew) := Lib.hid (HS.out.below (HL1.out.below.drew) (Nat.le_refl _))
    have HMD : Hid (GrsAt w1.drew b T) := Lib.hid (HL1.out.book.map.on (Below.drew (Below.refl _ _)) (Nat.le_refl _))
    have HKD : Hid (Chg b b w w1.drew) := Lib.hid (Chg.of_below HL1.out.below).drew
    have HBD : Hid (BookAt w1.drew q b T) := Lib.hid (HL1.out.book.on (Below.drew (Below.refl _ _)) (Nat.le_refl _))
    clear hb1 hl1 hX HL HB1
    go_wp2_with fail
    clear c0 c1 c2 c3 v0 v1 v2 v3
    refine wp_region_held_drew (S := fun W => CgS q b X k v W) (by kernel_rfl) ?_ (fun hHeld => ?_)
    · exact (HL1.out.cg HBX.out).drew
    refine rg_take 0 (some 17) _ (by kernel_rfl) (by kernel_rfl) (by kernel_rfl) (fun _ _ _ h => h) (by kernel_rfl) (by kernel_rfl) (by intro w' hSw op_ ho; have c0 := cell_of_heap hSw.box 0; obtain ⟨k0, k1, k2, k3⟩ := hSw.key.cells; obtain ⟨v0, v1, v2, v3⟩ := vb_cells hSw.vec; clear hSw; simp only [List.getElem?_toArray, List.getElem?_cons_zero, Option.some.injEq] at ho; subst ho; go_simp; with_reducible rfl) (by assumption) ?_
    try simp only [Act.put, List.setIfInBounds_toArray, List.set_cons_zero, List.set_cons_succ]
    refine rg_take 1 (some 18) _ (by kernel_rfl) (by kernel_rfl) (by kernel_rfl) (fun _ _ _ h => h) (by kernel_rfl) (by kernel_rfl) (by intro w' hSw op_ ho; have c0 := cell_of_heap hSw.box 0; obtain ⟨k0, k1, k2, k3⟩ := hSw.key.cells; obtain ⟨v0, v1, v2, v3⟩ := vb_cells hSw.vec; clear hSw; simp only [List.getElem?_toArray, List.getElem?_cons_succ, List.getElem?_cons_zero, Option.some.injEq] at ho; subst ho; go_simp; with_reducible rfl) (by assumption) ?_
    try simp only [Act.put, List.setIfInBounds_toArray, List.set_cons_zero, List.set_cons_succ]
    refine rg_take 2 (some 19) _ (by kernel_rfl) (by kernel_rfl) (by kernel_rfl) (fun _ _ _ h => h) (by kernel_rfl) (by kernel_rfl) (by intro w' hSw op_ ho; have c0 := cell_of_heap hSw.box 0; obtain ⟨k0, k1, k2, k3⟩ := hSw.key.cells; obtain ⟨v0, v1, v2, v3⟩ := vb_cells hSw.vec; clear hSw; simp only [List.getElem?_toArray, List.getElem?_cons_succ, List.getElem?_cons_zero, Option.some.injEq] at ho; subst ho; go_simp; with_reducible rfl) (by assumption) ?_
    try simp only [Act.put, List.setIfInBounds_toArray, List.set_cons_zero, List.set_cons_succ]
    refine rg_take 3 (some 20) _ (by kernel_rfl) (by kernel_rfl) (by kernel_rfl) (fun _ _ _ h => h) (by kernel_rfl) (by kernel_rfl) (by intro w' hSw op_ ho; have c0 := cell_of_heap hSw.box 0; obtain ⟨k0, k1, k2, k3⟩ := hSw.key.cells; obtain ⟨v0, v1, v2, v3⟩ := vb_cells hSw.vec; clear hSw; simp only [List.getElem?_toArray, List.getElem?_cons_succ, List.getElem?_cons_zero, Option.some.injEq] at ho; subst ho; go_simp; with_reducible rfl) (by assumption) ?_
    try simp only [Act.put, List.setIfInBounds_toArray, List.set_cons_zero, List.set_cons_succ]
    refine rg_take 4 (some 21) _ (by kernel_rfl) (by kernel_rfl) (by kernel_rfl) (fun _ _ _ h => h) (by kernel_rfl) (by kernel_rfl) (by intro w' hSw op_ ho; have c0 := cell_of_heap hSw.box 0; obtain ⟨k0, k1, k2, k3⟩ := hSw.key.cells; obtain ⟨v0, v1, v2, v3⟩ := vb_cells hSw.vec; clear hSw; simp only [List.getElem?_toArray, List.getElem?_cons_succ, List.getElem?_cons_zero, Option.some.injEq] at ho; subst ho; go_simp; with_reducible rfl) (by assumption) ?_
    try simp only [Act.put, List.setIfInBounds_toArray, List.set_cons_zero, List.set_cons_succ]
    refine rg_take 5 (some 22) _ (by kernel_rfl) (by kernel_rfl) (by kernel_rfl) (fun _ _ _ h => h) (by kernel_rfl) (by kernel_rfl) (by intro w' hSw op_ ho; have c0 := cell_of_heap hSw.box 0; obtain ⟨k0, k1, k2, k3⟩ := hSw.key.cells; obtain ⟨v0, v1, v2, v3⟩ := vb_cells hSw.vec; clear hSw; simp only [List.getElem?_toArray, List.getElem?_cons_succ, List.getElem?_cons_zero, Option.some.injEq] at ho; subst ho; go_simp; with_reducible rfl) (by assumption) ?_
    try simp only [Act.put, List.setIfInBounds_toArray, List.set_cons_zero, List.set_cons_succ]
    refine rg_take 6 (some 23) _ (by kernel_rfl) (by kernel_rfl) (by kernel_rfl) (fun _ _ _ h => h) (by kernel_rfl) (by kernel_rfl) (by intro w' hSw op_ ho; have c0 := cell_of_heap hSw.box 0; obtain ⟨k0, k1, k2, k3⟩ := hSw.key.cells; obtain ⟨v0, v1, v2, v3⟩ := vb_cells hSw.vec; clear hSw; simp only [List.getElem?_toArray, List.getElem?_cons_succ, List.getElem?_cons_zero, Option.some.injEq] at ho; subst ho; go_simp; with_reducible rfl) (by assumption) ?_
    try simp only [Act.put, List.setIfInBounds_toArray, List.set_cons_zero, List.set_cons_succ]
    refine rg_take 7 (some 24) _ (by kernel_rfl) (by kernel_rfl) (by kernel_rfl) (fun _ _ _ h => h) (by kernel_rfl) (by kernel_rfl) (by intro w' hSw op_ ho; have c0 := cell_of_heap hSw.box 0; obtain ⟨k0, k1, k2, k3⟩ := hSw.key.cells; obtain ⟨v0, v1, v2, v3⟩ := vb_cells hSw.vec; clear hSw; simp only [List.getElem?_toArray, List.getElem?_cons_succ, List.getElem?_cons_zero, Option.some.injEq] at ho; subst ho; go_simp; with_reducible rfl) (by assumption) ?_
    try simp only [Act.put, List.setIfInBounds_toArray, List.set_cons_zero, List.set_cons_succ]
    refine rg_one 8 (by kernel_rfl) (by kernel_rfl) (fun op_ ho K hK => ?_)
    simp only [List.getElem?_toArray, List.getElem?_cons_succ, List.getElem?_cons_zero, Option.some.injEq] at ho
    subst ho
    go_simp
    go_at_call 29
    refine (HCH.out _ HSD.out HMD.out).mono ?_
    rintro e w2 ⟨rfl, mm, kk⟩
    have HM2 := Lib.hid mm
    have HK2 := Lib.hid kk
    clear mm kk
    go_wp2_with fail
    refine hK.out _ _ (CgS.chg hHeld HK2.out) (fun hHeld => ?_)
    clear hK
    try simp only [Act.put, List.setIfInBounds_toArray, List.set_cons_zero, List.set_cons_succ]
    refine wpAnyH_done (by kernel_rfl) ?_ _
    have HHEw2 := Lib.hid hHeld
    clear hHeld
    have HBK2 : Hid (BookAt w2 q b (chT T k (fA v) zA)) := Lib.hid (HBD.out.step HK2.out HM2.out HSO.out)
    have HC2 : Hid (Chg b b w w2) := Lib.hid (HKD.out.trans HK2.out (.inl rfl))
    have HSD2 : Hid (Sent s w2.drew) := Lib.hid (sent_chg HS.out HC2.out.drew HSB.out)
    have HMD2 : Hid (GrsAt w2.drew b (chT T k (fA v) zA)) := Lib.hid (HM2.out.on (Below.drew (Below.refl _ _)) (Nat.le_refl _))
    obtain ⟨c0, c1, c2, c3⟩ := HHEw2.out.key.cells
    obtain ⟨v0, v1, v2, v3⟩ := vb_cells HHEw2.out.vec
    go_wp2_with fail
    clear c0 c1 c2 c3 v0 v1 v2 v3
    refine wp_region_held_drew (S := fun W => CgS q b X k v W) (by kernel_rfl) ?_ (fun hHeld => ?_)
    · exact HHEw2.out.drew
    refine rg_take 0 (some 26) _ (by kernel_rfl) (by kernel_rfl) (by kernel_rfl) (fun _ _ _ h => h) (by kernel_rfl) (by kernel_rfl) (by intro w' hSw op_ ho; have c0 := cell_of_heap hSw.box 0; obtain ⟨k0, k1, k2, k3⟩ := hSw.key.cells; obtain ⟨v0, v1, v2, v3⟩ := vb_cells hSw.vec; clear hSw; simp only [List.getElem?_toArray, List.getElem?_cons_zero, Option.some.injEq] at ho; subst ho; go_simp; with_reducible rfl) (by assumption) ?_
    try simp only [Act.put, List.setIfInBounds_toArray, List.set_cons_zero, List.set_cons_succ]
    refine rg_take 1 (some 27) _ (by kernel_rfl) (by kernel_rfl) (by kernel_rfl) (fun _ _ _ h => h) (by kernel_rfl) (by kernel_rfl) (by intro w' hSw op_ ho; have c0 := cell_of_heap hSw.box 0; obtain ⟨k0, k1, k2, k3⟩ := hSw.key.cells; obtain ⟨v0, v1, v2, v3⟩ := vb_cells hSw.vec; clear hSw; simp only [List.getElem?_toArray, List.getElem?_cons_succ, List.getElem?_cons_zero, Option.some.injEq] at ho; subst ho; go_simp; with_reducible rfl) (by assumption) ?_
    try simp only [Act.put, List.setIfInBounds_toArray, List.set_cons_zero, List.set_cons_succ]
    refine rg_take 2 (some 28) _ (by kernel_rfl) (by kernel_rfl) (by kernel_rfl) (fun _ _ _ h => h) (by kernel_rfl) (by kernel_rfl) (by intro w' hSw op_ ho; have c0 := cell_of_heap hSw.box 0; obtain ⟨k0, k1, k2, k3⟩ := hSw.key.cells; obtain ⟨v0, v1, v2, v3⟩ := vb_cells hSw.vec; clear hSw; simp only [List.getElem?_toArray, List.getElem?_cons_succ, List.getElem?_cons_zero, Option.some.injEq] at ho; subst ho; go_simp; with_reducible rfl) (by assumption) ?_
    try simp only [Act.put, List.setIfInBounds_toArray, List.set_cons_zero, List.set_cons_succ]
    refine rg_take 3 (some 29) _ (by kernel_rfl) (by kernel_rfl) (by kernel_rfl) (fun _ _ _ h => h) (by kernel_rfl) (by kernel_rfl) (by intro w' hSw op_ ho; have c0 := cell_of_heap hSw.box 0; obtain ⟨k0, k1, k2, k3⟩ := hSw.key.cells; obtain ⟨v0, v1, v2, v3⟩ := vb_cells hSw.vec; clear hSw; simp only [List.getElem?_toArray, List.getElem?_cons_succ, List.getElem?_cons_zero, Option.some.injEq] at ho; subst ho; go_simp; with_reducible rfl) (by assumption) ?_
    try simp only [Act.put, List.setIfInBounds_toArray, List.set_cons_zero, List.set_cons_succ]
    refine rg_take 4 (some 30) _ (by kernel_rfl) (by kernel_rfl) (by kernel_rfl) (fun _ _ _ h => h) (by kernel_rfl) (by kernel_rfl) (by intro w' hSw op_ ho; have c0 := cell_of_heap hSw.box 0; obtain ⟨k0, k1, k2, k3⟩ := hSw.key.cells; obtain ⟨v0, v1, v2, v3⟩ := vb_cells hSw.vec; clear hSw; simp only [List.getElem?_toArray, List.getElem?_cons_succ, List.getElem?_cons_zero, Option.some.injEq] at ho; subst ho; go_simp; with_reducible rfl) (by assumption) ?_
    try simp only [Act.put, List.setIfInBounds_toArray, List.set_cons_zero, List.set_cons_succ]
    refine rg_take 5 (some 31) _ (by kernel_rfl) (by kernel_rfl) (by kernel_rfl) (fun _ _ _ h => h) (by kernel_rfl) (by kernel_rfl) (by intro w' hSw op_ ho; have c0 := cell_of_heap hSw.box 0; obtain ⟨k0, k1, k2, k3⟩ := hSw.key.cells; obtain ⟨v0, v1, v2, v3⟩ := vb_cells hSw.vec; clear hSw; simp only [List.getElem?_toArray, List.getElem?_cons_succ, List.getElem?_cons_zero, Option.some.injEq] at ho; subst ho; go_simp; with_reducible rfl) (by assumption) ?_
    try simp only [Act.put, List.setIfInBounds_toArray, List.set_cons_zero, List.set_cons_succ]
    refine rg_take 6 (some 32) _ (by kernel_rfl) (by kernel_rfl) (by kernel_rfl) (fun _ _ _ h => h) (by kernel_rfl) (by kernel_rfl) (by intro w' hSw op_ ho; have c0 := cell_of_heap hSw.box 0; obtain ⟨k0, k1, k2, k3⟩ := hSw.key.cells; obtain ⟨v0, v1, v2, v3⟩ := vb_cells hSw.vec; clear hSw; simp only [List.getElem?_toArray, List.getElem?_cons_succ, List.getElem?_cons_zero, Option.some.injEq] at ho; subst ho; go_simp; with_reducible rfl) (by assumption) ?_
    try simp only [Act.put, List.setIfInBounds_toArray, List.set_cons_zero, List.set_cons_succ]
    refine rg_take 7 (some 33) _ (by kernel_rfl) (by kernel_rfl) (by kernel_rfl) (fun _ _ _ h => h) (by kernel_rfl) (by kernel_rfl) (by intro w' hSw op_ ho; have c0 := cell_of_heap hSw.box 0; obtain ⟨k0, k1, k2, k3⟩ := hSw.key.cells; obtain ⟨v0, v1, v2, v3⟩ := vb_cells hSw.vec; clear hSw; simp only [List.getElem?_toArray, List.getElem?_cons_succ, List.getElem?_cons_zero, Option.some.injEq] at ho; subst ho; go_simp; with_reducible rfl) (by assumption) ?_
    try simp only [Act.put, List.setIfInBounds_toArray, List.set_cons_zero, List.set_cons_succ]
    refine rg_take 8 (some 34) _ (by kernel_rfl) (by kernel_rfl) (by kernel_rfl) (fun _ _ _ h => h) (by kernel_rfl) (by kernel_rfl) (by intro w' hSw op_ ho; have c0 := cell_of_heap hSw.box 0; obtain ⟨k0, k1, k2, k3⟩ := hSw.key.cells; obtain ⟨v0, v1, v2, v3⟩ := vb_cells hSw.vec; clear hSw; simp only [List.getElem?_toArray, List.getElem?_cons_succ, List.getElem?_cons_zero, Option.some.injEq] at ho; subst ho; go_simp; with_reducible rfl) (by assumption) ?_
    try simp only [Act.put, List.setIfInBounds_toArray, List.set_cons_zero, List.set_cons_succ]
    refine rg_take 9 (some 35) _ (by kernel_rfl) (by kernel_rfl) (by kernel_rfl) (fun _ _ _ h => h) (by kernel_rfl) (by kernel_rfl) (by intro w' hSw op_ ho; have c0 := cell_of_heap hSw.box 0; obtain ⟨k0, k1, k2, k3⟩ := hSw.key.cells; obtain ⟨v0, v1, v2, v3⟩ := vb_cells hSw.vec; clear hSw; simp only [List.getElem?_toArray, List.getElem?_cons_succ, List.getElem?_cons_zero, Option.some.injEq] at ho; subst ho; go_simp; with_reducible rfl) (by assumption) ?_
    try simp only [Act.put, List.setIfInBounds_toArray, List.set_cons_zero, List.set_cons_succ]
    refine rg_take 10 (some 36) _ (by kernel_rfl) (by kernel_rfl) (by kernel_rfl) (fun _ _ _ h => h) (by kernel_rfl) (by kernel_rfl) (by intro w' hSw op_ ho; have c0 := cell_of_heap hSw.box 0; obtain ⟨k0, k1, k2, k3⟩ := hSw.key.cells; obtain ⟨v0, v1, v2, v3⟩ := vb_cells hSw.vec; clear hSw; simp only [List.getElem?_toArray, List.getElem?_cons_succ, List.getElem?_cons_zero, Option.some.injEq] at ho; subst ho; go_simp; with_reducible rfl) (by assumption) ?_
    try simp only [Act.put, List.setIfInBounds_toArray, List.set_cons_zero, List.set_cons_succ]
    refine rg_one 11 (by kernel_rfl) (by kernel_rfl) (fun op_ ho K hK => ?_)
    simp only [List.getElem?_toArray, List.getElem?_cons_succ, List.getElem?_cons_zero, Option.some.injEq] at ho
    subst ho
    go_simp
    go_at_call 29
    refine (HCI.out _ HSD2.out HMD2.out).mono ?_
    rintro e w3 ⟨rfl, mm, kk⟩
    have HM3 := Lib.hid mm
    have HK3 := Lib.hid kk
    clear mm kk
    go_wp2_with fail
    refine hK.out _ _ (CgS.chg hHeld HK3.out) (fun hHeld => ?_)
    clear hK
    try simp only [Act.put, List.setIfInBounds_toArray, List.set_cons_zero, List.set_cons_succ]
    refine wpAnyH_done (by kernel_rfl) ?_ _
    have HHEw3 := Lib.hid hHeld
    clear hHeld
    go_wp2_with fail
    go_ret
    exact ⟨rfl, (HBK2.out.on (Below.drew (Below.refl _ _)) (Nat.le_refl _)).step HK3.out HM3.out HSO2.out, HC2.out.drew.trans HK3.out (.inl rfl)⟩
  · have HT : Hid (moved T k t v = T) := Lib.hid (by unfold moved; rw [hm, if_neg h0])
    have he := errV_some s h0
    rw [he] at HCK ⊢
    rw [HT.out]
    clear h hs hsb hk hm h0 he hn ht
    go_enter Tryd.func19, Tryd.ntmps19
    go_wp2_with fail
    have HB1 := Lib.hid HL.out.below
    refine (HCK.out _ HB1.out).mono ?_
    rintro e w1 ⟨rfl, hb1⟩
    have HB : Hid (Below w.heap.size w w1) := Lib.hid (HB1.out.trans (hb1.mono HB1.out.size))
    clear hb1
    go_wp2_with fail
    go_ret
    exact ⟨rfl, H.out.grow HB.out, Chg.of_below HB.out⟩
set_option maxRecDepth 100000 in
set_option maxHeartbeats 3200000 in
/-- Book.Uncharge. -/
theorem uncharge_c (s : Nat → Addr) (q b : Nat) (T : Grs) (k : V4) (v : V4) (w : World) (hs : Sent s w) (hsb : NotSent s b) (h : BookAt w q b T) (hk : okV k) (hn : T.length + 1 < 1000000) :
    Calls Tryd.prog 17 #[.pointer (some ⟨q, 0, none⟩), .agg #[.int .i64 k.a, .int .i64 k.b, .int .i64 k.c, .int .i64 k.d], .agg #[.int .i64 v.a, .int .i64 v.b, .int .i64 v.c, .int .i64 v.d]] w fun e w' => e = .returned (errV s (backErr (acc T k).c v)) ∧ BookAt w' q b (uncharged T k v) ∧ Chg b b w w' := by
  have H := Lib.hid h; have HS := Lib.hid hs; have HSB := Lib.hid hsb; have HK := Lib.hid hk
  have HL := Lib.hid (LkS.made w k v h)
  have HCK := Lib.hid (fun (W : World) (hW : Below w.heap.size w W) => check_c s q v W (hs.below hW (Nat.le_refl _)))
  obtain ⟨x, hx⟩ : ∃ x, acc T k = x := ⟨_, rfl⟩
  have HX2 := Lib.hid hx
  have HFT : Hid (∀ W, LkS w w.heap.size q b T k v W → Calls Tryd.prog 32 #[.agg #[.int .i64 v.a, .int .i64 v.b, .int .i64 v.c, .int .i64 v.d], .agg #[.int .i64 (x.c).a, .int .i64 (x.c).b, .int .i64 (x.c).c, .int .i64 (x.c).d]] W fun e w' => e = .returned (.bool (fitsV v x.c)) ∧ LkS w w.heap.size q b T k v w') := Lib.hid fun W hW => (fits_c v x.c W).mono fun _ _ p => ⟨p.1, hW.on p.2⟩
  by_cases hg : goodV v = true
  · rw [if_pos hg] at HCK
    cases hf : fitsV v x.c
    · rw [hf] at HFT
      have hm : backErr (acc T k).c v = 13 := by unfold backErr; rw [if_pos hg, hx, hf]; rfl
      have HT : Hid (uncharged T k v = T) := Lib.hid (by unfold uncharged; rw [hm]; rfl)
      rw [hm, HT.out]
      clear h hs hsb hk hx hg hf hm hn
      go_enter Tryd.func17, Tryd.ntmps17
      go_wp2_with fail
      have HB1 := Lib.hid HL.out.below
      refine (HCK.out _ HB1.out).mono ?_
      rintro e w1 ⟨rfl, hb1⟩
      rw [errV_zero]
      have hl1 := HL.out.on (hb1.mono (Nat.le_refl _))
      obtain ⟨X, hX⟩ : ∃ X, w.heap.size = X := ⟨_, rfl⟩
      rw [hX] at hl1 HFT ⊢
      have HX := Lib.hid hX
      have HL1 := Lib.hid hl1
      obtain ⟨c0, c1, c2, c3⟩ := hl1.key.cells
      obtain ⟨v0, v1, v2, v3⟩ := vb_cells hl1.vec
      clear hb1 hl1 hX HL HB1
      go_wp2_with fail
      clear c0 c1 c2 c3 v0 v1 v2 v3
      refine wp_region_held_drew (S := fun W => LkS w X q b T k v W) (by kernel_rfl) ?_ (fun hHeld => ?_)
      · exact HL1.out.drew
      refine rg_take 0 (some 14) _ (by kernel_rfl) (by kernel_rfl) (by kernel_rfl) (fun _ _ _ h => h) (by kernel_rfl) (by kernel_rfl) (by intro w' hSw op_ ho; have c0 := cell_of_heap hSw.book.box 0; obtain ⟨k0, k1, k2, k3⟩ := hSw.key.cells; obtain ⟨v0, v1, v2, v3⟩ := vb_cells hSw.vec; have hlk := hSw.lk HK.out HX2.out; have hf0 := field0A; have hf1 := field1A; have hf2 := field2A; clear hSw; simp only [List.getElem?_toArray, List.getElem?_cons_zero, Option.some.injEq] at ho; subst ho; go_simp; with_reducible rfl) (by assumption) ?_
      try simp only [Act.put, List.setIfInBounds_toArray, List.set_cons_zero, List.set_cons_succ]
      refine rg_take 1 (some 15) _ (by kernel_rfl) (by kernel_rfl) (by kernel_rfl) (fun _ _ _ h => h) (by kernel_rfl) (by kernel_rfl) (by intro w' hSw op_ ho; have c0 := cell_of_heap hSw.book.box 0; obtain ⟨k0, k1, k2, k3⟩ := hSw.key.cells; obtain ⟨v0, v1, v2, v3⟩ := vb_cells hSw.vec; have hlk := hSw.lk HK.out HX2.out; have hf0 := field0A; have hf1 := field1A; have hf2 := field2A; clear hSw; simp only [List.getElem?_toArray, List.getElem?_cons_succ, List.getElem?_cons_zero, Option.some.injEq] at ho; subst ho; go_simp; with_reducible rfl) (by assumption) ?_
      try simp only [Act.put, List.setIfInBounds_toArray, List.set_cons_zero, List.set_cons_succ]
      refine rg_take 2 (some 16) _ (by kernel_rfl) (by kernel_rfl) (by kernel_rfl) (fun _ _ _ h => h) (by kernel_rfl) (by kernel_rfl) (by intro w' hSw op_ ho; have c0 := cell_of_heap hSw.book.box 0; obtain ⟨k0, k1, k2, k3⟩ := hSw.key.cells; obtain ⟨v0, v1, v2, v3⟩ := vb_cells hSw.vec; have hlk := hSw.lk HK.out HX2.out; have hf0 := field0A; have hf1 := field1A; have hf2 := field2A; clear hSw; simp only [List.getElem?_toArray, List.getElem?_cons_succ, List.getElem?_cons_zero, Option.some.injEq] at ho; subst ho; go_simp; with_reducible rfl) (by assumption) ?_
      try simp only [Act.put, List.setIfInBounds_toArray, List.set_cons_zero, List.set_cons_succ]
      refine rg_take 3 (some 17) _ (by kernel_rfl) (by kernel_rfl) (by kernel_rfl) (fun _ _ _ h => h) (by kernel_rfl) (by kernel_rfl) (by intro w' hSw op_ ho; have c0 := cell_of_heap hSw.book.box 0; obtain ⟨k0, k1, k2, k3⟩ := hSw.key.cells; obtain ⟨v0, v1, v2, v3⟩ := vb_cells hSw.vec; have hlk := hSw.lk HK.out HX2.out; have hf0 := field0A; have hf1 := field1A; have hf2 := field2A; clear hSw; simp only [List.getElem?_toArray, List.getElem?_cons_succ, List.getElem?_cons_zero, Option.some.injEq] at ho; subst ho; go_simp; with_reducible rfl) (by assumption) ?_
      try simp only [Act.put, List.setIfInBounds_toArray, List.set_cons_zero, List.set_cons_succ]
      refine rg_take 4 (some 18) _ (by kernel_rfl) (by kernel_rfl) (by kernel_rfl) (fun _ _ _ h => h) (by kernel_rfl) (by kernel_rfl) (by intro w' hSw op_ ho; have c0 := cell_of_heap hSw.book.box 0; obtain ⟨k0, k1, k2, k3⟩ := hSw.key.cells; obtain ⟨v0, v1, v2, v3⟩ := vb_cells hSw.vec; have hlk := hSw.lk HK.out HX2.out; have hf0 := field0A; have hf1 := field1A; have hf2 := field2A; clear hSw; simp only [List.getElem?_toArray, List.getElem?_cons_succ, List.getElem?_cons_zero, Option.some.injEq] at ho; subst ho; go_simp; with_reducible rfl) (by assumption) ?_
      try simp only [Act.put, List.setIfInBounds_toArray, List.set_cons_zero, List.set_cons_succ]
      refine rg_take 5 (some 19) _ (by kernel_rfl) (by kernel_rfl) (by kernel_rfl) (fun _ _ _ h => h) (by kernel_rfl) (by kernel_rfl) (by intro w' hSw op_ ho; have c0 := cell_of_heap hSw.book.box 0; obtain ⟨k0, k1, k2, k3⟩ := hSw.key.cells; obtain ⟨v0, v1, v2, v3⟩ := vb_cells hSw.vec; have hlk := hSw.lk HK.out HX2.out; have hf0 := field0A; have hf1 := field1A; have hf2 := field2A; clear hSw; simp only [List.getElem?_toArray, List.getElem?_cons_succ, List.getElem?_cons_zero, Option.some.injEq] at ho; subst ho; go_simp; with_reducible rfl) (by assumption) ?_
      try simp only [Act.put, List.setIfInBounds_toArray, List.set_cons_zero, List.set_cons_succ]
      refine rg_take 6 (some 20) _ (by kernel_rfl) (by kernel_rfl) (by kernel_rfl) (fun _ _ _ h => h) (by kernel_rfl) (by kernel_rfl) (by intro w' hSw op_ ho; have c0 := cell_of_heap hSw.book.box 0; obtain ⟨k0, k1, k2, k3⟩ := hSw.key.cells; obtain ⟨v0, v1, v2, v3⟩ := vb_cells hSw.vec; have hlk := hSw.lk HK.out HX2.out; have hf0 := field0A; have hf1 := field1A; have hf2 := field2A; clear hSw; simp only [List.getElem?_toArray, List.getElem?_cons_succ, List.getElem?_cons_zero, Option.some.injEq] at ho; subst ho; go_simp; with_reducible rfl) (by assumption) ?_
      try simp only [Act.put, List.setIfInBounds_toArray, List.set_cons_zero, List.set_cons_succ]
      refine rg_take 7 (some 21) _ (by kernel_rfl) (by kernel_rfl) (by kernel_rfl) (fun _ _ _ h => h) (by kernel_rfl) (by kernel_rfl) (by intro w' hSw op_ ho; have c0 := cell_of_heap hSw.book.box 0; obtain ⟨k0, k1, k2, k3⟩ := hSw.key.cells; obtain ⟨v0, v1, v2, v3⟩ := vb_cells hSw.vec; have hlk := hSw.lk HK.out HX2.out; have hf0 := field0A; have hf1 := field1A; have hf2 := field2A; clear hSw; simp only [List.getElem?_toArray, List.getElem?_cons_succ, List.getElem?_cons_zero, Option.some.injEq] at ho; subst ho; go_simp; with_reducible rfl) (by assumption) ?_
      try simp only [Act.put, List.setIfInBounds_toArray, List.set_cons_zero, List.set_cons_succ]
      refine rg_one 8 (by kernel_rfl) (by kernel_rfl) (fun op_ ho K hK => ?_)
      simp only [List.getElem?_toArray, List.getElem?_cons_succ, List.getElem?_cons_zero, Option.some.injEq] at ho
      subst ho
      go_simp
      go_at_call 32
      refine (HFT.out _ (by assumption)).mono ?_
      rintro e wz ⟨rfl, rz⟩
      go_wp2_with fail
      refine hK.out _ _ (by assumption) (fun hHeld => ?_)
      clear hK
      try simp only [Act.put, List.setIfInBounds_toArray, List.set_cons_zero, List.set_cons_succ]
      refine rg_take 9 (some 23) _ (by kernel_rfl) (by kernel_rfl) (by kernel_rfl) (fun _ _ _ h => h) (by kernel_rfl) (by kernel_rfl) (by intro w' hSw op_ ho; have c0 := cell_of_heap hSw.book.box 0; obtain ⟨k0, k1, k2, k3⟩ := hSw.key.cells; obtain ⟨v0, v1, v2, v3⟩ := vb_cells hSw.vec; have hlk := hSw.lk HK.out HX2.out; have hf0 := field0A; have hf1 := field1A; have hf2 := field2A; clear hSw; simp only [List.getElem?_toArray, List.getElem?_cons_succ, List.getElem?_cons_zero, Option.some.injEq] at ho; subst ho; go_simp; with_reducible rfl) (by assumption) ?_
      try simp only [Act.put, List.setIfInBounds_toArray, List.set_cons_zero, List.set_cons_succ]
      refine wpAnyH_done (by kernel_rfl) ?_ _
      have HHE := Lib.hid hHeld
      clear hHeld
      have HB : Hid (Below w.heap.size w wz) := Lib.hid HHE.out.below
      have e12 := (HS.out.below HB.out (Nat.le_refl _)).cell 12 (by omega)
      simp only [gnum, List.getD_cons_zero, List.getD_cons_succ] at e12
      go_wp2_with fail
      go_ret
      exact ⟨rfl, H.out.grow HB.out, Chg.of_below HB.out⟩
    · rw [hf] at HFT
      have hm : backErr (acc T k).c v = 0 := by unfold backErr; rw [if_pos hg, hx, hf]; rfl
      rw [hm]
      have hf2 : fitsV v (acc T k).c = true := by rw [hx]; exact hf
      have hS := h.solid.ch4 hg hf2
      have hT : uncharged T k v = chT T k (cA v) (fA v) := by unfold uncharged; rw [hm]; rfl
      rw [hT]
      have HSO := Lib.hid hS
      have hcan : CanA (acc T k) (cA v) (fA v) := canA h.solid hS goodZ hg goodZ hg goodZ goodZ (fitsZ (h.solid.goodF k)) hf2 (fitsZ (h.solid.goodH k))
      have HCH : Hid (∀ W, Sent s W → GrsAt W b T → Calls Tryd.prog 29 #[.map (some b), .agg #[.int .i64 k.a, .int .i64 k.b, .int .i64 k.c, .int .i64 k.d], .agg #[.int .i64 0, .int .i64 0, .int .i64 0, .int .i64 0, .int .i64 v.a, .int .i64 v.b, .int .i64 v.c, .int .i64 v.d, .int .i64 0, .int .i64 0, .int .i64 0, .int .i64 0], .agg #[.int .i64 v.a, .int .i64 v.b, .int .i64 v.c, .int .i64 v.d, .int .i64 0, .int .i64 0, .int .i64 0, .int .i64 0, .int .i64 0, .int .i64 0, .int .i64 0, .int .i64 0]] W fun e w' => e = .returned (.tuple #[]) ∧ GrsAt w' b (chT T k (cA v) (fA v)) ∧ Chg b b W w') := Lib.hid fun W hW hM => change_c s b T k (cA v) (fA v) W hW hM hk (by omega) hcan
      rw [errV_zero]
      clear h hs hsb hk hx hg hf hf2 hm hT hS hcan hn
      go_enter Tryd.func17, Tryd.ntmps17
      go_wp2_with fail
      have HB1 := Lib.hid HL.out.below
      refine (HCK.out _ HB1.out).mono ?_
      rintro e w1 ⟨rfl, hb1⟩
      rw [errV_zero]
      have hl1 := HL.out.on (hb1.mono (Nat.le_refl _))
      obtain ⟨X, hX⟩ : ∃ X, w.heap.size = X := ⟨_, rfl⟩
      rw [hX] at hl1 HFT ⊢
      have HX := Lib.hid hX
      have HL1 := Lib.hid hl1
      obtain ⟨c0, c1, c2, c3⟩ := hl1.key.cells
      obtain ⟨v0, v1, v2, v3⟩ := vb_cells hl1.vec
      clear hb1 hl1 hX HL HB1
      go_wp2_with fail
      clear c0 c1 c2 c3 v0 v1 v2 v3
      refine wp_region_held_drew (S := fun W => LkS w X q b T k v W) (by kernel_rfl) ?_ (fun hHeld => ?_)
      · exact HL1.out.drew
      refine rg_take 0 (some 14) _ (by kernel_rfl) (by kernel_rfl) (by kernel_rfl) (fun _ _ _ h => h) (by kernel_rfl) (by kernel_rfl) (by intro w' hSw op_ ho; have c0 := cell_of_heap hSw.book.box 0; obtain ⟨k0, k1, k2, k3⟩ := hSw.key.cells; obtain ⟨v0, v1, v2, v3⟩ := vb_cells hSw.vec; have hlk := hSw.lk HK.out HX2.out; have hf0 := field0A; have hf1 := field1A; have hf2 := field2A; clear hSw; simp only [List.getElem?_toArray, List.getElem?_cons_zero, Option.some.injEq] at ho; subst ho; go_simp; with_reducible rfl) (by assumption) ?_
      try simp only [Act.put, List.setIfInBounds_toArray, List.set_cons_zero, List.set_cons_succ]
      refine rg_take 1 (some 15) _ (by kernel_rfl) (by kernel_rfl) (by kernel_rfl) (fun _ _ _ h => h) (by kernel_rfl) (by kernel_rfl) (by intro w' hSw op_ ho; have c0 := cell_of_heap hSw.book.box 0; obtain ⟨k0, k1, k2, k3⟩ := hSw.key.cells; obtain ⟨v0, v1, v2, v3⟩ := vb_cells hSw.vec; have hlk := hSw.lk HK.out HX2.out; have hf0 := field0A; have hf1 := field1A; have hf2 := field2A; clear hSw; simp only [List.getElem?_toArray, List.getElem?_cons_succ, List.getElem?_cons_zero, Option.some.injEq] at ho; subst ho; go_simp; with_reducible rfl) (by assumption) ?_
      try simp only [Act.put, List.setIfInBounds_toArray, List.set_cons_zero, List.set_cons_succ]
      refine rg_take 2 (some 16) _ (by kernel_rfl) (by kernel_rfl) (by kernel_rfl) (fun _ _ _ h => h) (by kernel_rfl) (by kernel_rfl) (by intro w' hSw op_ ho; have c0 := cell_of_heap hSw.book.box 0; obtain ⟨k0, k1, k2, k3⟩ := hSw.key.cells; obtain ⟨v0, v1, v2, v3⟩ := vb_cells hSw.vec; have hlk := hSw.lk HK.out HX2.out; have hf0 := field0A; have hf1 := field1A; have hf2 := field2A; clear hSw; simp only [List.getElem?_toArray, List.getElem?_cons_succ, List.getElem?_cons_zero, Option.some.injEq] at ho; subst ho; go_simp; with_reducible rfl) (by assumption) ?_
      try simp only [Act.put, List.setIfInBounds_toArray, List.set_cons_zero, List.set_cons_succ]
      refine rg_take 3 (some 17) _ (by kernel_rfl) (by kernel_rfl) (by kernel_rfl) (fun _ _ _ h => h) (by kernel_rfl) (by kernel_rfl) (by intro w' hSw op_ ho; have c0 := cell_of_heap hSw.book.box 0; obtain ⟨k0, k1, k2, k3⟩ := hSw.key.cells; obtain ⟨v0, v1, v2, v3⟩ := vb_cells hSw.vec; have hlk := hSw.lk HK.out HX2.out; have hf0 := field0A; have hf1 := field1A; have hf2 := field2A; clear hSw; simp only [List.getElem?_toArray, List.getElem?_cons_succ, List.getElem?_cons_zero, Option.some.injEq] at ho; subst ho; go_simp; with_reducible rfl) (by assumption) ?_
      try simp only [Act.put, List.setIfInBounds_toArray, List.set_cons_zero, List.set_cons_succ]
      refine rg_take 4 (some 18) _ (by kernel_rfl) (by kernel_rfl) (by kernel_rfl) (fun _ _ _ h => h) (by kernel_rfl) (by kernel_rfl) (by intro w' hSw op_ ho; have c0 := cell_of_heap hSw.book.box 0; obtain ⟨k0, k1, k2, k3⟩ := hSw.key.cells; obtain ⟨v0, v1, v2, v3⟩ := vb_cells hSw.vec; have hlk := hSw.lk HK.out HX2.out; have hf0 := field0A; have hf1 := field1A; have hf2 := field2A; clear hSw; simp only [List.getElem?_toArray, List.getElem?_cons_succ, List.getElem?_cons_zero, Option.some.injEq] at ho; subst ho; go_simp; with_reducible rfl) (by assumption) ?_
      try simp only [Act.put, List.setIfInBounds_toArray, List.set_cons_zero, List.set_cons_succ]
      refine rg_take 5 (some 19) _ (by kernel_rfl) (by kernel_rfl) (by kernel_rfl) (fun _ _ _ h => h) (by kernel_rfl) (by kernel_rfl) (by intro w' hSw op_ ho; have c0 := cell_of_heap hSw.book.box 0; obtain ⟨k0, k1, k2, k3⟩ := hSw.key.cells; obtain ⟨v0, v1, v2, v3⟩ := vb_cells hSw.vec; have hlk := hSw.lk HK.out HX2.out; have hf0 := field0A; have hf1 := field1A; have hf2 := field2A; clear hSw; simp only [List.getElem?_toArray, List.getElem?_cons_succ, List.getElem?_cons_zero, Option.some.injEq] at ho; subst ho; go_simp; with_reducible rfl) (by assumption) ?_
      try simp only [Act.put, List.setIfInBounds_toArray, List.set_cons_zero, List.set_cons_succ]
      refine rg_take 6 (some 20) _ (by kernel_rfl) (by kernel_rfl) (by kernel_rfl) (fun _ _ _ h => h) (by kernel_rfl) (by kernel_rfl) (by intro w' hSw op_ ho; have c0 := cell_of_heap hSw.book.box 0; obtain ⟨k0, k1, k2, k3⟩ := hSw.key.cells; obtain ⟨v0, v1, v2, v3⟩ := vb_cells hSw.vec; have hlk := hSw.lk HK.out HX2.out; have hf0 := field0A; have hf1 := field1A; have hf2 := field2A; clear hSw; simp only [List.getElem?_toArray, List.getElem?_cons_succ, List.getElem?_cons_zero, Option.some.injEq] at ho; subst ho; go_simp; with_reducible rfl) (by assumption) ?_
      try simp only [Act.put, List.setIfInBounds_toArray, List.set_cons_zero, List.set_cons_succ]
      refine rg_take 7 (some 21) _ (by kernel_rfl) (by kernel_rfl) (by kernel_rfl) (fun _ _ _ h => h) (by kernel_rfl) (by kernel_rfl) (by intro w' hSw op_ ho; have c0 := cell_of_heap hSw.book.box 0; obtain ⟨k0, k1, k2, k3⟩ := hSw.key.cells; obtain ⟨v0, v1, v2, v3⟩ := vb_cells hSw.vec; have hlk := hSw.lk HK.out HX2.out; have hf0 := field0A; have hf1 := field1A; have hf2 := field2A; clear hSw; simp only [List.getElem?_toArray, List.getElem?_cons_succ, List.getElem?_cons_zero, Option.some.injEq] at ho; subst ho; go_simp; with_reducible rfl) (by assumption) ?_
      try simp only [Act.put, List.setIfInBounds_toArray, List.set_cons_zero, List.set_cons_succ]
      refine rg_one 8 (by kernel_rfl) (by kernel_rfl) (fun op_ ho K hK => ?_)
      simp only [List.getElem?_toArray, List.getElem?_cons_succ, List.getElem?_cons_zero, Option.some.injEq] at ho
      subst ho
      go_simp
      go_at_call 32
      refine (HFT.out _ (by assumption)).mono ?_
      rintro e wz ⟨rfl, rz⟩
      go_wp2_with fail
      refine hK.out _ _ (by assumption) (fun hHeld => ?_)
      clear hK
      try simp only [Act.put, List.setIfInBounds_toArray, List.set_cons_zero, List.set_cons_succ]
      refine rg_take 9 (some 23) _ (by kernel_rfl) (by kernel_rfl) (by kernel_rfl) (fun _ _ _ h => h) (by kernel_rfl) (by kernel_rfl) (by intro w' hSw op_ ho; have c0 := cell_of_heap hSw.book.box 0; obtain ⟨k0, k1, k2, k3⟩ := hSw.key.cells; obtain ⟨v0, v1, v2, v3⟩ := vb_cells hSw.vec; have hlk := hSw.lk HK.out HX2.out; have hf0 := field0A; have hf1 := field1A; have hf2 := field2A; clear hSw; simp only [List.getElem?_toArray, List.getElem?_cons_succ, List.getElem?_cons_zero, Option.some.injEq] at ho; subst ho; go_simp; with_reducible rfl) (by assumption) ?_
      try simp only [Act.put, List.setIfInBounds_toArray, List.set_cons_zero, List.set_cons_succ]
      refine wpAnyH_done (by kernel_rfl) ?_ _
      have HHE := Lib.hid hHeld
      clear hHeld
      have HBX : Hid (b < X) := Lib.hid (by rw [← HX.out]; exact H.out.map.lt)
      have HSD : Hid (Sent s wz.drew) := Lib.hid (HS.out.below (HHE.out.below.drew) (Nat.le_refl _))
      have HMD : Hid (GrsAt wz.drew b T) := Lib.hid (HHE.out.book.map.on (Below.drew (Below.refl _ _)) (Nat.le_refl _))
      have HKD : Hid (Chg b b w wz.drew) := Lib.hid (Chg.of_below HHE.out.below).drew
      have HBD : Hid (BookAt wz.drew q b T) := Lib.hid (HHE.out.book.on (Below.drew (Below.refl _ _)) (Nat.le_refl _))
      obtain ⟨c0, c1, c2, c3⟩ := HHE.out.key.cells
      obtain ⟨v0, v1, v2, v3⟩ := vb_cells HHE.out.vec
      go_wp2_with fail
      clear c0 c1 c2 c3 v0 v1 v2 v3
      refine wp_region_held_drew (S := fun W => CgS q b X k v W) (by kernel_rfl) ?_ (fun hHeld => ?_)
      · exact (HHE.out.cg HBX.out).drew
      refine rg_take 0 (some 25) _ (by kernel_rfl) (by kernel_rfl) (by kernel_rfl) (fun _ _ _ h => h) (by kernel_rfl) (by kernel_rfl) (by intro w' hSw op_ ho; have c0 := cell_of_heap hSw.box 0; obtain ⟨k0, k1, k2, k3⟩ := hSw.key.cells; obtain ⟨v0, v1, v2, v3⟩ := vb_cells hSw.vec; clear hSw; simp only [List.getElem?_toArray, List.getElem?_cons_zero, Option.some.injEq] at ho; subst ho; go_simp; with_reducible rfl) (by assumption) ?_
      try simp only [Act.put, List.setIfInBounds_toArray, List.set_cons_zero, List.set_cons_succ]
      refine rg_take 1 (some 26) _ (by kernel_rfl) (by kernel_rfl) (by kernel_rfl) (fun _ _ _ h => h) (by kernel_rfl) (by kernel_rfl) (by intro w' hSw op_ ho; have c0 := cell_of_heap hSw.box 0; obtain ⟨k0, k1, k2, k3⟩ := hSw.key.cells; obtain ⟨v0, v1, v2, v3⟩ := vb_cells hSw.vec; clear hSw; simp only [List.getElem?_toArray, List.getElem?_cons_succ, List.getElem?_cons_zero, Option.some.injEq] at ho; subst ho; go_simp; with_reducible rfl) (by assumption) ?_
      try simp only [Act.put, List.setIfInBounds_toArray, List.set_cons_zero, List.set_cons_succ]
      refine rg_take 2 (some 27) _ (by kernel_rfl) (by kernel_rfl) (by kernel_rfl) (fun _ _ _ h => h) (by kernel_rfl) (by kernel_rfl) (by intro w' hSw op_ ho; have c0 := cell_of_heap hSw.box 0; obtain ⟨k0, k1, k2, k3⟩ := hSw.key.cells; obtain ⟨v0, v1, v2, v3⟩ := vb_cells hSw.vec; clear hSw; simp only [List.getElem?_toArray, List.getElem?_cons_succ, List.getElem?_cons_zero, Option.some.injEq] at ho; subst ho; go_simp; with_reducible rfl) (by assumption) ?_
      try simp only [Act.put, List.setIfInBounds_toArray, List.set_cons_zero, List.set_cons_succ]
      refine rg_take 3 (some 28) _ (by kernel_rfl) (by kernel_rfl) (by kernel_rfl) (fun _ _ _ h => h) (by kernel_rfl) (by kernel_rfl) (by intro w' hSw op_ ho; have c0 := cell_of_heap hSw.box 0; obtain ⟨k0, k1, k2, k3⟩ := hSw.key.cells; obtain ⟨v0, v1, v2, v3⟩ := vb_cells hSw.vec; clear hSw; simp only [List.getElem?_toArray, List.getElem?_cons_succ, List.getElem?_cons_zero, Option.some.injEq] at ho; subst ho; go_simp; with_reducible rfl) (by assumption) ?_
      try simp only [Act.put, List.setIfInBounds_toArray, List.set_cons_zero, List.set_cons_succ]
      refine rg_take 4 (some 29) _ (by kernel_rfl) (by kernel_rfl) (by kernel_rfl) (fun _ _ _ h => h) (by kernel_rfl) (by kernel_rfl) (by intro w' hSw op_ ho; have c0 := cell_of_heap hSw.box 0; obtain ⟨k0, k1, k2, k3⟩ := hSw.key.cells; obtain ⟨v0, v1, v2, v3⟩ := vb_cells hSw.vec; clear hSw; simp only [List.getElem?_toArray, List.getElem?_cons_succ, List.getElem?_cons_zero, Option.some.injEq] at ho; subst ho; go_simp; with_reducible rfl) (by assumption) ?_
      try simp only [Act.put, List.setIfInBounds_toArray, List.set_cons_zero, List.set_cons_succ]
      refine rg_take 5 (some 30) _ (by kernel_rfl) (by kernel_rfl) (by kernel_rfl) (fun _ _ _ h => h) (by kernel_rfl) (by kernel_rfl) (by intro w' hSw op_ ho; have c0 := cell_of_heap hSw.box 0; obtain ⟨k0, k1, k2, k3⟩ := hSw.key.cells; obtain ⟨v0, v1, v2, v3⟩ := vb_cells hSw.vec; clear hSw; simp only [List.getElem?_toArray, List.getElem?_cons_succ, List.getElem?_cons_zero, Option.some.injEq] at ho; subst ho; go_simp; with_reducible rfl) (by assumption) ?_
      try simp only [Act.put, List.setIfInBounds_toArray, List.set_cons_zero, List.set_cons_succ]
      refine rg_take 6 (some 31) _ (by kernel_rfl) (by kernel_rfl) (by kernel_rfl) (fun _ _ _ h => h) (by kernel_rfl) (by kernel_rfl) (by intro w' hSw op_ ho; have c0 := cell_of_heap hSw.box 0; obtain ⟨k0, k1, k2, k3⟩ := hSw.key.cells; obtain ⟨v0, v1, v2, v3⟩ := vb_cells hSw.vec; clear hSw; simp only [List.getElem?_toArray, List.getElem?_cons_succ, List.getElem?_cons_zero, Option.some.injEq] at ho; subst ho; go_simp; with_reducible rfl) (by assumption) ?_
      try simp only [Act.put, List.setIfInBounds_toArray, List.set_cons_zero, List.set_cons_succ]
      refine rg_take 7 (some 32) _ (by kernel_rfl) (by kernel_rfl) (by kernel_rfl) (fun _ _ _ h => h) (by kernel_rfl) (by kernel_rfl) (by intro w' hSw op_ ho; have c0 := cell_of_heap hSw.box 0; obtain ⟨k0, k1, k2, k3⟩ := hSw.key.cells; obtain ⟨v0, v1, v2, v3⟩ := vb_cells hSw.vec; clear hSw; simp only [List.getElem?_toArray, List.getElem?_cons_succ, List.getElem?_cons_zero, Option.some.injEq] at ho; subst ho; go_simp; with_reducible rfl) (by assumption) ?_
      try simp only [Act.put, List.setIfInBounds_toArray, List.set_cons_zero, List.set_cons_succ]
      refine rg_take 8 (some 33) _ (by kernel_rfl) (by kernel_rfl) (by kernel_rfl) (fun _ _ _ h => h) (by kernel_rfl) (by kernel_rfl) (by intro w' hSw op_ ho; have c0 := cell_of_heap hSw.box 0; obtain ⟨k0, k1, k2, k3⟩ := hSw.key.cells; obtain ⟨v0, v1, v2, v3⟩ := vb_cells hSw.vec; clear hSw; simp only [List.getElem?_toArray, List.getElem?_cons_succ, List.getElem?_cons_zero, Option.some.injEq] at ho; subst ho; go_simp; with_reducible rfl) (by assumption) ?_
      try simp only [Act.put, List.setIfInBounds_toArray, List.set_cons_zero, List.set_cons_succ]
      refine rg_one 9 (by kernel_rfl) (by kernel_rfl) (fun op_ ho K hK => ?_)
      simp only [List.getElem?_toArray, List.getElem?_cons_succ, List.getElem?_cons_zero, Option.some.injEq] at ho
      subst ho
      go_simp
      go_at_call 29
      refine (HCH.out _ HSD.out HMD.out).mono ?_
      rintro e w2 ⟨rfl, mm, kk⟩
      have HM2 := Lib.hid mm
      have HK2 := Lib.hid kk
      clear mm kk
      go_wp2_with fail
      refine hK.out _ _ (CgS.chg hHeld HK2.out) (fun hHeld => ?_)
      clear hK
      try simp only [Act.put, List.setIfInBounds_toArray, List.set_cons_zero, List.set_cons_succ]
      refine wpAnyH_done (by kernel_rfl) ?_ _
      have HHEw2 := Lib.hid hHeld
      clear hHeld
      go_wp2_with fail
      go_ret
      exact ⟨rfl, HBD.out.step HK2.out HM2.out HSO.out, HKD.out.trans HK2.out (.inl rfl)⟩
  · have hm : backErr (acc T k).c v = 1 := by unfold backErr; rw [if_neg hg]
    have HT : Hid (uncharged T k v = T) := Lib.hid (by unfold uncharged; rw [hm]; rfl)
    rw [if_neg hg, errV_one] at HCK
    rw [hm, HT.out]
    clear h hs hsb hk hx hg hm hn HFT
    go_enter Tryd.func17, Tryd.ntmps17
    go_wp2_with fail
    have HB1 := Lib.hid HL.out.below
    refine (HCK.out _ HB1.out).mono ?_
    rintro e w1 ⟨rfl, hb1⟩
    have HB : Hid (Below w.heap.size w w1) := Lib.hid (HB1.out.trans (hb1.mono HB1.out.size))
    clear hb1
    go_wp2_with fail
    go_ret
    exact ⟨rfl, H.out.grow HB.out, Chg.of_below HB.out⟩
set_option maxRecDepth 100000 in
set_option maxHeartbeats 3200000 in
/-- Book.Pass. -/
theorem pass_c (s : Nat → Addr) (q b : Nat) (T : Grs) (k : V4) (t : Int) (v : V4) (w : World) (hs : Sent s w) (hsb : NotSent s b) (h : BookAt w q b T) (hk : okV k) (ht : i64 t) (hn : T.length + 1 < 1000000) :
    Calls Tryd.prog 18 #[.pointer (some ⟨q, 0, none⟩), .agg #[.int .i64 k.a, .int .i64 k.b, .int .i64 k.c, .int .i64 k.d], .int .i64 t, .agg #[.int .i64 v.a, .int .i64 v.b, .int .i64 v.c, .int .i64 v.d]] w fun e w' => e = .returned (errV s (backErr (acc T k).h v)) ∧ BookAt w' q b (passed T k t v) ∧ Chg b b w w' := by
  have H := Lib.hid h; have HS := Lib.hid hs; have HSB := Lib.hid hsb; have HK := Lib.hid hk
  have HL := Lib.hid (LkS.made w k v h)
  have HCK := Lib.hid (fun (W : World) (hW : Below w.heap.size w W) => check_c s q v W (hs.below hW (Nat.le_refl _)))
  obtain ⟨x, hx⟩ : ∃ x, acc T k = x := ⟨_, rfl⟩
  have HX2 := Lib.hid hx
  have HFT : Hid (∀ W, LkS w w.heap.size q b T k v W → Calls Tryd.prog 32 #[.agg #[.int .i64 v.a, .int .i64 v.b, .int .i64 v.c, .int .i64 v.d], .agg #[.int .i64 (x.h).a, .int .i64 (x.h).b, .int .i64 (x.h).c, .int .i64 (x.h).d]] W fun e w' => e = .returned (.bool (fitsV v x.h)) ∧ LkS w w.heap.size q b T k v w') := Lib.hid fun W hW => (fits_c v x.h W).mono fun _ _ p => ⟨p.1, hW.on p.2⟩
  by_cases hg : goodV v = true
  · rw [if_pos hg] at HCK
    cases hf : fitsV v x.h
    · rw [hf] at HFT
      have hm : backErr (acc T k).h v = 13 := by unfold backErr; rw [if_pos hg, hx, hf]; rfl
      have HT : Hid (passed T k t v = T) := Lib.hid (by unfold passed; rw [hm]; rfl)
      rw [hm, HT.out]
      clear h hs hsb hk hx hg hf hm hn ht
      go_enter Tryd.func18, Tryd.ntmps18
      go_wp2_with fail
      have HB1 := Lib.hid HL.out.below
      refine (HCK.out _ HB1.out).mono ?_
      rintro e w1 ⟨rfl, hb1⟩
      rw [errV_zero]
      have hl1 := HL.out.on (hb1.mono (Nat.le_refl _))
      obtain ⟨X, hX⟩ : ∃ X, w.heap.size = X := ⟨_, rfl⟩
      rw [hX] at hl1 HFT ⊢
      have HX := Lib.hid hX
      have HL1 := Lib.hid hl1
      obtain ⟨c0, c1, c2, c3⟩ := hl1.key.cells
      obtain ⟨v0, v1, v2, v3⟩ := vb_cells hl1.vec
      clear hb1 hl1 hX HL HB1
      go_wp2_with fail
      clear c0 c1 c2 c3 v0 v1 v2 v3
      refine wp_region_held_drew (S := fun W => LkS w X q b T k v W) (by kernel_rfl) ?_ (fun hHeld => ?_)
      · exact HL1.out.drew
      refine rg_take 0 (some 16) _ (by kernel_rfl) (by kernel_rfl) (by kernel_rfl) (fun _ _ _ h => h) (by kernel_rfl) (by kernel_rfl) (by intro w' hSw op_ ho; have c0 := cell_of_heap hSw.book.box 0; obtain ⟨k0, k1, k2, k3⟩ := hSw.key.cells; obtain ⟨v0, v1, v2, v3⟩ := vb_cells hSw.vec; have hlk := hSw.lk HK.out HX2.out; have hf0 := field0A; have hf1 := field1A; have hf2 := field2A; clear hSw; simp only [List.getElem?_toArray, List.getElem?_cons_zero, Option.some.injEq] at ho; subst ho; go_simp; with_reducible rfl) (by assumption) ?_
      try simp only [Act.put, List.setIfInBounds_toArray, List.set_cons_zero, List.set_cons_succ]
      refine rg_take 1 (some 17) _ (by kernel_rfl) (by kernel_rfl) (by kernel_rfl) (fun _ _ _ h => h) (by kernel_rfl) (by kernel_rfl) (by intro w' hSw op_ ho; have c0 := cell_of_heap hSw.book.box 0; obtain ⟨k0, k1, k2, k3⟩ := hSw.key.cells; obtain ⟨v0, v1, v2, v3⟩ := vb_cells hSw.vec; have hlk := hSw.lk HK.out HX2.out; have hf0 := field0A; have hf1 := field1A; have hf2 := field2A; clear hSw; simp only [List.getElem?_toArray, List.getElem?_cons_succ, List.getElem?_cons_zero, Option.some.injEq] at ho; subst ho; go_simp; with_reducible rfl) (by assumption) ?_
      try simp only [Act.put, List.setIfInBounds_toArray, List.set_cons_zero, List.set_cons_succ]
      refine rg_take 2 (some 18) _ (by kernel_rfl) (by kernel_rfl) (by kernel_rfl) (fun _ _ _ h => h) (by kernel_rfl) (by kernel_rfl) (by intro w' hSw op_ ho; have c0 := cell_of_heap hSw.book.box 0; obtain ⟨k0, k1, k2, k3⟩ := hSw.key.cells; obtain ⟨v0, v1, v2, v3⟩ := vb_cells hSw.vec; have hlk := hSw.lk HK.out HX2.out; have hf0 := field0A; have hf1 := field1A; have hf2 := field2A; clear hSw; simp only [List.getElem?_toArray, List.getElem?_cons_succ, List.getElem?_cons_zero, Option.some.injEq] at ho; subst ho; go_simp; with_reducible rfl) (by assumption) ?_
      try simp only [Act.put, List.setIfInBounds_toArray, List.set_cons_zero, List.set_cons_succ]
      refine rg_take 3 (some 19) _ (by kernel_rfl) (by kernel_rfl) (by kernel_rfl) (fun _ _ _ h => h) (by kernel_rfl) (by kernel_rfl) (by intro w' hSw op_ ho; have c0 := cell_of_heap hSw.book.box 0; obtain ⟨k0, k1, k2, k3⟩ := hSw.key.cells; obtain ⟨v0, v1, v2, v3⟩ := vb_cells hSw.vec; have hlk := hSw.lk HK.out HX2.out; have hf0 := field0A; have hf1 := field1A; have hf2 := field2A; clear hSw; simp only [List.getElem?_toArray, List.getElem?_cons_succ, List.getElem?_cons_zero, Option.some.injEq] at ho; subst ho; go_simp; with_reducible rfl) (by assumption) ?_
      try simp only [Act.put, List.setIfInBounds_toArray, List.set_cons_zero, List.set_cons_succ]
      refine rg_take 4 (some 20) _ (by kernel_rfl) (by kernel_rfl) (by kernel_rfl) (fun _ _ _ h => h) (by kernel_rfl) (by kernel_rfl) (by intro w' hSw op_ ho; have c0 := cell_of_heap hSw.book.box 0; obtain ⟨k0, k1, k2, k3⟩ := hSw.key.cells; obtain ⟨v0, v1, v2, v3⟩ := vb_cells hSw.vec; have hlk := hSw.lk HK.out HX2.out; have hf0 := field0A; have hf1 := field1A; have hf2 := field2A; clear hSw; simp only [List.getElem?_toArray, List.getElem?_cons_succ, List.getElem?_cons_zero, Option.some.injEq] at ho; subst ho; go_simp; with_reducible rfl) (by assumption) ?_
      try simp only [Act.put, List.setIfInBounds_toArray, List.set_cons_zero, List.set_cons_succ]
      refine rg_take 5 (some 21) _ (by kernel_rfl) (by kernel_rfl) (by kernel_rfl) (fun _ _ _ h => h) (by kernel_rfl) (by kernel_rfl) (by intro w' hSw op_ ho; have c0 := cell_of_heap hSw.book.box 0; obtain ⟨k0, k1, k2, k3⟩ := hSw.key.cells; obtain ⟨v0, v1, v2, v3⟩ := vb_cells hSw.vec; have hlk := hSw.lk HK.out HX2.out; have hf0 := field0A; have hf1 := field1A; have hf2 := field2A; clear hSw; simp only [List.getElem?_toArray, List.getElem?_cons_succ, List.getElem?_cons_zero, Option.some.injEq] at ho; subst ho; go_simp; with_reducible rfl) (by assumption) ?_
      try simp only [Act.put, List.setIfInBounds_toArray, List.set_cons_zero, List.set_cons_succ]
      refine rg_take 6 (some 22) _ (by kernel_rfl) (by kernel_rfl) (by kernel_rfl) (fun _ _ _ h => h) (by kernel_rfl) (by kernel_rfl) (by intro w' hSw op_ ho; have c0 := cell_of_heap hSw.book.box 0; obtain ⟨k0, k1, k2, k3⟩ := hSw.key.cells; obtain ⟨v0, v1, v2, v3⟩ := vb_cells hSw.vec; have hlk := hSw.lk HK.out HX2.out; have hf0 := field0A; have hf1 := field1A; have hf2 := field2A; clear hSw; simp only [List.getElem?_toArray, List.getElem?_cons_succ, List.getElem?_cons_zero, Option.some.injEq] at ho; subst ho; go_simp; with_reducible rfl) (by assumption) ?_
      try simp only [Act.put, List.setIfInBounds_toArray, List.set_cons_zero, List.set_cons_succ]
      refine rg_take 7 (some 23) _ (by kernel_rfl) (by kernel_rfl) (by kernel_rfl) (fun _ _ _ h => h) (by kernel_rfl) (by kernel_rfl) (by intro w' hSw op_ ho; have c0 := cell_of_heap hSw.book.box 0; obtain ⟨k0, k1, k2, k3⟩ := hSw.key.cells; obtain ⟨v0, v1, v2, v3⟩ := vb_cells hSw.vec; have hlk := hSw.lk HK.out HX2.out; have hf0 := field0A; have hf1 := field1A; have hf2 := field2A; clear hSw; simp only [List.getElem?_toArray, List.getElem?_cons_succ, List.getElem?_cons_zero, Option.some.injEq] at ho; subst ho; go_simp; with_reducible rfl) (by assumption) ?_
      try simp only [Act.put, List.setIfInBounds_toArray, List.set_cons_zero, List.set_cons_succ]
      refine rg_one 8 (by kernel_rfl) (by kernel_rfl) (fun op_ ho K hK => ?_)
      simp only [List.getElem?_toArray, List.getElem?_cons_succ, List.getElem?_cons_zero, Option.some.injEq] at ho
      subst ho
      go_simp
      go_at_call 32
      refine (HFT.out _ (by assumption)).mono ?_
      rintro e wz ⟨rfl, rz⟩
      go_wp2_with fail
      refine hK.out _ _ (by assumption) (fun hHeld => ?_)
      clear hK
      try simp only [Act.put, List.setIfInBounds_toArray, List.set_cons_zero, List.set_cons_succ]
      refine rg_take 9 (some 25) _ (by kernel_rfl) (by kernel_rfl) (by kernel_rfl) (fun _ _ _ h => h) (by kernel_rfl) (by kernel_rfl) (by intro w' hSw op_ ho; have c0 := cell_of_heap hSw.book.box 0; obtain ⟨k0, k1, k2, k3⟩ := hSw.key.cells; obtain ⟨v0, v1, v2, v3⟩ := vb_cells hSw.vec; have hlk := hSw.lk HK.out HX2.out; have hf0 := field0A; have hf1 := field1A; have hf2 := field2A; clear hSw; simp only [List.getElem?_toArray, List.getElem?_cons_succ, List.getElem?_cons_zero, Option.some.injEq] at ho; subst ho; go_simp; with_reducible rfl) (by assumption) ?_
      try simp only [Act.put, List.setIfInBounds_toArray, List.set_cons_zero, List.set_cons_succ]
      refine wpAnyH_done (by kernel_rfl) ?_ _
      have HHE := Lib.hid hHeld
      clear hHeld
      have HB : Hid (Below w.heap.size w wz) := Lib.hid HHE.out.below
      have e12 := (HS.out.below HB.out (Nat.le_refl _)).cell 12 (by omega)
      simp only [gnum, List.getD_cons_zero, List.getD_cons_succ] at e12
      go_wp2_with fail
      go_ret
      exact ⟨rfl, H.out.grow HB.out, Chg.of_below HB.out⟩
    · rw [hf] at HFT
      have hm : backErr (acc T k).h v = 0 := by unfold backErr; rw [if_pos hg, hx, hf]; rfl
      rw [hm]
      have hf2 : fitsV v (acc T k).h = true := by rw [hx]; exact hf
      have hS := h.solid.ch6 hg hf2
      have hS2 := hS.ch1 hg (h.solid.ch7 t hg (fun r => allOf_hA r v) hS)
      have hT : passed T k t v = chT (chT T k (hA v) zA) (atT k t) zA (fA v) := by unfold passed; rw [hm]; rfl
      rw [hT]
      have HSO := Lib.hid hS
      have hcan : CanA (acc T k) (hA v) zA := canA h.solid hS goodZ goodZ hg goodZ goodZ goodZ (fitsZ (h.solid.goodF k)) (fitsZ (h.solid.goodC k)) hf2
      have HCH : Hid (∀ W, Sent s W → GrsAt W b T → Calls Tryd.prog 29 #[.map (some b), .agg #[.int .i64 k.a, .int .i64 k.b, .int .i64 k.c, .int .i64 k.d], .agg #[.int .i64 0, .int .i64 0, .int .i64 0, .int .i64 0, .int .i64 0, .int .i64 0, .int .i64 0, .int .i64 0, .int .i64 v.a, .int .i64 v.b, .int .i64 v.c, .int .i64 v.d], .agg #[.int .i64 0, .int .i64 0, .int .i64 0, .int .i64 0, .int .i64 0, .int .i64 0, .int .i64 0, .int .i64 0, .int .i64 0, .int .i64 0, .int .i64 0, .int .i64 0]] W fun e w' => e = .returned (.tuple #[]) ∧ GrsAt w' b (chT T k (hA v) zA) ∧ Chg b b W w') := Lib.hid fun W hW hM => change_c s b T k (hA v) zA W hW hM hk (by omega) hcan
      have HSO2 := Lib.hid hS2
      have hlen := chT_len T k (hA v) zA
      have hcan2 : CanA (acc (chT T k (hA v) zA) (atT k t)) zA (fA v) := canA hS hS2 goodZ goodZ goodZ hg goodZ goodZ (fitsZ (hS.goodF (atT k t))) (fitsZ (hS.goodC (atT k t))) (fitsZ (hS.goodH (atT k t)))
      have HCI : Hid (∀ W, Sent s W → GrsAt W b (chT T k (hA v) zA) → Calls Tryd.prog 29 #[.map (some b), .agg #[.int .i64 t, .int .i64 k.b, .int .i64 k.c, .int .i64 k.d], .agg #[.int .i64 0, .int .i64 0, .int .i64 0, .int .i64 0, .int .i64 0, .int .i64 0, .int .i64 0, .int .i64 0, .int .i64 0, .int .i64 0, .int .i64 0, .int .i64 0], .agg #[.int .i64 v.a, .int .i64 v.b, .int .i64 v.c, .int .i64 v.d, .int .i64 0, .int .i64 0, .int .i64 0, .int .i64 0, .int .i64 0, .int .i64 0, .int .i64 0, .int .i64 0]] W fun e w' => e = .returned (.tuple #[]) ∧ GrsAt w' b (chT (chT T k (hA v) zA) (atT k t) zA (fA v)) ∧ Chg b b W w') := Lib.hid fun W hW hM => change_c s b (chT T k (hA v) zA) (atT k t) zA (fA v) W hW hM (show okV (atT k t) from ⟨ht, hk.2.1, hk.2.2.1, hk.2.2.2⟩) (by omega) hcan2
      rw [errV_zero]
      clear h hs hsb hk hx hg hf hf2 hm hT hS hcan hn hS2 hlen hcan2 ht
      go_enter Tryd.func18, Tryd.ntmps18
      go_wp2_with fail
      have HB1 := Lib.hid HL.out.below
      refine (HCK.out _ HB1.out).mono ?_
      rintro e w1 ⟨rfl, hb1⟩
      rw [errV_zero]
      have hl1 := HL.out.on (hb1.mono (Nat.le_refl _))
      obtain ⟨X, hX⟩ : ∃ X, w.heap.size = X := ⟨_, rfl⟩
      rw [hX] at hl1 HFT ⊢
      have HX := Lib.hid hX
      have HL1 := Lib.hid hl1
      obtain ⟨c0, c1, c2, c3⟩ := hl1.key.cells
      obtain ⟨v0, v1, v2, v3⟩ := vb_cells hl1.vec
      clear hb1 hl1 hX HL HB1
      go_wp2_with fail
      clear c0 c1 c2 c3 v0 v1 v2 v3
      refine wp_region_held_drew (S := fun W => LkS w X q b T k v W) (by kernel_rfl) ?_ (fun hHeld => ?_)
      · exact HL1.out.drew
      refine rg_take 0 (some 16) _ (by kernel_rfl) (by kernel_rfl) (by kernel_rfl) (fun _ _ _ h => h) (by kernel_rfl) (by kernel_rfl) (by intro w' hSw op_ ho; have c0 := cell_of_heap hSw.book.box 0; obtain ⟨k0, k1, k2, k3⟩ := hSw.key.cells; obtain ⟨v0, v1, v2, v3⟩ := vb_cells hSw.vec; have hlk := hSw.lk HK.out HX2.out; have hf0 := field0A; have hf1 := field1A; have hf2 := field2A; clear hSw; simp only [List.getElem?_toArray, List.getElem?_cons_zero, Option.some.injEq] at ho; subst ho; go_simp; with_reducible rfl) (by assumption) ?_
      try simp only [Act.put, List.setIfInBounds_toArray, List.set_cons_zero, List.set_cons_succ]
      refine rg_take 1 (some 17) _ (by kernel_rfl) (by kernel_rfl) (by kernel_rfl) (fun _ _ _ h => h) (by kernel_rfl) (by kernel_rfl) (by intro w' hSw op_ ho; have c0 := cell_of_heap hSw.book.box 0; obtain ⟨k0, k1, k2, k3⟩ := hSw.key.cells; obtain ⟨v0, v1, v2, v3⟩ := vb_cells hSw.vec; have hlk := hSw.lk HK.out HX2.out; have hf0 := field0A; have hf1 := field1A; have hf2 := field2A; clear hSw; simp only [List.getElem?_toArray, List.getElem?_cons_succ, List.getElem?_cons_zero, Option.some.injEq] at ho; subst ho; go_simp; with_reducible rfl) (by assumption) ?_
      try simp only [Act.put, List.setIfInBounds_toArray, List.set_cons_zero, List.set_cons_succ]
      refine rg_take 2 (some 18) _ (by kernel_rfl) (by kernel_rfl) (by kernel_rfl) (fun _ _ _ h => h) (by kernel_rfl) (by kernel_rfl) (by intro w' hSw op_ ho; have c0 := cell_of_heap hSw.book.box 0; obtain ⟨k0, k1, k2, k3⟩ := hSw.key.cells; obtain ⟨v0, v1, v2, v3⟩ := vb_cells hSw.vec; have hlk := hSw.lk HK.out HX2.out; have hf0 := field0A; have hf1 := field1A; have hf2 := field2A; clear hSw; simp only [List.getElem?_toArray, List.getElem?_cons_succ, List.getElem?_cons_zero, Option.some.injEq] at ho; subst ho; go_simp; with_reducible rfl) (by assumption) ?_
      try simp only [Act.put, List.setIfInBounds_toArray, List.set_cons_zero, List.set_cons_succ]
      refine rg_take 3 (some 19) _ (by kernel_rfl) (by kernel_rfl) (by kernel_rfl) (fun _ _ _ h => h) (by kernel_rfl) (by kernel_rfl) (by intro w' hSw op_ ho; have c0 := cell_of_heap hSw.book.box 0; obtain ⟨k0, k1, k2, k3⟩ := hSw.key.cells; obtain ⟨v0, v1, v2, v3⟩ := vb_cells hSw.vec; have hlk := hSw.lk HK.out HX2.out; have hf0 := field0A; have hf1 := field1A; have hf2 := field2A; clear hSw; simp only [List.getElem?_toArray, List.getElem?_cons_succ, List.getElem?_cons_zero, Option.some.injEq] at ho; subst ho; go_simp; with_reducible rfl) (by assumption) ?_
      try simp only [Act.put, List.setIfInBounds_toArray, List.set_cons_zero, List.set_cons_succ]
      refine rg_take 4 (some 20) _ (by kernel_rfl) (by kernel_rfl) (by kernel_rfl) (fun _ _ _ h => h) (by kernel_rfl) (by kernel_rfl) (by intro w' hSw op_ ho; have c0 := cell_of_heap hSw.book.box 0; obtain ⟨k0, k1, k2, k3⟩ := hSw.key.cells; obtain ⟨v0, v1, v2, v3⟩ := vb_cells hSw.vec; have hlk := hSw.lk HK.out HX2.out; have hf0 := field0A; have hf1 := field1A; have hf2 := field2A; clear hSw; simp only [List.getElem?_toArray, List.getElem?_cons_succ, List.getElem?_cons_zero, Option.some.injEq] at ho; subst ho; go_simp; with_reducible rfl) (by assumption) ?_
      try simp only [Act.put, List.setIfInBounds_toArray, List.set_cons_zero, List.set_cons_succ]
      refine rg_take 5 (some 21) _ (by kernel_rfl) (by kernel_rfl) (by kernel_rfl) (fun _ _ _ h => h) (by kernel_rfl) (by kernel_rfl) (by intro w' hSw op_ ho; have c0 := cell_of_heap hSw.book.box 0; obtain ⟨k0, k1, k2, k3⟩ := hSw.key.cells; obtain ⟨v0, v1, v2, v3⟩ := vb_cells hSw.vec; have hlk := hSw.lk HK.out HX2.out; have hf0 := field0A; have hf1 := field1A; have hf2 := field2A; clear hSw; simp only [List.getElem?_toArray, List.getElem?_cons_succ, List.getElem?_cons_zero, Option.some.injEq] at ho; subst ho; go_simp; with_reducible rfl) (by assumption) ?_
      try simp only [Act.put, List.setIfInBounds_toArray, List.set_cons_zero, List.set_cons_succ]
      refine rg_take 6 (some 22) _ (by kernel_rfl) (by kernel_rfl) (by kernel_rfl) (fun _ _ _ h => h) (by kernel_rfl) (by kernel_rfl) (by intro w' hSw op_ ho; have c0 := cell_of_heap hSw.book.box 0; obtain ⟨k0, k1, k2, k3⟩ := hSw.key.cells; obtain ⟨v0, v1, v2, v3⟩ := vb_cells hSw.vec; have hlk := hSw.lk HK.out HX2.out; have hf0 := field0A; have hf1 := field1A; have hf2 := field2A; clear hSw; simp only [List.getElem?_toArray, List.getElem?_cons_succ, List.getElem?_cons_zero, Option.some.injEq] at ho; subst ho; go_simp; with_reducible rfl) (by assumption) ?_
      try simp only [Act.put, List.setIfInBounds_toArray, List.set_cons_zero, List.set_cons_succ]
      refine rg_take 7 (some 23) _ (by kernel_rfl) (by kernel_rfl) (by kernel_rfl) (fun _ _ _ h => h) (by kernel_rfl) (by kernel_rfl) (by intro w' hSw op_ ho; have c0 := cell_of_heap hSw.book.box 0; obtain ⟨k0, k1, k2, k3⟩ := hSw.key.cells; obtain ⟨v0, v1, v2, v3⟩ := vb_cells hSw.vec; have hlk := hSw.lk HK.out HX2.out; have hf0 := field0A; have hf1 := field1A; have hf2 := field2A; clear hSw; simp only [List.getElem?_toArray, List.getElem?_cons_succ, List.getElem?_cons_zero, Option.some.injEq] at ho; subst ho; go_simp; with_reducible rfl) (by assumption) ?_
      try simp only [Act.put, List.setIfInBounds_toArray, List.set_cons_zero, List.set_cons_succ]
      refine rg_one 8 (by kernel_rfl) (by kernel_rfl) (fun op_ ho K hK => ?_)
      simp only [List.getElem?_toArray, List.getElem?_cons_succ, List.getElem?_cons_zero, Option.some.injEq] at ho
      subst ho
      go_simp
      go_at_call 32
      refine (HFT.out _ (by assumption)).mono ?_
      rintro e wz ⟨rfl, rz⟩
      go_wp2_with fail
      refine hK.out _ _ (by assumption) (fun hHeld => ?_)
      clear hK
      try simp only [Act.put, List.setIfInBounds_toArray, List.set_cons_zero, List.set_cons_succ]
      refine rg_take 9 (some 25) _ (by kernel_rfl) (by kernel_rfl) (by kernel_rfl) (fun _ _ _ h => h) (by kernel_rfl) (by kernel_rfl) (by intro w' hSw op_ ho; have c0 := cell_of_heap hSw.book.box 0; obtain ⟨k0, k1, k2, k3⟩ := hSw.key.cells; obtain ⟨v0, v1, v2, v3⟩ := vb_cells hSw.vec; have hlk := hSw.lk HK.out HX2.out; have hf0 := field0A; have hf1 := field1A; have hf2 := field2A; clear hSw; simp only [List.getElem?_toArray, List.getElem?_cons_succ, List.getElem?_cons_zero, Option.some.injEq] at ho; subst ho; go_simp; with_reducible rfl) (by assumption) ?_
      try simp only [Act.put, List.setIfInBounds_toArray, List.set_cons_zero, List.set_cons_succ]
      refine wpAnyH_done (by kernel_rfl) ?_ _
      have HHE := Lib.hid hHeld
      clear hHeld
      have HBX : Hid (b < X) := Lib.hid (by rw [← HX.out]; exact H.out.map.lt)
      have HSD : Hid (Sent s wz.drew) := Lib.hid (HS.out.below (HHE.out.below.drew) (Nat.le_refl _))
      have HMD : Hid (GrsAt wz.drew b T) := Lib.hid (HHE.out.book.map.on (Below.drew (Below.refl _ _)) (Nat.le_refl _))
      have HKD : Hid (Chg b b w wz.drew) := Lib.hid (Chg.of_below HHE.out.below).drew
      have HBD : Hid (BookAt wz.drew q b T) := Lib.hid (HHE.out.book.on (Below.drew (Below.refl _ _)) (Nat.le_refl _))
      obtain ⟨c0, c1, c2, c3⟩ := HHE.out.key.cells
      obtain ⟨v0, v1, v2, v3⟩ := vb_cells HHE.out.vec
      go_wp2_with fail
      clear c0 c1 c2 c3 v0 v1 v2 v3
      refine wp_region_held_drew (S := fun W => CgS q b X k v W) (by kernel_rfl) ?_ (fun hHeld => ?_)
      · exact (HHE.out.cg HBX.out).drew
      refine rg_take 0 (some 27) _ (by kernel_rfl) (by kernel_rfl) (by kernel_rfl) (fun _ _ _ h => h) (by kernel_rfl) (by kernel_rfl) (by intro w' hSw op_ ho; have c0 := cell_of_heap hSw.box 0; obtain ⟨k0, k1, k2, k3⟩ := hSw.key.cells; obtain ⟨v0, v1, v2, v3⟩ := vb_cells hSw.vec; clear hSw; simp only [List.getElem?_toArray, List.getElem?_cons_zero, Option.some.injEq] at ho; subst ho; go_simp; with_reducible rfl) (by assumption) ?_
      try simp only [Act.put, List.setIfInBounds_toArray, List.set_cons_zero, List.set_cons_succ]
      refine rg_take 1 (some 28) _ (by kernel_rfl) (by kernel_rfl) (by kernel_rfl) (fun _ _ _ h => h) (by kernel_rfl) (by kernel_rfl) (by intro w' hSw op_ ho; have c0 := cell_of_heap hSw.box 0; obtain ⟨k0, k1, k2, k3⟩ := hSw.key.cells; obtain ⟨v0, v1, v2, v3⟩ := vb_cells hSw.vec; clear hSw; simp only [List.getElem?_toArray, List.getElem?_cons_succ, List.getElem?_cons_zero, Option.some.injEq] at ho; subst ho; go_simp; with_reducible rfl) (by assumption) ?_
      try simp only [Act.put, List.setIfInBounds_toArray, List.set_cons_zero, List.set_cons_succ]
      refine rg_take 2 (some 29) _ (by kernel_rfl) (by kernel_rfl) (by kernel_rfl) (fun _ _ _ h => h) (by kernel_rfl) (by kernel_rfl) (by intro w' hSw op_ ho; have c0 := cell_of_heap hSw.box 0; obtain ⟨k0, k1, k2, k3⟩ := hSw.key.cells; obtain ⟨v0, v1, v2, v3⟩ := vb_cells hSw.vec; clear hSw; simp only [List.getElem?_toArray, List.getElem?_cons_succ, List.getElem?_cons_zero, Option.some.injEq] at ho; subst ho; go_simp; with_reducible rfl) (by assumption) ?_
      try simp only [Act.put, List.setIfInBounds_toArray, List.set_cons_zero, List.set_cons_succ]
      refine rg_take 3 (some 30) _ (by kernel_rfl) (by kernel_rfl) (by kernel_rfl) (fun _ _ _ h => h) (by kernel_rfl) (by kernel_rfl) (by intro w' hSw op_ ho; have c0 := cell_of_heap hSw.box 0; obtain ⟨k0, k1, k2, k3⟩ := hSw.key.cells; obtain ⟨v0, v1, v2, v3⟩ := vb_cells hSw.vec; clear hSw; simp only [List.getElem?_toArray, List.getElem?_cons_succ, List.getElem?_cons_zero, Option.some.injEq] at ho; subst ho; go_simp; with_reducible rfl) (by assumption) ?_
      try simp only [Act.put, List.setIfInBounds_toArray, List.set_cons_zero, List.set_cons_succ]
      refine rg_take 4 (some 31) _ (by kernel_rfl) (by kernel_rfl) (by kernel_rfl) (fun _ _ _ h => h) (by kernel_rfl) (by kernel_rfl) (by intro w' hSw op_ ho; have c0 := cell_of_heap hSw.box 0; obtain ⟨k0, k1, k2, k3⟩ := hSw.key.cells; obtain ⟨v0, v1, v2, v3⟩ := vb_cells hSw.vec; clear hSw; simp only [List.getElem?_toArray, List.getElem?_cons_succ, List.getElem?_cons_zero, Option.some.injEq] at ho; subst ho; go_simp; with_reducible rfl) (by assumption) ?_
      try simp only [Act.put, List.setIfInBounds_toArray, List.set_cons_zero, List.set_cons_succ]
      refine rg_take 5 (some 32) _ (by kernel_rfl) (by kernel_rfl) (by kernel_rfl) (fun _ _ _ h => h) (by kernel_rfl) (by kernel_rfl) (by intro w' hSw op_ ho; have c0 := cell_of_heap hSw.box 0; obtain ⟨k0, k1, k2, k3⟩ := hSw.key.cells; obtain ⟨v0, v1, v2, v3⟩ := vb_cells hSw.vec; clear hSw; simp only [List.getElem?_toArray, List.getElem?_cons_succ, List.getElem?_cons_zero, Option.some.injEq] at ho; subst ho; go_simp; with_reducible rfl) (by assumption) ?_
      try simp only [Act.put, List.setIfInBounds_toArray, List.set_cons_zero, List.set_cons_succ]
      refine rg_take 6 (some 33) _ (by kernel_rfl) (by kernel_rfl) (by kernel_rfl) (fun _ _ _ h => h) (by kernel_rfl) (by kernel_rfl) (by intro w' hSw op_ ho; have c0 := cell_of_heap hSw.box 0; obtain ⟨k0, k1, k2, k3⟩ := hSw.key.cells; obtain ⟨v0, v1, v2, v3⟩ := vb_cells hSw.vec; clear hSw; simp only [List.getElem?_toArray, List.getElem?_cons_succ, List.getElem?_cons_zero, Option.some.injEq] at ho; subst ho; go_simp; with_reducible rfl) (by assumption) ?_
      try simp only [Act.put, List.setIfInBounds_toArray, List.set_cons_zero, List.set_cons_succ]
      refine rg_take 7 (some 34) _ (by kernel_rfl) (by kernel_rfl) (by kernel_rfl) (fun _ _ _ h => h) (by kernel_rfl) (by kernel_rfl) (by intro w' hSw op_ ho; have c0 := cell_of_heap hSw.box 0; obtain ⟨k0, k1, k2, k3⟩ := hSw.key.cells; obtain ⟨v0, v1, v2, v3⟩ := vb_cells hSw.vec; clear hSw; simp only [List.getElem?_toArray, List.getElem?_cons_succ, List.getElem?_cons_zero, Option.some.injEq] at ho; subst ho; go_simp; with_reducible rfl) (by assumption) ?_
      try simp only [Act.put, List.setIfInBounds_toArray, List.set_cons_zero, List.set_cons_succ]
      refine rg_one 8 (by kernel_rfl) (by kernel_rfl) (fun op_ ho K hK => ?_)
      simp only [List.getElem?_toArray, List.getElem?_cons_succ, List.getElem?_cons_zero, Option.some.injEq] at ho
      subst ho
      go_simp
      go_at_call 29
      refine (HCH.out _ HSD.out HMD.out).mono ?_
      rintro e w2 ⟨rfl, mm, kk⟩
      have HM2 := Lib.hid mm
      have HK2 := Lib.hid kk
      clear mm kk
      go_wp2_with fail
      refine hK.out _ _ (CgS.chg hHeld HK2.out) (fun hHeld => ?_)
      clear hK
      try simp only [Act.put, List.setIfInBounds_toArray, List.set_cons_zero, List.set_cons_succ]
      refine wpAnyH_done (by kernel_rfl) ?_ _
      have HHEw2 := Lib.hid hHeld
      clear hHeld
      have HBK2 : Hid (BookAt w2 q b (chT T k (hA v) zA)) := Lib.hid (HBD.out.step HK2.out HM2.out HSO.out)
      have HC2 : Hid (Chg b b w w2) := Lib.hid (HKD.out.trans HK2.out (.inl rfl))
      have HSD2 : Hid (Sent s w2.drew) := Lib.hid (sent_chg HS.out HC2.out.drew HSB.out)
      have HMD2 : Hid (GrsAt w2.drew b (chT T k (hA v) zA)) := Lib.hid (HM2.out.on (Below.drew (Below.refl _ _)) (Nat.le_refl _))
      obtain ⟨c0, c1, c2, c3⟩ := HHEw2.out.key.cells
      obtain ⟨v0, v1, v2, v3⟩ := vb_cells HHEw2.out.vec
      go_wp2_with fail
      clear c0 c1 c2 c3 v0 v1 v2 v3
      refine wp_region_held_drew (S := fun W => CgS q b X k v W) (by kernel_rfl) ?_ (fun hHeld => ?_)
      · exact HHEw2.out.drew
      refine rg_take 0 (some 36) _ (by kernel_rfl) (by kernel_rfl) (by kernel_rfl) (fun _ _ _ h => h) (by kernel_rfl) (by kernel_rfl) (by intro w' hSw op_ ho; have c0 := cell_of_heap hSw.box 0; obtain ⟨k0, k1, k2, k3⟩ := hSw.key.cells; obtain ⟨v0, v1, v2, v3⟩ := vb_cells hSw.vec; clear hSw; simp only [List.getElem?_toArray, List.getElem?_cons_zero, Option.some.injEq] at ho; subst ho; go_simp; with_reducible rfl) (by assumption) ?_
      try simp only [Act.put, List.setIfInBounds_toArray, List.set_cons_zero, List.set_cons_succ]
      refine rg_take 1 (some 37) _ (by kernel_rfl) (by kernel_rfl) (by kernel_rfl) (fun _ _ _ h => h) (by kernel_rfl) (by kernel_rfl) (by intro w' hSw op_ ho; have c0 := cell_of_heap hSw.box 0; obtain ⟨k0, k1, k2, k3⟩ := hSw.key.cells; obtain ⟨v0, v1, v2, v3⟩ := vb_cells hSw.vec; clear hSw; simp only [List.getElem?_toArray, List.getElem?_cons_succ, List.getElem?_cons_zero, Option.some.injEq] at ho; subst ho; go_simp; with_reducible rfl) (by assumption) ?_
      try simp only [Act.put, List.setIfInBounds_toArray, List.set_cons_zero, List.set_cons_succ]
      refine rg_take 2 (some 38) _ (by kernel_rfl) (by kernel_rfl) (by kernel_rfl) (fun _ _ _ h => h) (by kernel_rfl) (by kernel_rfl) (by intro w' hSw op_ ho; have c0 := cell_of_heap hSw.box 0; obtain ⟨k0, k1, k2, k3⟩ := hSw.key.cells; obtain ⟨v0, v1, v2, v3⟩ := vb_cells hSw.vec; clear hSw; simp only [List.getElem?_toArray, List.getElem?_cons_succ, List.getElem?_cons_zero, Option.some.injEq] at ho; subst ho; go_simp; with_reducible rfl) (by assumption) ?_
      try simp only [Act.put, List.setIfInBounds_toArray, List.set_cons_zero, List.set_cons_succ]
      refine rg_take 3 (some 39) _ (by kernel_rfl) (by kernel_rfl) (by kernel_rfl) (fun _ _ _ h => h) (by kernel_rfl) (by kernel_rfl) (by intro w' hSw op_ ho; have c0 := cell_of_heap hSw.box 0; obtain ⟨k0, k1, k2, k3⟩ := hSw.key.cells; obtain ⟨v0, v1, v2, v3⟩ := vb_cells hSw.vec; clear hSw; simp only [List.getElem?_toArray, List.getElem?_cons_succ, List.getElem?_cons_zero, Option.some.injEq] at ho; subst ho; go_simp; with_reducible rfl) (by assumption) ?_
      try simp only [Act.put, List.setIfInBounds_toArray, List.set_cons_zero, List.set_cons_succ]
      refine rg_take 4 (some 40) _ (by kernel_rfl) (by kernel_rfl) (by kernel_rfl) (fun _ _ _ h => h) (by kernel_rfl) (by kernel_rfl) (by intro w' hSw op_ ho; have c0 := cell_of_heap hSw.box 0; obtain ⟨k0, k1, k2, k3⟩ := hSw.key.cells; obtain ⟨v0, v1, v2, v3⟩ := vb_cells hSw.vec; clear hSw; simp only [List.getElem?_toArray, List.getElem?_cons_succ, List.getElem?_cons_zero, Option.some.injEq] at ho; subst ho; go_simp; with_reducible rfl) (by assumption) ?_
      try simp only [Act.put, List.setIfInBounds_toArray, List.set_cons_zero, List.set_cons_succ]
      refine rg_take 5 (some 41) _ (by kernel_rfl) (by kernel_rfl) (by kernel_rfl) (fun _ _ _ h => h) (by kernel_rfl) (by kernel_rfl) (by intro w' hSw op_ ho; have c0 := cell_of_heap hSw.box 0; obtain ⟨k0, k1, k2, k3⟩ := hSw.key.cells; obtain ⟨v0, v1, v2, v3⟩ := vb_cells hSw.vec; clear hSw; simp only [List.getElem?_toArray, List.getElem?_cons_succ, List.getElem?_cons_zero, Option.some.injEq] at ho; subst ho; go_simp; with_reducible rfl) (by assumption) ?_
      try simp only [Act.put, List.setIfInBounds_toArray, List.set_cons_zero, List.set_cons_succ]
      refine rg_take 6 (some 42) _ (by kernel_rfl) (by kernel_rfl) (by kernel_rfl) (fun _ _ _ h => h) (by kernel_rfl) (by kernel_rfl) (by intro w' hSw op_ ho; have c0 := cell_of_heap hSw.box 0; obtain ⟨k0, k1, k2, k3⟩ := hSw.key.cells; obtain ⟨v0, v1, v2, v3⟩ := vb_cells hSw.vec; clear hSw; simp only [List.getElem?_toArray, List.getElem?_cons_succ, List.getElem?_cons_zero, Option.some.injEq] at ho; subst ho; go_simp; with_reducible rfl) (by assumption) ?_
      try simp only [Act.put, List.setIfInBounds_toArray, List.set_cons_zero, List.set_cons_succ]
      refine rg_take 7 (some 43) _ (by kernel_rfl) (by kernel_rfl) (by kernel_rfl) (fun _ _ _ h => h) (by kernel_rfl) (by kernel_rfl) (by intro w' hSw op_ ho; have c0 := cell_of_heap hSw.box 0; obtain ⟨k0, k1, k2, k3⟩ := hSw.key.cells; obtain ⟨v0, v1, v2, v3⟩ := vb_cells hSw.vec; clear hSw; simp only [List.getElem?_toArray, List.getElem?_cons_succ, List.getElem?_cons_zero, Option.some.injEq] at ho; subst ho; go_simp; with_reducible rfl) (by assumption) ?_
      try simp only [Act.put, List.setIfInBounds_toArray, List.set_cons_zero, List.set_cons_succ]
      refine rg_take 8 (some 44) _ (by kernel_rfl) (by kernel_rfl) (by kernel_rfl) (fun _ _ _ h => h) (by kernel_rfl) (by kernel_rfl) (by intro w' hSw op_ ho; have c0 := cell_of_heap hSw.box 0; obtain ⟨k0, k1, k2, k3⟩ := hSw.key.cells; obtain ⟨v0, v1, v2, v3⟩ := vb_cells hSw.vec; clear hSw; simp only [List.getElem?_toArray, List.getElem?_cons_succ, List.getElem?_cons_zero, Option.some.injEq] at ho; subst ho; go_simp; with_reducible rfl) (by assumption) ?_
      try simp only [Act.put, List.setIfInBounds_toArray, List.set_cons_zero, List.set_cons_succ]
      refine rg_take 9 (some 45) _ (by kernel_rfl) (by kernel_rfl) (by kernel_rfl) (fun _ _ _ h => h) (by kernel_rfl) (by kernel_rfl) (by intro w' hSw op_ ho; have c0 := cell_of_heap hSw.box 0; obtain ⟨k0, k1, k2, k3⟩ := hSw.key.cells; obtain ⟨v0, v1, v2, v3⟩ := vb_cells hSw.vec; clear hSw; simp only [List.getElem?_toArray, List.getElem?_cons_succ, List.getElem?_cons_zero, Option.some.injEq] at ho; subst ho; go_simp; with_reducible rfl) (by assumption) ?_
      try simp only [Act.put, List.setIfInBounds_toArray, List.set_cons_zero, List.set_cons_succ]
      refine rg_take 10 (some 46) _ (by kernel_rfl) (by kernel_rfl) (by kernel_rfl) (fun _ _ _ h => h) (by kernel_rfl) (by kernel_rfl) (by intro w' hSw op_ ho; have c0 := cell_of_heap hSw.box 0; obtain ⟨k0, k1, k2, k3⟩ := hSw.key.cells; obtain ⟨v0, v1, v2, v3⟩ := vb_cells hSw.vec; clear hSw; simp only [List.getElem?_toArray, List.getElem?_cons_succ, List.getElem?_cons_zero, Option.some.injEq] at ho; subst ho; go_simp; with_reducible rfl) (by assumption) ?_
      try simp only [Act.put, List.setIfInBounds_toArray, List.set_cons_zero, List.set_cons_succ]
      refine rg_one 11 (by kernel_rfl) (by kernel_rfl) (fun op_ ho K hK => ?_)
      simp only [List.getElem?_toArray, List.getElem?_cons_succ, List.getElem?_cons_zero, Option.some.injEq] at ho
      subst ho
      go_simp
      go_at_call 29
      refine (HCI.out _ HSD2.out HMD2.out).mono ?_
      rintro e w3 ⟨rfl, mm, kk⟩
      have HM3 := Lib.hid mm
      have HK3 := Lib.hid kk
      clear mm kk
      go_wp2_with fail
      refine hK.out _ _ (CgS.chg hHeld HK3.out) (fun hHeld => ?_)
      clear hK
      try simp only [Act.put, List.setIfInBounds_toArray, List.set_cons_zero, List.set_cons_succ]
      refine wpAnyH_done (by kernel_rfl) ?_ _
      have HHEw3 := Lib.hid hHeld
      clear hHeld
      go_wp2_with fail
      go_ret
      exact ⟨rfl, (HBK2.out.on (Below.drew (Below.refl _ _)) (Nat.le_refl _)).step HK3.out HM3.out HSO2.out, HC2.out.drew.trans HK3.out (.inl rfl)⟩
  · have hm : backErr (acc T k).h v = 1 := by unfold backErr; rw [if_neg hg]
    have HT : Hid (passed T k t v = T) := Lib.hid (by unfold passed; rw [hm]; rfl)
    rw [if_neg hg, errV_one] at HCK
    rw [hm, HT.out]
    clear h hs hsb hk hx hg hm hn HFT ht
    go_enter Tryd.func18, Tryd.ntmps18
    go_wp2_with fail
    have HB1 := Lib.hid HL.out.below
    refine (HCK.out _ HB1.out).mono ?_
    rintro e w1 ⟨rfl, hb1⟩
    have HB : Hid (Below w.heap.size w w1) := Lib.hid (HB1.out.trans (hb1.mono HB1.out.size))
    clear hb1
    go_wp2_with fail
    go_ret
    exact ⟨rfl, H.out.grow HB.out, Chg.of_below HB.out⟩
end Go.Proofs.YtpgioihmaodlcaaDoor
