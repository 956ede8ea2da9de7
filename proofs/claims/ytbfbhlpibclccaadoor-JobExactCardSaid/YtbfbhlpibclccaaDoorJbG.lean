/- The program's table of jobs by contracts: Put, Wait, Where, Drop, Of. Conditions: the table lies in memory as its map has it; the sentinels lie where the program's text lays them. -/
import Derived.Test.YtbfbhlpibclccaaDoorJbF
namespace Go.Proofs.YtbfbhlpibclccaaDoor
open Go Go.RowKit Go.Maps

theorem errs_is (s : Nat → Addr) {w : World} (hs : Sent s w) : w.cell? ⟨1, 0, none⟩ = some (.iface 201 (.pointer (some (s 0)))) ∧ w.cell? ⟨12, 0, none⟩ = some (.iface 201 (.pointer (some (s 12)))) := by
  obtain ⟨k1, _, k3, _⟩ := errs_at s hs w (Below.refl _ _); exact ⟨k1, k3⟩
section
variable {w : World} {P : Nat → Prop} {q b : Nat} {T : List (Int × Option EN)} {bl : Int → Nat} {L : List JE}
theorem findE5_zero {L : List JE} {t : Tk} (h : findE5 L t = 0) : ∃ (e : JE) (k : Nat), findJ L t.job = some e ∧ t.ix = (k : Int) ∧ k < e.pl.length := by
  unfold findE5 at h
  cases e : findJ L t.job with
  | none => rw [e] at h; simp at h
  | some x =>
    rw [e] at h
    simp only at h
    split at h
    · cases h
    · exact ⟨x, t.ix.toNat, rfl, by omega, by omega⟩
/-- find, wherever there is none. -/
theorem jfind_no (s : Nat → Addr) (h : JbP w P q b T bl L) (hs : Sent s w) {t : Tk} (ht : i64 t.job) (h0 : 0 < findE5 L t) :
    Calls Tryd.prog 43 #[.pointer (some ⟨q, 0, none⟩), .agg #[.int .i64 t.job, .int .i64 t.ix]] w fun r w' => r = .returned (.tuple #[.pointer none, errV s (findE5 L t)]) ∧ Below w.heap.size w w' := by
  unfold findE5 at h0 ⊢
  cases e : findJ L t.job with
  | none => exact jfind_none s h hs ht e
  | some x =>
    rw [e] at h0
    simp only at h0 ⊢
    split at h0
    · rename_i k
      rw [if_pos k]
      exact jfind_arg s h hs ht e k
    · omega
set_option maxRecDepth 100000 in
set_option maxHeartbeats 1600000 in
theorem jput_no (s : Nat → Addr) (h : JbP w P q b T bl L) (hs : Sent s w) {t : Tk} (ht : i64 t.job) (p : Int) (h0 : 0 < findE5 L t) :
    Calls Tryd.prog 11 #[.pointer (some ⟨q, 0, none⟩), .agg #[.int .i64 t.job, .int .i64 t.ix], .int .i64 p] w fun r w' => r = .returned (errV s (findE5 L t)) ∧ Below w.heap.size w w' := by
  obtain ⟨job, ix⟩ := t
  obtain ⟨X, hX⟩ : ∃ X, w.heap.size = X := ⟨_, rfl⟩
  obtain ⟨W1, hW1⟩ : ∃ W1, w.alloc (.cells #[.int .i64 job, .int .i64 ix] 35) = W1 := ⟨_, rfl⟩
  have hb1 : Below w.heap.size w W1 := by rw [← hW1]; exact (Below.refl _ _).alloc (Nat.le_refl _) _
  have hx1 : W1.heap[X]? = some (.cells #[.int .i64 job, .int .i64 ix] 35 (0, 0)) := by rw [← hW1, ← hX]; exact heap_alloc_new _ _
  have x0 := cell_of_heap hx1 0
  have x1 := cell_of_heap hx1 1
  have HB1 := Lib.hid hb1
  have HW1 := Lib.hid hW1
  have HXX := Lib.hid hX
  have HF := Lib.hid (jfind_no s (h.on hb1) (hs.below hb1 (Nat.le_refl _)) ht h0)
  obtain ⟨E, hE⟩ : ∃ E, findE5 L ⟨job, ix⟩ = E + 1 := ⟨findE5 L ⟨job, ix⟩ - 1, by omega⟩
  rw [hE] at HF ⊢
  rw [errA s (E + 1) (by omega)] at HF ⊢
  simp only at *
  clear h hs h0 hE ht hb1 hW1 hx1 hX
  go_enter Tryd.func11, Tryd.ntmps11
  go_upto_region 1 with fail
  rw [HW1.out, HXX.out]
  go_wp2_with fail
  refine HF.out.mono ?_
  rintro r w2 ⟨rfl, hb2⟩
  clear x0 x1
  have HB2 := Lib.hid hb2
  clear hb2
  go_wp2_with fail
  go_ret
  exact ⟨rfl, HB1.out.trans (HB2.out.mono HB1.out.size)⟩
set_option maxRecDepth 100000 in
set_option maxHeartbeats 1600000 in
theorem jwait_no (s : Nat → Addr) (h : JbP w P q b T bl L) (hs : Sent s w) {t : Tk} (ht : i64 t.job) (h0 : 0 < findE5 L t) :
    Calls Tryd.prog 13 #[.pointer (some ⟨q, 0, none⟩), .agg #[.int .i64 t.job, .int .i64 t.ix]] w fun r w' => r = .returned (errV s (findE5 L t)) ∧ Below w.heap.size w w' := by
  obtain ⟨job, ix⟩ := t
  obtain ⟨X, hX⟩ : ∃ X, w.heap.size = X := ⟨_, rfl⟩
  obtain ⟨W1, hW1⟩ : ∃ W1, w.alloc (.cells #[.int .i64 job, .int .i64 ix] 35) = W1 := ⟨_, rfl⟩
  have hb1 : Below w.heap.size w W1 := by rw [← hW1]; exact (Below.refl _ _).alloc (Nat.le_refl _) _
  have hx1 : W1.heap[X]? = some (.cells #[.int .i64 job, .int .i64 ix] 35 (0, 0)) := by rw [← hW1, ← hX]; exact heap_alloc_new _ _
  have x0 := cell_of_heap hx1 0
  have x1 := cell_of_heap hx1 1
  have HB1 := Lib.hid hb1
  have HW1 := Lib.hid hW1
  have HXX := Lib.hid hX
  have HF := Lib.hid (jfind_no s (h.on hb1) (hs.below hb1 (Nat.le_refl _)) ht h0)
  obtain ⟨E, hE⟩ : ∃ E, findE5 L ⟨job, ix⟩ = E + 1 := ⟨findE5 L ⟨job, ix⟩ - 1, by omega⟩
  rw [hE] at HF ⊢
  rw [errA s (E + 1) (by omega)] at HF ⊢
  simp only at *
  clear h hs h0 hE ht hb1 hW1 hx1 hX
  go_enter Tryd.func13, Tryd.ntmps13
  go_upto_region 1 with fail
  rw [HW1.out, HXX.out]
  go_wp2_with fail
  refine HF.out.mono ?_
  rintro r w2 ⟨rfl, hb2⟩
  clear x0 x1
  have HB2 := Lib.hid hb2
  clear hb2
  go_wp2_with fail
  go_ret
  exact ⟨rfl, HB1.out.trans (HB2.out.mono HB1.out.size)⟩
set_option maxRecDepth 100000 in
set_option maxHeartbeats 1600000 in
theorem jwhere_no (s : Nat → Addr) (h : JbP w P q b T bl L) (hs : Sent s w) {t : Tk} (ht : i64 t.job) (h0 : 0 < findE5 L t) :
    Calls Tryd.prog 24 #[.pointer (some ⟨q, 0, none⟩), .agg #[.int .i64 t.job, .int .i64 t.ix]] w fun r w' => r = .returned (.int .i64 (-1)) ∧ Below w.heap.size w w' := by
  obtain ⟨job, ix⟩ := t
  obtain ⟨X, hX⟩ : ∃ X, w.heap.size = X := ⟨_, rfl⟩
  obtain ⟨W1, hW1⟩ : ∃ W1, w.alloc (.cells #[.int .i64 job, .int .i64 ix] 35) = W1 := ⟨_, rfl⟩
  have hb1 : Below w.heap.size w W1 := by rw [← hW1]; exact (Below.refl _ _).alloc (Nat.le_refl _) _
  have hx1 : W1.heap[X]? = some (.cells #[.int .i64 job, .int .i64 ix] 35 (0, 0)) := by rw [← hW1, ← hX]; exact heap_alloc_new _ _
  have x0 := cell_of_heap hx1 0
  have x1 := cell_of_heap hx1 1
  have HB1 := Lib.hid hb1
  have HW1 := Lib.hid hW1
  have HXX := Lib.hid hX
  have HF := Lib.hid (jfind_no s (h.on hb1) (hs.below hb1 (Nat.le_refl _)) ht h0)
  obtain ⟨E, hE⟩ : ∃ E, findE5 L ⟨job, ix⟩ = E + 1 := ⟨findE5 L ⟨job, ix⟩ - 1, by omega⟩
  rw [hE] at HF
  rw [errA s (E + 1) (by omega)] at HF
  simp only at *
  clear h hs h0 hE ht hb1 hW1 hx1 hX
  go_enter Tryd.func24, Tryd.ntmps24
  go_upto_region 1 with fail
  rw [HW1.out, HXX.out]
  go_wp2_with fail
  refine HF.out.mono ?_
  rintro r w2 ⟨rfl, hb2⟩
  clear x0 x1
  have HB2 := Lib.hid hb2
  clear hb2
  go_wp2_with fail
  go_ret
  exact ⟨rfl, HB1.out.trans (HB2.out.mono HB1.out.size)⟩
set_option maxRecDepth 100000 in
set_option maxHeartbeats 1600000 in
/-- Put of a task that there is. -/
theorem jput_ok (s : Nat → Addr) (h : JbP w P q b T bl L) (hs : SentP s P w) {job : Int} {k : Nat} (ht : i64 job) (p : Int) {e : JE} (he : findJ L job = some e) (hk : k < e.pl.length) :
    Calls Tryd.prog 11 #[.pointer (some ⟨q, 0, none⟩), .agg #[.int .i64 job, .int .i64 (k : Int)], .int .i64 p] w fun r w' => r = .returned (errV s (putJ L ⟨job, (k : Int)⟩ p).2) ∧ JbP w' P q b T bl (putJ L ⟨job, (k : Int)⟩ p).1 ∧ ChP P w w' := by
  obtain ⟨X, hX⟩ : ∃ X, w.heap.size = X := ⟨_, rfl⟩
  obtain ⟨W1, hW1⟩ : ∃ W1, w.alloc (.cells #[.int .i64 job, .int .i64 (k : Int)] 35) = W1 := ⟨_, rfl⟩
  have hb1 : Below w.heap.size w W1 := by rw [← hW1]; exact (Below.refl _ _).alloc (Nat.le_refl _) _
  have hx1 : W1.heap[X]? = some (.cells #[.int .i64 job, .int .i64 (k : Int)] 35 (0, 0)) := by rw [← hW1, ← hX]; exact heap_alloc_new _ _
  have x0 := cell_of_heap hx1 0
  have x1 := cell_of_heap hx1 1
  have HB1 := Lib.hid hb1
  have HW1 := Lib.hid hW1
  have HXX := Lib.hid hX
  have HF := Lib.hid (jfind_ok (h.on hb1) ht he hk)
  have hm := findJ_mem h.good he
  have hid := findJ_id h.good he
  have HON : Hid (∀ W, Below W1.heap.size W1 W → JbP W P q b T bl L ∧ Sent s W ∧ W.cell? ⟨bl job, k, none⟩ = some (.int .i64 (plAt e k)) ∧ W.frozen? ⟨bl job, k, none⟩ = false ∧ bl job < W.heap.size) := Lib.hid fun W hb => by
    have h2 := (h.on hb1).on hb
    have h3 := h2.cell hm hk
    rw [hid] at h3
    exact ⟨h2, (hs.here.below hb1 (Nat.le_refl _)).below hb (Nat.le_refl _), h3.1, h3.2, by have := h2.old _ (h2.pr e hm); rw [hid] at this; exact this⟩
  have HPR : Hid (P (bl job)) := Lib.hid (by rw [← hid]; exact h.pr e hm)
  obtain ⟨g, hgd⟩ : ∃ g, g = bl job := ⟨_, rfl⟩
  obtain ⟨pa, hpa⟩ : ∃ pa, plAt e k = pa := ⟨_, rfl⟩
  have HMV : Hid (0 ≤ p → ∀ W, JbP W P q b T bl L → JbP (W.setCell ⟨bl job, k, none⟩ (.int .i64 p)) P q b T bl (setJ L job k p)) := Lib.hid fun hp W hW => hW.moved he hk (by omega)
  have hput : putJ L ⟨job, (k : Int)⟩ p = if p < 0 then (L, 1) else if pa ≠ -1 then (L, 13) else (setJ L job k p, 0) := by
    unfold putJ
    rw [he]
    simp only [Int.toNat_natCast, hpa]
    by_cases hp : p < 0
    · rw [if_pos (.inr hp), if_pos hp]
    · rw [if_neg (by omega), if_neg hp]
  rw [hput]
  rw [← hgd, hpa] at HON
  rw [← hgd] at HF HPR HMV
  clear h hs ht he hk hb1 hW1 hx1 hX hm hid hput hgd hpa
  by_cases hp : p < 0
  · rw [if_pos hp, errA s 1 (by omega)]
    go_enter Tryd.func11, Tryd.ntmps11
    go_upto_region 1 with fail
    rw [HW1.out, HXX.out]
    go_wp2_with fail
    refine HF.out.mono ?_
    rintro r w2 ⟨rfl, hb2⟩
    clear x0 x1
    obtain ⟨k1, k2, k3, k4, k5⟩ := HON.out w2 hb2
    have HB2 := Lib.hid hb2
    have HJ2 := Lib.hid k1
    obtain ⟨e0, e12⟩ := errs_is s k2
    clear hb2 k1 k2
    go_wp2_with fail
    go_ret
    exact ⟨rfl, HJ2.out, ChP.of_below (HB1.out.trans (HB2.out.mono HB1.out.size))⟩
  · rw [if_neg hp]
    have HP : Hid (0 ≤ p) := Lib.hid (by omega)
    by_cases hpa : pa = -1
    · subst hpa
      rw [if_neg (by simp), errA0]
      go_enter Tryd.func11, Tryd.ntmps11
      go_upto_region 1 with fail
      rw [HW1.out, HXX.out]
      go_wp2_with fail
      refine HF.out.mono ?_
      rintro r w2 ⟨rfl, hb2⟩
      clear x0 x1
      obtain ⟨k1, k2, k3, k4, k5⟩ := HON.out w2 hb2
      have HB2 := Lib.hid hb2
      have HJ2 := Lib.hid k1
      obtain ⟨e0, e12⟩ := errs_is s k2
      clear hb2 k1 k2
      clear e0 e12
      go_wp2_with fail
      go_ret
      exact ⟨rfl, HMV.out HP.out _ HJ2.out, (ChP.of_below (HB1.out.trans (HB2.out.mono HB1.out.size))).setCell (.inl HPR.out) _⟩
    · rw [if_pos hpa, errA s 13 (by omega)]
      have hpb : (pa != -1) = true := by simpa using hpa
      clear hpa
      go_enter Tryd.func11, Tryd.ntmps11
      go_upto_region 1 with fail
      rw [HW1.out, HXX.out]
      go_wp2_with fail
      refine HF.out.mono ?_
      rintro r w2 ⟨rfl, hb2⟩
      clear x0 x1
      obtain ⟨k1, k2, k3, k4, k5⟩ := HON.out w2 hb2
      have HB2 := Lib.hid hb2
      have HJ2 := Lib.hid k1
      obtain ⟨e0, e12⟩ := errs_is s k2
      clear hb2 k1 k2
      go_wp2_with fail
      go_ret
      exact ⟨rfl, HJ2.out, ChP.of_below (HB1.out.trans (HB2.out.mono HB1.out.size))⟩
set_option maxRecDepth 100000 in
set_option maxHeartbeats 1600000 in
/-- Wait of a task that there is. -/
theorem jwait_ok (s : Nat → Addr) (h : JbP w P q b T bl L) (hs : SentP s P w) {job : Int} {k : Nat} (ht : i64 job) {e : JE} (he : findJ L job = some e) (hk : k < e.pl.length) :
    Calls Tryd.prog 13 #[.pointer (some ⟨q, 0, none⟩), .agg #[.int .i64 job, .int .i64 (k : Int)]] w fun r w' => r = .returned (errV s (waitJ L ⟨job, (k : Int)⟩).2) ∧ JbP w' P q b T bl (waitJ L ⟨job, (k : Int)⟩).1 ∧ ChP P w w' := by
  obtain ⟨X, hX⟩ : ∃ X, w.heap.size = X := ⟨_, rfl⟩
  obtain ⟨W1, hW1⟩ : ∃ W1, w.alloc (.cells #[.int .i64 job, .int .i64 (k : Int)] 35) = W1 := ⟨_, rfl⟩
  have hb1 : Below w.heap.size w W1 := by rw [← hW1]; exact (Below.refl _ _).alloc (Nat.le_refl _) _
  have hx1 : W1.heap[X]? = some (.cells #[.int .i64 job, .int .i64 (k : Int)] 35 (0, 0)) := by rw [← hW1, ← hX]; exact heap_alloc_new _ _
  have x0 := cell_of_heap hx1 0
  have x1 := cell_of_heap hx1 1
  have HB1 := Lib.hid hb1
  have HW1 := Lib.hid hW1
  have HXX := Lib.hid hX
  have HF := Lib.hid (jfind_ok (h.on hb1) ht he hk)
  have hm := findJ_mem h.good he
  have hid := findJ_id h.good he
  have HON : Hid (∀ W, Below W1.heap.size W1 W → JbP W P q b T bl L ∧ Sent s W ∧ W.cell? ⟨bl job, k, none⟩ = some (.int .i64 (plAt e k)) ∧ W.frozen? ⟨bl job, k, none⟩ = false ∧ bl job < W.heap.size) := Lib.hid fun W hb => by
    have h2 := (h.on hb1).on hb
    have h3 := h2.cell hm hk
    rw [hid] at h3
    exact ⟨h2, (hs.here.below hb1 (Nat.le_refl _)).below hb (Nat.le_refl _), h3.1, h3.2, by have := h2.old _ (h2.pr e hm); rw [hid] at this; exact this⟩
  have HPR : Hid (P (bl job)) := Lib.hid (by rw [← hid]; exact h.pr e hm)
  obtain ⟨g, hgd⟩ : ∃ g, g = bl job := ⟨_, rfl⟩
  obtain ⟨pa, hpa⟩ : ∃ pa, plAt e k = pa := ⟨_, rfl⟩
  have HMV : Hid (∀ W, JbP W P q b T bl L → JbP (W.setCell ⟨bl job, k, none⟩ (.int .i64 (-1))) P q b T bl (setJ L job k (-1))) := Lib.hid fun W hW => hW.moved he hk (by omega)
  have hput : waitJ L ⟨job, (k : Int)⟩ = if pa = -1 then (L, 13) else (setJ L job k (-1), 0) := by
    unfold waitJ
    rw [he]
    simp only [Int.toNat_natCast, hpa]
    rw [if_neg (by omega)]
  rw [hput]
  rw [← hgd, hpa] at HON
  rw [← hgd] at HF HPR HMV
  clear h hs ht he hk hb1 hW1 hx1 hX hm hid hput hgd hpa
  by_cases hpa : pa = -1
  · subst hpa
    rw [if_pos rfl, errA s 13 (by omega)]
    go_enter Tryd.func13, Tryd.ntmps13
    go_upto_region 1 with fail
    rw [HW1.out, HXX.out]
    go_wp2_with fail
    refine HF.out.mono ?_
    rintro r w2 ⟨rfl, hb2⟩
    clear x0 x1
    obtain ⟨k1, k2, k3, k4, k5⟩ := HON.out w2 hb2
    have HB2 := Lib.hid hb2
    have HJ2 := Lib.hid k1
    obtain ⟨e0, e12⟩ := errs_is s k2
    clear hb2 k1 k2
    go_wp2_with fail
    go_ret
    exact ⟨rfl, HJ2.out, ChP.of_below (HB1.out.trans (HB2.out.mono HB1.out.size))⟩
  · rw [if_neg hpa, errA0]
    have hpb : (pa == -1) = false := by simpa using hpa
    clear hpa
    go_enter Tryd.func13, Tryd.ntmps13
    go_upto_region 1 with fail
    rw [HW1.out, HXX.out]
    go_wp2_with fail
    refine HF.out.mono ?_
    rintro r w2 ⟨rfl, hb2⟩
    clear x0 x1
    obtain ⟨k1, k2, k3, k4, k5⟩ := HON.out w2 hb2
    have HB2 := Lib.hid hb2
    have HJ2 := Lib.hid k1
    obtain ⟨e0, e12⟩ := errs_is s k2
    clear hb2 k1 k2
    clear e0 e12
    go_wp2_with fail
    go_ret
    exact ⟨rfl, HMV.out _ HJ2.out, (ChP.of_below (HB1.out.trans (HB2.out.mono HB1.out.size))).setCell (.inl HPR.out) _⟩
set_option maxRecDepth 100000 in
set_option maxHeartbeats 1600000 in
/-- Where of a task that there is. -/
theorem jwhere_ok (s : Nat → Addr) (h : JbP w P q b T bl L) (hs : SentP s P w) {job : Int} {k : Nat} (ht : i64 job) {e : JE} (he : findJ L job = some e) (hk : k < e.pl.length) :
    Calls Tryd.prog 24 #[.pointer (some ⟨q, 0, none⟩), .agg #[.int .i64 job, .int .i64 (k : Int)]] w fun r w' => r = .returned (.int .i64 (plAt e k)) ∧ Below w.heap.size w w' := by
  obtain ⟨X, hX⟩ : ∃ X, w.heap.size = X := ⟨_, rfl⟩
  obtain ⟨W1, hW1⟩ : ∃ W1, w.alloc (.cells #[.int .i64 job, .int .i64 (k : Int)] 35) = W1 := ⟨_, rfl⟩
  have hb1 : Below w.heap.size w W1 := by rw [← hW1]; exact (Below.refl _ _).alloc (Nat.le_refl _) _
  have hx1 : W1.heap[X]? = some (.cells #[.int .i64 job, .int .i64 (k : Int)] 35 (0, 0)) := by rw [← hW1, ← hX]; exact heap_alloc_new _ _
  have x0 := cell_of_heap hx1 0
  have x1 := cell_of_heap hx1 1
  have HB1 := Lib.hid hb1
  have HW1 := Lib.hid hW1
  have HXX := Lib.hid hX
  have HF := Lib.hid (jfind_ok (h.on hb1) ht he hk)
  have hm := findJ_mem h.good he
  have hid := findJ_id h.good he
  have HON : Hid (∀ W, Below W1.heap.size W1 W → JbP W P q b T bl L ∧ Sent s W ∧ W.cell? ⟨bl job, k, none⟩ = some (.int .i64 (plAt e k)) ∧ W.frozen? ⟨bl job, k, none⟩ = false ∧ bl job < W.heap.size) := Lib.hid fun W hb => by
    have h2 := (h.on hb1).on hb
    have h3 := h2.cell hm hk
    rw [hid] at h3
    exact ⟨h2, (hs.here.below hb1 (Nat.le_refl _)).below hb (Nat.le_refl _), h3.1, h3.2, by have := h2.old _ (h2.pr e hm); rw [hid] at this; exact this⟩
  have HPR : Hid (P (bl job)) := Lib.hid (by rw [← hid]; exact h.pr e hm)
  obtain ⟨g, hgd⟩ : ∃ g, g = bl job := ⟨_, rfl⟩
  obtain ⟨pa, hpa⟩ : ∃ pa, plAt e k = pa := ⟨_, rfl⟩
  rw [hpa]
  rw [← hgd, hpa] at HON
  rw [← hgd] at HF HPR
  clear h hs ht he hk hb1 hW1 hx1 hX hm hid hgd hpa
  go_enter Tryd.func24, Tryd.ntmps24
  go_upto_region 1 with fail
  rw [HW1.out, HXX.out]
  go_wp2_with fail
  refine HF.out.mono ?_
  rintro r w2 ⟨rfl, hb2⟩
  clear x0 x1
  obtain ⟨k1, k2, k3, k4, k5⟩ := HON.out w2 hb2
  have HB2 := Lib.hid hb2
  have HJ2 := Lib.hid k1
  obtain ⟨e0, e12⟩ := errs_is s k2
  clear hb2 k1 k2
  clear e0 e12
  go_wp2_with fail
  go_ret
  exact ⟨rfl, HB1.out.trans (HB2.out.mono HB1.out.size)⟩
end
set_option maxRecDepth 100000 in
theorem jput_nil (s : Nat → Addr) (w : World) (hs : Sent s w) (t : Tk) (p : Int) :
    Calls Tryd.prog 11 #[.pointer none, .agg #[.int .i64 t.job, .int .i64 t.ix], .int .i64 p] w fun r w' => r = .returned (errV s 2) ∧ Below w.heap.size w w' := by
  obtain ⟨job, ix⟩ := t
  obtain ⟨X, hX⟩ : ∃ X, w.heap.size = X := ⟨_, rfl⟩
  obtain ⟨W1, hW1⟩ : ∃ W1, w.alloc (.cells #[.int .i64 job, .int .i64 ix] 35) = W1 := ⟨_, rfl⟩
  have hb1 : Below w.heap.size w W1 := by rw [← hW1]; exact (Below.refl _ _).alloc (Nat.le_refl _) _
  have hx1 : W1.heap[X]? = some (.cells #[.int .i64 job, .int .i64 ix] 35 (0, 0)) := by rw [← hW1, ← hX]; exact heap_alloc_new _ _
  have x0 := cell_of_heap hx1 0
  have x1 := cell_of_heap hx1 1
  have HB1 := Lib.hid hb1
  have HW1 := Lib.hid hW1
  have HXX := Lib.hid hX
  have HF := Lib.hid (jfind_nil s W1 (hs.below hb1 (Nat.le_refl _)) ⟨job, ix⟩)
  rw [errA s 2 (by omega)] at HF ⊢
  simp only at *
  clear hs hb1 hW1 hx1 hX
  go_enter Tryd.func11, Tryd.ntmps11
  go_upto_region 1 with fail
  rw [HW1.out, HXX.out]
  go_wp2_with fail
  refine HF.out.mono ?_
  rintro r w2 ⟨rfl, hb2⟩
  clear x0 x1
  have HB2 := Lib.hid hb2
  clear hb2
  go_wp2_with fail
  go_ret
  exact ⟨rfl, HB1.out.trans (HB2.out.mono HB1.out.size)⟩
set_option maxRecDepth 100000 in
theorem jwait_nil (s : Nat → Addr) (w : World) (hs : Sent s w) (t : Tk) :
    Calls Tryd.prog 13 #[.pointer none, .agg #[.int .i64 t.job, .int .i64 t.ix]] w fun r w' => r = .returned (errV s 2) ∧ Below w.heap.size w w' := by
  obtain ⟨job, ix⟩ := t
  obtain ⟨X, hX⟩ : ∃ X, w.heap.size = X := ⟨_, rfl⟩
  obtain ⟨W1, hW1⟩ : ∃ W1, w.alloc (.cells #[.int .i64 job, .int .i64 ix] 35) = W1 := ⟨_, rfl⟩
  have hb1 : Below w.heap.size w W1 := by rw [← hW1]; exact (Below.refl _ _).alloc (Nat.le_refl _) _
  have hx1 : W1.heap[X]? = some (.cells #[.int .i64 job, .int .i64 ix] 35 (0, 0)) := by rw [← hW1, ← hX]; exact heap_alloc_new _ _
  have x0 := cell_of_heap hx1 0
  have x1 := cell_of_heap hx1 1
  have HB1 := Lib.hid hb1
  have HW1 := Lib.hid hW1
  have HXX := Lib.hid hX
  have HF := Lib.hid (jfind_nil s W1 (hs.below hb1 (Nat.le_refl _)) ⟨job, ix⟩)
  rw [errA s 2 (by omega)] at HF ⊢
  simp only at *
  clear hs hb1 hW1 hx1 hX
  go_enter Tryd.func13, Tryd.ntmps13
  go_upto_region 1 with fail
  rw [HW1.out, HXX.out]
  go_wp2_with fail
  refine HF.out.mono ?_
  rintro r w2 ⟨rfl, hb2⟩
  clear x0 x1
  have HB2 := Lib.hid hb2
  clear hb2
  go_wp2_with fail
  go_ret
  exact ⟨rfl, HB1.out.trans (HB2.out.mono HB1.out.size)⟩
set_option maxRecDepth 100000 in
theorem jwhere_nil (s : Nat → Addr) (w : World) (hs : Sent s w) (t : Tk) :
    Calls Tryd.prog 24 #[.pointer none, .agg #[.int .i64 t.job, .int .i64 t.ix]] w fun r w' => r = .returned (.int .i64 (-1)) ∧ Below w.heap.size w w' := by
  obtain ⟨job, ix⟩ := t
  obtain ⟨X, hX⟩ : ∃ X, w.heap.size = X := ⟨_, rfl⟩
  obtain ⟨W1, hW1⟩ : ∃ W1, w.alloc (.cells #[.int .i64 job, .int .i64 ix] 35) = W1 := ⟨_, rfl⟩
  have hb1 : Below w.heap.size w W1 := by rw [← hW1]; exact (Below.refl _ _).alloc (Nat.le_refl _) _
  have hx1 : W1.heap[X]? = some (.cells #[.int .i64 job, .int .i64 ix] 35 (0, 0)) := by rw [← hW1, ← hX]; exact heap_alloc_new _ _
  have x0 := cell_of_heap hx1 0
  have x1 := cell_of_heap hx1 1
  have HB1 := Lib.hid hb1
  have HW1 := Lib.hid hW1
  have HXX := Lib.hid hX
  have HF := Lib.hid (jfind_nil s W1 (hs.below hb1 (Nat.le_refl _)) ⟨job, ix⟩)
  rw [errA s 2 (by omega)] at HF
  simp only at *
  clear hs hb1 hW1 hx1 hX
  go_enter Tryd.func24, Tryd.ntmps24
  go_upto_region 1 with fail
  rw [HW1.out, HXX.out]
  go_wp2_with fail
  refine HF.out.mono ?_
  rintro r w2 ⟨rfl, hb2⟩
  clear x0 x1
  have HB2 := Lib.hid hb2
  clear hb2
  go_wp2_with fail
  go_ret
  exact ⟨rfl, HB1.out.trans (HB2.out.mono HB1.out.size)⟩
section
variable {w : World} {P : Nat → Prop} {q : Nat} {L : List JE}
theorem JbW.put_c (s : Nat → Addr) (h : JbW w P q L) (hs : SentP s P w) {t : Tk} (ht : i64 t.job) (p : Int) :
    Calls Tryd.prog 11 #[.pointer (some ⟨q, 0, none⟩), .agg #[.int .i64 t.job, .int .i64 t.ix], .int .i64 p] w fun r w' => r = .returned (errV s (putJ L t p).2) ∧ JbW w' P q (putJ L t p).1 ∧ ChP P w w' := by
  obtain ⟨b, T, bl, h⟩ := h
  rcases Nat.eq_zero_or_pos (findE5 L t) with h0 | h0
  · obtain ⟨e, k, he, hix, hk⟩ := findE5_zero h0
    obtain ⟨job, ix⟩ := t
    simp only at he hix ht
    subst hix
    exact (jput_ok s h hs ht p he hk).mono fun _ _ ⟨k1, k2, k3⟩ => ⟨k1, k2.any, k3⟩
  · have hp : putJ L t p = (L, findE5 L t) := by
      unfold putJ findE5 at *
      cases e : findJ L t.job with
      | none => rfl
      | some x =>
        rw [e] at h0
        simp only at h0 ⊢
        split at h0
        · rename_i k; rw [if_pos k, if_pos (.inl k)]
        · omega
    rw [hp]
    exact (jput_no s h hs.here ht p h0).mono fun _ _ ⟨k1, k2⟩ => ⟨k1, (h.on k2).any, ChP.of_below k2⟩
theorem JbW.wait_c (s : Nat → Addr) (h : JbW w P q L) (hs : SentP s P w) {t : Tk} (ht : i64 t.job) :
    Calls Tryd.prog 13 #[.pointer (some ⟨q, 0, none⟩), .agg #[.int .i64 t.job, .int .i64 t.ix]] w fun r w' => r = .returned (errV s (waitJ L t).2) ∧ JbW w' P q (waitJ L t).1 ∧ ChP P w w' := by
  obtain ⟨b, T, bl, h⟩ := h
  rcases Nat.eq_zero_or_pos (findE5 L t) with h0 | h0
  · obtain ⟨e, k, he, hix, hk⟩ := findE5_zero h0
    obtain ⟨job, ix⟩ := t
    simp only at he hix ht
    subst hix
    exact (jwait_ok s h hs ht he hk).mono fun _ _ ⟨k1, k2, k3⟩ => ⟨k1, k2.any, k3⟩
  · have hp : waitJ L t = (L, findE5 L t) := by
      unfold waitJ findE5 at *
      cases e : findJ L t.job with
      | none => rfl
      | some x =>
        rw [e] at h0
        simp only at h0 ⊢
        split at h0
        · rename_i k; rw [if_pos k, if_pos k]
        · omega
    rw [hp]
    exact (jwait_no s h hs.here ht h0).mono fun _ _ ⟨k1, k2⟩ => ⟨k1, (h.on k2).any, ChP.of_below k2⟩
theorem JbW.where_c (s : Nat → Addr) (h : JbW w P q L) (hs : SentP s P w) {t : Tk} (ht : i64 t.job) :
    Calls Tryd.prog 24 #[.pointer (some ⟨q, 0, none⟩), .agg #[.int .i64 t.job, .int .i64 t.ix]] w fun r w' => r = .returned (.int .i64 (whereJ L t)) ∧ Below w.heap.size w w' := by
  obtain ⟨b, T, bl, h⟩ := h
  rcases Nat.eq_zero_or_pos (findE5 L t) with h0 | h0
  · obtain ⟨e, k, he, hix, hk⟩ := findE5_zero h0
    obtain ⟨job, ix⟩ := t
    simp only at he hix ht
    subst hix
    have hw : whereJ L ⟨job, (k : Int)⟩ = plAt e k := by
      unfold whereJ; simp only; rw [he]; simp only; rw [if_neg (by omega), Int.toNat_natCast]
    rw [hw]
    exact jwhere_ok s h hs ht he hk
  · have hp : whereJ L t = -1 := by
      unfold whereJ findE5 at *
      cases e : findJ L t.job with
      | none => rfl
      | some x =>
        rw [e] at h0
        simp only at h0 ⊢
        split at h0
        · rename_i k; rw [if_pos k]
        · omega
    rw [hp]
    exact jwhere_no s h hs.here ht h0
end
end Go.Proofs.YtbfbhlpibclccaaDoor
