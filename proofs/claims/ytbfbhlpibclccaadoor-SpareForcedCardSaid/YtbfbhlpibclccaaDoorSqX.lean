/- The law's book of counts, told by the row of evictions that made it. Condition: the book lies in memory as its map has it. -/
import Derived.Test.YtbfbhlpibclccaaDoorSqE
namespace Go.Proofs.YtbfbhlpibclccaaDoor
open Go Go.RowKit Go.Maps Go.Sort

/-- What a list of counts tells. -/
structure LS (E : List Ev) (M : List Ct) : Prop where
  at_ : ∀ c ∈ M, c = ctE E (keyC c)
  pos : ∀ c ∈ M, 1 ≤ sumC c
  ord : M.Pairwise ltC
  sum : (M.map sumC).sum = (E.length : Int)
theorem sum_len : ∀ (M : List Ct), (∀ c ∈ M, 1 ≤ sumC c) → (M.length : Int) ≤ (M.map sumC).sum
  | [], _ => Int.le_refl _
  | c :: M, h => by
    have h1 := sum_len M fun c hc => h c (List.mem_cons_of_mem _ hc)
    have h2 := h c (List.mem_cons_self ..)
    rw [List.map_cons, List.sum_cons, List.length_cons]; omega
theorem LS.few {E : List Ev} {M : List Ct} (h : LS E M) : M.length ≤ E.length := by
  have h1 := sum_len M h.pos
  rw [h.sum] at h1; omega
theorem cnt_some {E : List Ev} {j w : Int} {f : Bool} (h : 1 ≤ cntE E j w f) : ∃ e ∈ E, keyE e = ⟨j, w⟩ := by
  unfold cntE at h
  obtain ⟨e, he⟩ := List.exists_mem_of_length_pos (show 0 < (E.filter (isE j w f)).length by omega)
  obtain ⟨h1, h2⟩ := List.mem_filter.1 he
  exact ⟨e, h1, isE_key h2⟩
/-- Where all evictions are of one job in one window there is one count. -/
theorem LS.one {E : List Ev} {M : List Ct} (h : LS E M) {k : K2} (hk : ∀ e ∈ E, keyE e = k) (h0 : E ≠ []) : M.length = 1 := by
  have hkey : ∀ c ∈ M, keyC c = k := fun c hc => by
    have h1 := h.pos c hc
    rw [h.at_ c hc] at h1
    have h2 : (1 : Int) ≤ (cntE E (keyC c).job (keyC c).win false : Int) + (cntE E (keyC c).job (keyC c).win true : Int) := h1
    by_cases hf : 1 ≤ cntE E (keyC c).job (keyC c).win false
    · obtain ⟨e, he, hek⟩ := cnt_some hf
      rw [← hk e he, hek]
    · obtain ⟨e, he, hek⟩ := cnt_some (show 1 ≤ cntE E (keyC c).job (keyC c).win true by omega)
      rw [← hk e he, hek]
  match M, h, hkey with
  | [], h, _ =>
    have h1 : (0 : Int) = (E.length : Int) := h.sum
    cases E with
    | nil => exact absurd rfl h0
    | cons e E => simp only [List.length_cons] at h1; omega
  | [c], _, _ => rfl
  | a :: b :: M, h, hkey =>
    have h1 := List.rel_of_pairwise_cons h.ord (List.mem_cons_self ..)
    have h2 := hkey a (List.mem_cons_self ..)
    have h3 := hkey b (List.mem_cons_of_mem _ (List.mem_cons_self ..))
    rw [← h3] at h2
    have h4 : a.job = b.job := congrArg K2.job h2
    have h5 : a.win = b.win := congrArg K2.win h2
    unfold ltC at h1
    omega
/-- The book that the evictions of E have made. -/
structure SqX (w0 w : World) (q b : Nat) (E : List Ev) : Prop where
  p : ∃ T, SqP w q b T ∧ SI T E
  below : Below w0.heap.size w0 w
  lowq : w0.heap.size ≤ q
  lowb : w0.heap.size ≤ b
section
variable {w0 w w' : World} {q b : Nat} {E : List Ev}
theorem SqX.on (h : SqX w0 w q b E) (hb : Below w.heap.size w w') : SqX w0 w' q b E := by
  obtain ⟨T, h1, h2⟩ := h.p
  exact ⟨⟨T, h1.on hb, h2⟩, h.below.trans (hb.mono h.below.size), h.lowq, h.lowb⟩
theorem SqX.drew (h : SqX w0 w q b E) : SqX w0 w.drew q b E := h.on (Below.refl _ _).drew
theorem SqX.far {R : Nat → Prop} (h : SqX w0 w q b E) (hc : ChP R w w') (hR : ∀ i, R i → w0.heap.size ≤ i ∧ i ≠ q ∧ i ≠ b) : SqX w0 w' q b E := by
  obtain ⟨T, h1, h2⟩ := h.p
  exact ⟨⟨T, h1.far hc (fun h => (hR q h).2.1 rfl) (fun h => (hR b h).2.2 rfl), h2⟩, h.below.trans (hc.below (fun k hk => (hR k hk).1) h.below.size), h.lowq, h.lowb⟩
theorem SqX.lt (h : SqX w0 w q b E) : q < w.heap.size ∧ b < w.heap.size := by obtain ⟨T, h1, _⟩ := h.p; exact h1.lt
theorem sx_new {w0 w : World} (hb : Below w0.heap.size w0 w) : Calls Tryd.prog 32 #[] w fun e w' => ∃ q b, e = .returned (.pointer (some ⟨q, 0, none⟩)) ∧ SqX w0 w' q b [] :=
  (snew_c w).mono fun _ _ ⟨q, b, k1, k2, k3, k4, k5⟩ => ⟨q, b, k1, ⟨⟨[], k2, SI.nil⟩, hb.trans (k5.mono hb.size), Nat.le_trans hb.size k3, Nat.le_trans hb.size k4⟩⟩
theorem valQ_free {T : List (K2 × Ct)} (h : SI T E) (k : K2) : (valQ T k).free = (cntE E k.job k.win false : Int) := h.free k
theorem valQ_forced {T : List (K2 × Ct)} (h : SI T E) (k : K2) : (valQ T k).forced = (cntE E k.job k.win true : Int) := h.forced k
theorem upC_is {T : List (K2 × Ct)} (h : SI T E) (e : Ev) : upC (keyE e) (valQ T (keyE e)) e.frc = ctE (E ++ [e]) (keyE e) := by
  have h1 : isE (keyE e).job (keyE e).win e.frc e = true := isE_iff.2 ⟨rfl, rfl, rfl⟩
  have h2 : isE (keyE e).job (keyE e).win (!e.frc) e = false := by
    cases hc : isE (keyE e).job (keyE e).win (!e.frc) e with
    | false => rfl
    | true => have := (isE_iff.1 hc).2.2; cases hf : e.frc <;> rw [hf] at this <;> simp at this
  unfold upC ctE
  rw [valQ_free h, valQ_forced h, cntE_snoc, cntE_snoc]
  cases hf : e.frc <;> rw [hf] at h1 h2 <;> simp only [Bool.not_false, Bool.not_true] at h2 <;> rw [h1, h2] <;> simp
/-- Add. -/
theorem SqX.add_c (h : SqX w0 w q b E) (e : Ev) (hk : okQ (keyE e)) (hE : E.length ≤ 1000) :
    Calls Tryd.prog 36 #[.pointer (some ⟨q, 0, none⟩), .int .i64 e.job, .int .i64 e.win, .bool e.frc] w fun r w' => r = .returned .nilIface ∧ SqX w0 w' q b (E ++ [e]) ∧ ChP (fun i => i = b) w w' := by
  obtain ⟨T, h1, h2⟩ := h.p
  have e0 := cntE_le E (keyE e).job (keyE e).win false
  have e1 := cntE_le E (keyE e).job (keyE e).win true
  have hT := h2.few h1.apart
  refine (h1.add_c hk e.frc (by rw [valQ_free h2]; omega) (by rw [valQ_forced h2]; omega) (by omega)).mono fun r w' ⟨k1, k2, k3⟩ => ⟨k1, ⟨⟨_, k2, ?_⟩, h.below.trans (k3.below (fun k hk => by rw [hk]; exact h.lowb) h.below.size), h.lowq, h.lowb⟩, k3⟩
  rw [upC_is h2]; exact h2.add e
/-- Of. -/
theorem SqX.of_c (h : SqX w0 w q b E) {k : K2} (hk : okQ k) :
    Calls Tryd.prog 38 #[.pointer (some ⟨q, 0, none⟩), .int .i64 k.job, .int .i64 k.win] w fun r w' => r = .returned (.agg #[.int .i64 k.job, .int .i64 k.win, .int .i64 (cntE E k.job k.win false : Int), .int .i64 (cntE E k.job k.win true : Int)]) ∧ Below w.heap.size w w' := by
  obtain ⟨T, h1, h2⟩ := h.p
  have := h1.of_c hk
  rw [valQ_free h2, valQ_forced h2] at this
  exact this
/-- Left. -/
theorem SqX.left_c (h : SqX w0 w q b E) {k : K2} (hk : okQ k) {n : Int} (hn : i64 n) :
    Calls Tryd.prog 39 #[.pointer (some ⟨q, 0, none⟩), .int .i64 k.job, .int .i64 k.win, .int .i64 n] w fun r w' => r = .returned (.int .i64 (leftI (cntE E k.job k.win false : Int) n)) ∧ Below w.heap.size w w' := by
  obtain ⟨T, h1, h2⟩ := h.p
  have := h1.left_c hk (by rw [valQ_free h2]; omega) hn
  rw [valQ_free h2] at this
  exact this
/-- Expire. -/
theorem SqX.expire_c (h : SqX w0 w q b E) (n : Int) :
    Calls Tryd.prog 33 #[.pointer (some ⟨q, 0, none⟩), .int .i64 n] w fun r w' => r = .returned (.tuple #[]) ∧ SqX w0 w' q b (lessE (fun k => decide (k.win < n)) E) ∧ ChP (fun i => i = b) w w' := by
  obtain ⟨T, h1, h2⟩ := h.p
  exact (h1.expire_c n).mono fun r w' ⟨k1, k2, k3⟩ => ⟨k1, ⟨⟨_, k2, h2.keep (fun k => decide (k.win < n))⟩, h.below.trans (k3.below (fun k hk => by rw [hk]; exact h.lowb) h.below.size), h.lowq, h.lowb⟩, k3⟩
/-- Drop. -/
theorem SqX.drop_c (h : SqX w0 w q b E) (n : Int) :
    Calls Tryd.prog 35 #[.pointer (some ⟨q, 0, none⟩), .int .i64 n] w fun r w' => r = .returned (.tuple #[]) ∧ SqX w0 w' q b (lessE (fun k => k.job == n) E) ∧ ChP (fun i => i = b) w w' := by
  obtain ⟨T, h1, h2⟩ := h.p
  exact (h1.drop_c n).mono fun r w' ⟨k1, k2, k3⟩ => ⟨k1, ⟨⟨_, k2, h2.keep (fun k => k.job == n)⟩, h.below.trans (k3.below (fun k hk => by rw [hk]; exact h.lowb) h.below.size), h.lowq, h.lowb⟩, k3⟩
/-- List. -/
theorem SqX.list_c (h : SqX w0 w q b E) (hE : E.length ≤ 1000) :
    Calls Tryd.prog 40 #[.pointer (some ⟨q, 0, none⟩)] w fun e w' => ∃ (A : Option Addr) (c : Nat) (M : List Ct), e = .returned (.slice A M.length c) ∧ LS E M ∧ OwnE encCt 85 w' w.heap.size (.slice A M.length c) M ∧ Below w.heap.size w w' := by
  obtain ⟨T, h1, h2⟩ := h.p
  have hT := h2.few h1.apart
  refine (h1.list_c (by omega)).mono fun e w' ⟨A, c, M, k1, ⟨ks, k2, k3⟩, k4, k5, k6⟩ => ⟨A, c, M, k1, ?_, k5, k6⟩
  obtain ⟨l1, l2, l3, l4⟩ := h2.listed h1.apart k2 k3 k4
  refine ⟨l1, fun c hc => ?_, l2, l3⟩
  have hp : M.Perm (T.map fun p => valQ T p.1) := k3.trans ((k2.map (valQ T)).trans (by rw [List.map_map]; exact List.Perm.refl _))
  obtain ⟨p, hpT, rfl⟩ := List.mem_map.1 (hp.mem_iff.1 hc)
  have : valQ T p.1 = p.2 := by
    show (look T p.1).getD z0C = p.2
    rw [mem_look h1.apart (show (p.1, p.2) ∈ T from hpT)]; rfl
  rw [this]
  exact h2.pos h1.apart p hpT
end
end Go.Proofs.YtbfbhlpibclccaaDoor
