/- What the walk of GrantTotal stands on: what a deed and an expiry change of what is issued; sums over keys; the state of a round. -/
import Derived.Test.YtpgioihmaodlcaaDoorGrA
import Derived.Test.YtpgioihmaodlcaaDoorGrP
namespace Go.Proofs.YtpgioihmaodlcaaDoor
open Go Go.RowKit Go.Maps Go.Sort

theorem issV_exp {w : Int} {T : Grs} (h : Solid T) {L : List V4} (hL : ∀ k, (look T k).isSome = true → k ∈ L) (p : V4) : issV (expT w T L) p = if p.d < w then z4 else issV T p := by
  refine comp_ext fun r => ?_
  rw [comp_issV, iss_expT h hL]
  split
  · rw [comp_z4]
  · rw [comp_issV]
/-- A deed that does not give or take at the place leaves what is issued there. -/
theorem issV_deed0 {T : Grs} (h : Solid T) (n : Int) (k : V4) (t : Int) (v p : V4) (hn : sameP k p = true → n ≠ 1 ∧ n ≠ 2) : issV (deed T n k t v) p = issV T p := by
  refine comp_ext fun r => ?_
  rw [comp_issV, comp_issV, iss_deed h]
  split
  · rename_i e
    obtain ⟨h1, h2⟩ := hn e
    unfold gain
    rw [if_neg h1, if_neg h2]
    split <;> omega
  · omega
theorem issV_give {T : Grs} (h : Solid T) (k : V4) (t : Int) (v p : V4) (he : deedErr T 1 k v = 0) (hs : sameP k p = true) : issV (deed T 1 k t v) p = pv (issV T p) v := by
  refine comp_ext fun r => ?_
  rw [comp_issV, iss_deed h, comp_pv, comp_issV, if_pos hs]
  unfold gain
  rw [if_pos he, if_pos rfl]
theorem issV_take {T : Grs} (h : Solid T) (k : V4) (t : Int) (v p : V4) (he : deedErr T 2 k v = 0) (hs : sameP k p = true) : issV (deed T 2 k t v) p = mv (issV T p) v := by
  refine comp_ext fun r => ?_
  rw [comp_issV, iss_deed h, comp_mv, comp_issV, if_pos hs]
  unfold gain
  rw [if_pos he, if_neg (by decide), if_pos rfl]
  omega
/-- What the first k of a list of keys have at a place. -/
def upR (T : Grs) (p : V4) (L : List V4) (k r : Nat) : Int := ((L.take k).map fun y => part1 p r y (acc T y)).sum
def upV (T : Grs) (p : V4) (L : List V4) (k : Nat) : V4 := ⟨upR T p L k 0, upR T p L k 1, upR T p L k 2, upR T p L k 3⟩
theorem part1_pos {T : Grs} (h : Solid T) (p : V4) (r : Nat) (y : V4) : 0 ≤ part1 p r y (acc T y) := by
  unfold part1
  split
  · exact (acc_pos h y).all r
  · exact Int.le_refl _
theorem part1_comp (p : V4) (y : V4) (x : Acc) (r : Nat) : part1 p r y x = comp r (if sameP y p then pv x.f (pv x.c x.h) else z4) := by
  unfold part1 allOf
  split
  · rw [comp_pv, comp_pv]; omega
  · rw [comp_z4]
theorem sumI_pos : ∀ {l : List Int}, (∀ x ∈ l, 0 ≤ x) → 0 ≤ l.sum
  | [], _ => Int.le_refl _
  | x :: l, h => by have h1 := h x (by simp); have h2 := sumI_pos (l := l) fun y hy => h y (by simp [hy]); rw [List.sum_cons]; omega
theorem upR_step (T : Grs) (p : V4) {L : List V4} {k : Nat} {y : V4} (h : L[k]? = some y) (r : Nat) : upR T p L (k + 1) r = upR T p L k r + part1 p r y (acc T y) := by
  unfold upR
  rw [take_snoc h, List.map_append, List.sum_append]
  simp
theorem upV_step (T : Grs) (p : V4) {L : List V4} {k : Nat} {y : V4} (h : L[k]? = some y) : upV T p L (k + 1) = pv (upV T p L k) (if sameP y p then pv (acc T y).f (pv (acc T y).c (acc T y).h) else z4) :=
  V4.eq ((upR_step T p h 0).trans (by rw [part1_comp]; rfl)) ((upR_step T p h 1).trans (by rw [part1_comp]; rfl)) ((upR_step T p h 2).trans (by rw [part1_comp]; rfl)) ((upR_step T p h 3).trans (by rw [part1_comp]; rfl))
theorem comp_upV (T : Grs) (p : V4) (L : List V4) (k r : Nat) : ∃ r', comp r (upV T p L k) = upR T p L k r' ∧ (∀ x : V4, comp r x = comp r' x) := by
  rcases r with _ | _ | _ | r
  · exact ⟨0, rfl, fun _ => rfl⟩
  · exact ⟨1, rfl, fun _ => rfl⟩
  · exact ⟨2, rfl, fun _ => rfl⟩
  · exact ⟨3, rfl, fun _ => rfl⟩
theorem upV_all {T : Grs} (h : Solid T) (p : V4) {L : List V4} (hL : L.Perm (T.map (·.1))) : upV T p L L.length = issV T p := by
  have e : ∀ r, upR T p L L.length r = iss T p r := fun r => by
    unfold upR
    rw [List.take_length]
    exact perm_totK (part1 p r) zA h.apart hL
  exact V4.eq (e 0) (e 1) (e 2) (e 3)
theorem upR_le {T : Grs} (h : Solid T) (p : V4) (L : List V4) (k r : Nat) : upR T p L k r ≤ upR T p L L.length r := by
  have e : upR T p L L.length r = upR T p L k r + ((L.drop k).map fun y => part1 p r y (acc T y)).sum := by
    unfold upR
    rw [← List.sum_append, ← List.map_append, List.take_length, List.take_append_drop]
  have := sumI_pos (l := (L.drop k).map fun y => part1 p r y (acc T y)) fun x hx => by obtain ⟨y, _, rfl⟩ := List.mem_map.1 hx; exact part1_pos h p r y
  omega
theorem goodUp {T : Grs} (h : Solid T) (p : V4) {L : List V4} (hL : L.Perm (T.map (·.1))) (k : Nat) : goodV (upV T p L k) = true := good_comp.2 fun r => by
  obtain ⟨r', e, _⟩ := comp_upV T p L k r
  rw [e]
  have h1 := upR_le h p L k r'
  have h2 : upR T p L L.length r' = iss T p r' := by
    unfold upR
    rw [List.take_length]
    exact perm_totK (part1 p r') zA h.apart hL
  have h3 := h.most p r'
  exact ⟨sumI_pos fun x hx => by obtain ⟨y, _, rfl⟩ := List.mem_map.1 hx; exact part1_pos h p r' y, by omega⟩
theorem goodCH {T : Grs} (h : Solid T) (k : V4) : goodV (pv (acc T k).c (acc T k).h) = true := good_comp.2 fun r => by
  have h1 := acc_pos h k r; have h2 := h.upto k r; unfold allOf at h2; rw [comp_pv]; omega
theorem goodFCH {T : Grs} (h : Solid T) (k : V4) : goodV (pv (acc T k).f (pv (acc T k).c (acc T k).h)) = true := good_comp.2 fun r => by
  have h1 := acc_pos h k r; have h2 := h.upto k r; unfold allOf at h2; rw [comp_pv, comp_pv]; omega
theorem wrap2 {a y z : Int} (h : a + y = z) (hy : -1099511627776 ≤ y ∧ y ≤ 1099511627776) (hz : -1099511627776 ≤ z ∧ z ≤ 2199023255552) : IntKind.i64.wrap (a + IntKind.i64.wrap y) = z := by
  rw [IntWalk.i64_in y (by omega), h]
  exact IntWalk.i64_in z (by omega)
/-- Of vectors that are valid nothing is cut off. -/
theorem plusG (a y : V4) (w : World) (ha : goodV a = true) (hy : goodV y = true) : Calls Tryd.prog 10 #[.agg #[.int .i64 a.a, .int .i64 a.b, .int .i64 a.c, .int .i64 a.d], .agg #[.int .i64 y.a, .int .i64 y.b, .int .i64 y.c, .int .i64 y.d], .int .i64 1] w fun e w' => e = .returned (.agg #[.int .i64 ((pv a y)).a, .int .i64 ((pv a y)).b, .int .i64 ((pv a y)).c, .int .i64 ((pv a y)).d]) ∧ Below w.heap.size w w' := by
  have h1 := good_comp.1 ha; have h2 := good_comp.1 hy
  have h10 := h1 0; have h11 := h1 1; have h12 := h1 2; have h13 := h1 3
  have h20 := h2 0; have h21 := h2 1; have h22 := h2 2; have h23 := h2 3
  simp only [comp] at h10 h11 h12 h13 h20 h21 h22 h23
  exact plus_c a y ⟨a.a + y.a, a.b + y.b, a.c + y.c, a.d + y.d⟩ 1 w (wrap2 (by simp only; omega) (by omega) (by simp only; omega)) (wrap2 (by simp only; omega) (by omega) (by simp only; omega)) (wrap2 (by simp only; omega) (by omega) (by simp only; omega)) (wrap2 (by simp only; omega) (by omega) (by simp only; omega))
theorem minusG (a y : V4) (w : World) (ha : goodV a = true) (hy : goodV y = true) : Calls Tryd.prog 10 #[.agg #[.int .i64 a.a, .int .i64 a.b, .int .i64 a.c, .int .i64 a.d], .agg #[.int .i64 y.a, .int .i64 y.b, .int .i64 y.c, .int .i64 y.d], .int .i64 (-1)] w fun e w' => e = .returned (.agg #[.int .i64 ((mv a y)).a, .int .i64 ((mv a y)).b, .int .i64 ((mv a y)).c, .int .i64 ((mv a y)).d]) ∧ Below w.heap.size w w' := by
  have h1 := good_comp.1 ha; have h2 := good_comp.1 hy
  have h10 := h1 0; have h11 := h1 1; have h12 := h1 2; have h13 := h1 3
  have h20 := h2 0; have h21 := h2 1; have h22 := h2 2; have h23 := h2 3
  simp only [comp] at h10 h11 h12 h13 h20 h21 h22 h23
  exact plus_c a y ⟨a.a - y.a, a.b - y.b, a.c - y.c, a.d - y.d⟩ (-1) w (wrap2 (by simp only; omega) (by omega) (by simp only; omega)) (wrap2 (by simp only; omega) (by omega) (by simp only; omega)) (wrap2 (by simp only; omega) (by omega) (by simp only; omega)) (wrap2 (by simp only; omega) (by omega) (by simp only; omega))

theorem GActBlk.lt {w : World} {g : Nat} {x : GActD} (h : GActBlk w g x) : g < w.heap.size := (Array.getElem?_eq_some_iff.1 h).1
/-- Between the statements of a round: the book, the place, the vector of what is issued. -/
structure TR (w0 : World) (Pp I0 q b : Nat) (p : V4) (T : Grs) (v : V4) (W : World) : Prop where
  ga : GaAt w0 W q b T
  pl : PlB W Pp p
  iv : Vb W I0 v
  nP : Pp ≠ b
  nI : I0 ≠ b
  qI : q ≠ I0
  pI : Pp ≠ I0
  low : w0.heap.size ≤ I0
section
variable {w0 W W' : World} {Pp I0 q b : Nat} {p : V4} {T T' : Grs} {v v' : V4}
theorem TR.on (h : TR w0 Pp I0 q b p T v W) (hb : Below W.heap.size W W') : TR w0 Pp I0 q b p T v W' := ⟨h.ga.on hb, h.pl.on hb, h.iv.below hb (lt_of_row h.iv), h.nP, h.nI, h.qI, h.pI, h.low⟩
theorem TR.drew (h : TR w0 Pp I0 q b p T v W) : TR w0 Pp I0 q b p T v W.drew := h.on (Below.drew (Below.refl _ _))
theorem TR.drewN (h : TR w0 Pp I0 q b p T v W) (n : Nat) : TR w0 Pp I0 q b p T v (W.drewN n) := h.on (below_drewN (Below.refl _ _) n)
theorem TR.alloc (h : TR w0 Pp I0 q b p T v W) (o : Obj) : TR w0 Pp I0 q b p T v (W.alloc o) := h.on ((Below.refl _ _).alloc (Nat.le_refl _) o)
theorem TR.chg (h : TR w0 Pp I0 q b p T v W) (t : BookAt W' q b T') (hg : Chg b b W W') : TR w0 Pp I0 q b p T' v W' :=
  ⟨h.ga.chg t hg, h.pl.chg hg h.nP h.nP, hg.row h.iv h.nI h.nI, h.nP, h.nI, h.qI, h.pI, h.low⟩
theorem chg_set4 (w : World) (g : Nat) (a b c d : Int) : Chg g g w ((((w.setCell ⟨g, 0, none⟩ (.int .i64 a)).setCell ⟨g, 1, none⟩ (.int .i64 b)).setCell ⟨g, 2, none⟩ (.int .i64 c)).setCell ⟨g, 3, none⟩ (.int .i64 d)) :=
  ((((Chg.refl g g w).setCell (.inl rfl) _).setCell (.inl rfl) _).setCell (.inl rfl) _).setCell (.inl rfl) _
theorem TR.kept (h : TR w0 Pp I0 q b p T v W) (hg : Chg I0 I0 W W') (hv : Vb W' I0 v') : TR w0 Pp I0 q b p T v' W' :=
  ⟨⟨⟨hg.row h.ga.book.box h.qI h.qI, h.ga.book.map.same (hg.block b h.ga.book.map.lt (fun e => h.nI e.symm) (fun e => h.nI e.symm)), h.ga.book.solid⟩, h.ga.below.trans (hg.below h.low h.low h.ga.below.size), h.ga.lowq, h.ga.lowb⟩,
    h.pl.chg hg h.pI h.pI, hv, h.nP, h.nI, h.qI, h.pI, h.low⟩
theorem TR.put (h : TR w0 Pp I0 q b p T v W) (v' : V4) : TR w0 Pp I0 q b p T v' ((((W.setCell ⟨I0, 0, none⟩ (.int .i64 v'.a)).setCell ⟨I0, 1, none⟩ (.int .i64 v'.b)).setCell ⟨I0, 2, none⟩ (.int .i64 v'.c)).setCell ⟨I0, 3, none⟩ (.int .i64 v'.d)) :=
  h.kept (chg_set4 W I0 _ _ _ _) (h.iv.set4 _ _ _ _)
end
theorem TR.start {w w1 w2 : World} {Pp I0 q b : Nat} {p : V4} (h1 : Below w.heap.size w w1) (hP : PlB w1 Pp p) (t2 : BookAt w2 q b []) (b2 : Below w1.heap.size w1 w2) (lb : w1.heap.size ≤ b) (lq : w1.heap.size ≤ q) (hI : w2.heap.size = I0) :
    TR w Pp I0 q b p [] (issV [] p) (w2.alloc (.cells #[.int .i64 0, .int .i64 0, .int .i64 0, .int .i64 0] 29)) := by
  have e1 := t2.map.lt; have e2 := t2.lt; have e3 := hP.lt; have e5 := b2.size; have e6 := h1.size
  have ha : Below w2.heap.size w2 (w2.alloc (.cells #[.int .i64 0, .int .i64 0, .int .i64 0, .int .i64 0] 29)) := (Below.refl _ _).alloc (Nat.le_refl _) _
  exact ⟨⟨t2.grow ha, (h1.trans (b2.mono h1.size)).trans (ha.mono (by omega)), by omega, by omega⟩, (hP.on b2).on ha, Vb.new_at hI.symm z4, by omega, by omega, by omega, by omega, by omega⟩
/-- What a round begins with. -/
def TRel (w : World) (Pp I0 q b : Nat) (p : V4) (n : Nat) (I : Value) (wr : World) : Prop :=
  ∃ (j : Nat) (T : Grs), I = .int .i64 (j : Int) ∧ j ≤ n ∧ j ≤ 60 ∧ T.length ≤ 2 * j ∧ TR w Pp I0 q b p T (issV T p) wr
/-- The middle of a round: the deed is done. -/
def TMid (w : World) (Pp I0 q b : Nat) (p : V4) (j U : Nat) (x : GActD) (wr : World) : Prop :=
  ∃ T : Grs, T.length ≤ 2 * (j + 1) ∧ TR w Pp I0 q b p T (issV T p) wr ∧ GActBlk wr U x ∧ U ≠ b ∧ U ≠ I0

end Go.Proofs.YtpgioihmaodlcaaDoor
