/- What Pick may answer, plainly: where nobody may go; where it fits as it is. No conditions. -/
import Derived.Test.YtlckofoabnnlhaaDoorViM
import Derived.Test.YtlckofoabnnlhaaDoorNums
import Derived.Test.YtlckofoabnnlhaaDoorVecM
import Derived.OpenShut
import Derived.Test.YtlckofoabnnlhaaDoorOpenV4
import Derived.Test.YtlckofoabnnlhaaDoorLieO
import Derived.Test.YtlckofoabnnlhaaDoorViY
namespace Go.Proofs.YtlckofoabnnlhaaDoor
open Go

/-- A demand fits where it is at most what is left. -/
theorem fitS_iff {id : Int} {l x : V4} (hl : goodV l = true) (hx : goodV x = true) : fitS ⟨id, l⟩ x ↔ fitsV x l = true := by
  unfold fitS subR
  rw [hl, hx]
  have gl := (good_iff l).1 hl
  have gx := (good_iff x).1 hx
  simp only [Bool.and_self, if_true]
  rw [fits_comp]
  constructor
  · intro h
    by_cases hg : goodV ⟨l.a - x.a, l.b - x.b, l.c - x.c, l.d - x.d⟩ = true
    · have g := (good_iff _).1 hg
      simp only at g
      intro r
      match r with
      | 0 => show x.a ≤ l.a; omega
      | 1 => show x.b ≤ l.b; omega
      | 2 => show x.c ≤ l.c; omega
      | r + 3 => show x.d ≤ l.d; omega
    · rw [if_neg hg] at h; simp at h
  · intro h
    have h0 : x.a ≤ l.a := h 0
    have h1 : x.b ≤ l.b := h 1
    have h2 : x.c ≤ l.c := h 2
    have h3 : x.d ≤ l.d := h 3
    rw [if_pos ((good_iff _).2 (by simp only; omega))]
theorem lined_spt {band : Int} : ∀ {H R : List Hst}, Lined band H R → R.map Hst.spt = H.map Hst.spt := fun {H R} h => by
  refine List.ext_getElem? fun i => ?_
  rw [List.getElem?_map, List.getElem?_map]
  rcases hi : H[i]? with _ | x
  · rw [List.getElem?_eq_none_iff] at hi
    rw [show R[i]? = none from List.getElem?_eq_none_iff.2 (by rw [h.1]; exact hi)]
  · obtain ⟨y, hy⟩ : ∃ y, R[i]? = some y := ⟨_, List.getElem?_eq_getElem (by rw [h.1]; exact (List.getElem?_eq_some_iff.1 hi).1)⟩
    obtain ⟨e1, e2, _⟩ := h.2 i x y hi hy
    rw [hy]
    simp [Hst.spt, e1, e2]
theorem lined_mem {band : Int} {H R : List Hst} (h : Lined band H R) {r : Hst} (hr : r ∈ R) : ∃ x ∈ H, r.id = x.id ∧ r.left = x.left ∧ r.on.Perm (x.on.filter (candG band)) := by
  obtain ⟨i, hi⟩ := List.getElem?_of_mem hr
  obtain ⟨x, hx⟩ : ∃ x, H[i]? = some x := ⟨_, List.getElem?_eq_getElem (by rw [← h.1]; exact (List.getElem?_eq_some_iff.1 hi).1)⟩
  exact ⟨x, List.mem_of_getElem? hx, h.2 i x r hx hi⟩
/-- Nobody goes where nobody may. -/
theorem clear_zero {x : V4} {al : Int → Int} {l : V4} (ha : ∀ j, al j ≤ 0) (line : List Gst) : clearK x al l line = (l, []) := by
  unfold clearK
  have key : ∀ (L : List Gst) (s : V4 × List Gst), L.foldl (stepK x al) s = s := fun L => by
    induction L with
    | nil => intro s; rfl
    | cons g r ih =>
      intro s
      rw [List.foldl_cons, show stepK x al s g = s from by unfold stepK; exact if_pos (.inr (Int.le_trans (ha _) (by omega)))]
      exact ih s
  exact key line _
/-- Where it fits nowhere as it is, no room has room. -/
theorem best_none_fits {x : V4} {R : List Hst} (hx : goodV x = true) (hR : ∀ r ∈ R, goodV r.left = true) (h : bestS x (R.map Hst.spt) = none) : ∀ r ∈ R, fitsV x r.left = false := fun r hr => by
  have h1 := (bestS_none x _ _ rfl).1 h r.spt (List.mem_map_of_mem hr)
  have h2 := (fitS_iff (id := r.id) (hR r hr) hx)
  cases hf : fitsV x r.left
  · rfl
  · exact absurd (h2.2 hf) h1
theorem valid_left {H : List Hst} (hv : validH H = true) : ∀ h ∈ H, goodV h.left = true := fun h hh => by
  unfold validH at hv
  rw [Bool.and_eq_true, List.all_eq_true] at hv
  have := hv.1 h hh
  unfold okH at this
  rw [Bool.and_eq_true] at this
  exact this.1
/-- What the answer is if nobody may go. -/
structure NoneP (H : List Hst) (x : V4) (host : Int) (out : List Gst) (er : Nat) : Prop where
  out : out = []
  le : er ≤ 14
  yes : ∀ a t, validH H = true → goodV x = true → bestS x (H.map Hst.spt) = some (a, t) → er = 0 ∧ host = t.id
  no : ¬ (validH H = true ∧ goodV x = true ∧ (bestS x (H.map Hst.spt)).isSome = true) → er ≠ 0 ∧ host = 0
theorem none_pick {H : List Hst} {x : V4} {band host : Int} {out : List Gst} {er : Nat} (h : PickR H x band [] host out er) : NoneP H x host out er ∧ ((∀ h ∈ H, h.on.filter (candG band) = []) → er ≠ 11) := by
  obtain ⟨R, hR, hp⟩ := h
  unfold pickK at hp
  by_cases hv : validH H = true ∧ goodV x = true
  · rw [if_pos hv, lined_spt hR] at hp
    cases hb : bestS x (H.map Hst.spt) with
    | some q =>
      obtain ⟨a, t⟩ := q
      rw [hb] at hp
      simp only [Prod.mk.injEq] at hp
      obtain ⟨rfl, rfl, rfl⟩ := hp
      exact ⟨⟨rfl, by omega, fun a' t' _ _ e => by rw [hb] at e; cases e; exact ⟨rfl, rfl⟩, fun hn => absurd ⟨hv.1, hv.2, by rw [hb]; rfl⟩ hn⟩, fun _ => by omega⟩
    | none =>
      have hf := best_none_fits hv.2 (R := R) (fun r hr => by obtain ⟨y, hy, _, e, _⟩ := lined_mem hR hr; rw [e]; exact valid_left hv.1 y hy) (by rw [lined_spt hR]; exact hb)
      have hz : ∀ j, alS [] j ≤ 0 := fun j => by simp [alS]
      have hfew : fewK x (alS []) R = none := (fewK_none x _ _ R rfl).2 fun r hr => by rw [clear_zero hz]; exact hf r hr
      rw [hb] at hp
      simp only [hfew] at hp
      have hno : ¬ (validH H = true ∧ goodV x = true ∧ (bestS x (H.map Hst.spt)).isSome = true) := fun hn => by rw [hb] at hn; exact absurd hn.2.2 (by simp)
      by_cases hi : (fewK x alInf R).isSome = true
      · rw [if_pos hi] at hp
        simp only [Prod.mk.injEq] at hp
        obtain ⟨rfl, rfl, rfl⟩ := hp
        refine ⟨⟨rfl, by omega, fun a' t' _ _ e => (by rw [hb] at e; cases e), fun _ => ⟨by omega, rfl⟩⟩, fun hall => ?_⟩
        have hno2 : fewK x alInf R = none := (fewK_none x _ _ R rfl).2 fun r hr => by
          obtain ⟨y, hy, _, _, e⟩ := lined_mem hR hr
          rw [hall y hy] at e
          rw [List.Perm.eq_nil e]
          exact hf r hr
        rw [hno2] at hi; cases hi
      · rw [if_neg hi] at hp
        simp only [Prod.mk.injEq] at hp
        obtain ⟨rfl, rfl, rfl⟩ := hp
        exact ⟨⟨rfl, by omega, fun a' t' _ _ e => (by rw [hb] at e; cases e), fun _ => ⟨by omega, rfl⟩⟩, fun _ => by omega⟩
  · rw [if_neg hv] at hp
    simp only [Prod.mk.injEq] at hp
    obtain ⟨rfl, rfl, rfl⟩ := hp
    exact ⟨⟨rfl, by omega, fun a t h1 h2 _ => absurd ⟨h1, h2⟩ hv, fun _ => ⟨by omega, rfl⟩⟩, fun _ => by omega⟩
/-- Two answers where nobody may go are the same. -/
theorem none_same {H : List Hst} {x : V4} {host host' : Int} {out out' : List Gst} {er er' : Nat} (h : NoneP H x host out er) (k : NoneP H x host' out' er') : (er = 0 ∧ er' = 0 ∧ host = host') ∨ (er ≠ 0 ∧ er' ≠ 0) := by
  by_cases hv : validH H = true ∧ goodV x = true ∧ (bestS x (H.map Hst.spt)).isSome = true
  · obtain ⟨h1, h2, h3⟩ := hv
    obtain ⟨⟨a, t⟩, h4⟩ := Option.isSome_iff_exists.1 h3
    obtain ⟨e1, e2⟩ := h.yes a t h1 h2 h4
    obtain ⟨e3, e4⟩ := k.yes a t h1 h2 h4
    exact .inl ⟨e1, e3, e2.trans e4.symm⟩
  · exact .inr ⟨(h.no hv).1, (k.no hv).1⟩
end Go.Proofs.YtlckofoabnnlhaaDoor

/- What Pick may answer, plainly: who goes, what they leave, how many of a job. No conditions. -/
namespace Go.Proofs.YtlckofoabnnlhaaDoor
open Go

/-- It fits somewhere as it is. -/
def freeH (x : V4) (H : List Hst) : Bool := H.any fun h => fitsV x h.left
/-- What the victims leave behind, one resource. -/
def needG (r : Nat) (L : List Gst) : Int := (L.map fun g => comp r g.need).sum
theorem needG_snoc (r : Nat) (L : List Gst) (g : Gst) : needG r (L ++ [g]) = needG r L + comp r g.need := by simp [needG, List.sum_append]
theorem cap_le (a b : Int) : capM (a + b) ≤ a + b := by unfold capM; split <;> omega
theorem more_le (r : Nat) (x y : V4) : comp r (moreV x y) ≤ comp r x + comp r y := by
  rcases r with _ | _ | _ | r <;> exact cap_le _ _
/-- What is left of a host is at most what it had and what its victims need. -/
theorem clear_le {x : V4} {al : Int → Int} {l : V4} (r : Nat) : ∀ (line : List Gst), comp r (clearK x al l line).1 ≤ comp r l + needG r (clearK x al l line).2 := by
  have key : ∀ (L : List Gst) (s : V4 × List Gst), comp r s.1 ≤ comp r l + needG r s.2 → comp r (L.foldl (stepK x al) s).1 ≤ comp r l + needG r (L.foldl (stepK x al) s).2 := fun L => by
    induction L with
    | nil => intro s h; exact h
    | cons g q ih =>
      intro s h
      refine ih _ ?_
      unfold stepK
      split
      · exact h
      · have := more_le r s.1 g.need
        simp only [needG_snoc]
        omega
  exact fun line => key line _ (by simp [needG])
/-- Of no job more than may. -/
theorem clear_cnt {x : V4} {al : Int → Int} {l : V4} (line : List Gst) : ∀ g ∈ (clearK x al l line).2, (cntJ g.task.job (clearK x al l line).2 : Int) ≤ al g.task.job := by
  have key : ∀ (L : List Gst) (s : V4 × List Gst), (∀ j : Int, 0 < cntJ j s.2 → (cntJ j s.2 : Int) ≤ al j) → ∀ j : Int, 0 < cntJ j (L.foldl (stepK x al) s).2 → (cntJ j (L.foldl (stepK x al) s).2 : Int) ≤ al j := fun L => by
    induction L with
    | nil => intro s h; exact h
    | cons g q ih =>
      intro s h
      refine ih _ fun j hj => ?_
      unfold stepK at hj ⊢
      split at hj
      · rename_i hc
        rw [if_pos hc]; exact h j hj
      · rename_i hc
        rw [if_neg hc]
        rw [not_or] at hc
        have e : cntJ j (s.2 ++ [g]) = cntJ j s.2 + if g.task.job = j then 1 else 0 := by
          unfold cntJ; rw [List.countP_append, List.countP_singleton]; simp
        simp only [e] at hj ⊢
        by_cases e1 : g.task.job = j
        · subst e1
          have := hc.2
          simp only [if_true]
          omega
        · rw [if_neg e1] at hj ⊢
          exact h j hj
  intro g hg
  refine key line (l, []) (fun j hj => by simp [cntJ] at hj) g.task.job ?_
  exact List.countP_pos_iff.2 ⟨g, hg, by simp⟩
theorem clear_cand {x : V4} {al : Int → Int} {l : V4} {line : List Gst} {y : Gst} (h : y ∈ (clearK x al l line).2) : y ∈ line := by
  have key : ∀ (L : List Gst) (s : V4 × List Gst), y ∈ (L.foldl (stepK x al) s).2 → y ∈ s.2 ∨ y ∈ L := fun L => by
    induction L with
    | nil => intro s h; exact .inl h
    | cons g q ih =>
      intro s h
      rcases ih _ h with h1 | h1
      · unfold stepK at h1
        split at h1
        · exact .inl h1
        · rcases List.mem_append.1 h1 with h2 | h2
          · exact .inl h2
          · rw [List.mem_singleton] at h2; subst h2; exact .inr (List.mem_cons_self ..)
      · exact .inr (List.mem_cons_of_mem _ h1)
  rcases key line (l, []) h with h1 | h1
  · cases h1
  · exact h1
/-- What the law asks of Pick's answer. -/
structure FairP (H : List Hst) (x : V4) (band : Int) (S : List Spr) (host : Int) (out : List Gst) (er : Nat) : Prop where
  le : er ≤ 14
  bad : er ≠ 0 → host = 0 ∧ out = [] ∧ (er = 1 ∨ freeH x H = false)
  free : er = 0 → freeH x H = decide (out = [])
  who : er = 0 → ∀ h ∈ H, h.id = host → goodV h.left = true ∧ (∀ g ∈ h.on, goodV g.need = true) ∧ (∀ g ∈ out, g ∈ h.on ∧ band < g.band ∧ g.env = false) ∧ ∀ r, comp r x ≤ comp r h.left + needG r out
  many : er = 0 → ∀ g ∈ out, (cntJ g.task.job out : Int) ≤ alS S g.task.job
  few : er = 0 → out.length ≤ 10 ∨ out = []
theorem ids_one {H : List Hst} (hn : (H.map (·.id)).Nodup) {a b : Nat} {h k : Hst} (ha : H[a]? = some h) (hb : H[b]? = some k) (he : h.id = k.id) : h = k := by
  obtain ⟨h1, h2⟩ := List.getElem?_eq_some_iff.1 ha
  obtain ⟨h3, h4⟩ := List.getElem?_eq_some_iff.1 hb
  have hne : ∀ (i j : Nat) (p q : Hst), H[i]? = some p → H[j]? = some q → i < j → p.id ≠ q.id := fun i j p q hi hj hij => by
    obtain ⟨i1, i2⟩ := List.getElem?_eq_some_iff.1 hi
    obtain ⟨j1, j2⟩ := List.getElem?_eq_some_iff.1 hj
    have := List.pairwise_iff_getElem.1 hn i j (by simpa using i1) (by simpa using j1) hij
    simpa [i2, j2] using this
  rcases Nat.lt_trichotomy a b with h5 | rfl | h5
  · exact absurd he (hne a b h k ha hb h5)
  · rw [← h2, ← h4]
  · exact absurd he.symm (hne b a k h hb ha h5)
theorem fair_pick {H : List Hst} {x : V4} {band host : Int} {S : List Spr} {out : List Gst} {er : Nat} (hlen : ∀ h ∈ H, h.on.length ≤ 10) (h : PickR H x band S host out er) : FairP H x band S host out er := by
  obtain ⟨R, hR, hp⟩ := h
  unfold pickK at hp
  by_cases hv : validH H = true ∧ goodV x = true
  · rw [if_pos hv, lined_spt hR] at hp
    have hvv := hv.1
    unfold validH at hvv
    rw [Bool.and_eq_true, List.all_eq_true, decide_eq_true_eq] at hvv
    have okp : ∀ h ∈ H, goodV h.left = true ∧ ∀ g ∈ h.on, goodV g.need = true := fun h hh => by
      have := hvv.1 h hh
      unfold okH at this
      rw [Bool.and_eq_true, List.all_eq_true] at this
      exact this
    cases hb : bestS x (H.map Hst.spt) with
    | some q =>
      obtain ⟨a, t⟩ := q
      rw [hb] at hp
      simp only [Prod.mk.injEq] at hp
      obtain ⟨rfl, rfl, rfl⟩ := hp
      have h1 := bestS_get hb
      have h2 := bestS_fit hb
      rw [List.getElem?_map] at h1
      obtain ⟨y, hy, rfl⟩ := Option.map_eq_some_iff.1 h1
      have hyf : fitsV x y.left = true := (fitS_iff (okp y (List.mem_of_getElem? hy)).1 hv.2).1 h2
      refine ⟨by omega, fun e => absurd rfl e, fun _ => ?_, fun _ k hk e => ?_, fun _ g hg => (by cases hg), fun _ => .inr rfl⟩
      · rw [decide_eq_true rfl]
        exact List.any_eq_true.2 ⟨y, List.mem_of_getElem? hy, hyf⟩
      · obtain ⟨b, hb'⟩ := List.getElem?_of_mem hk
        obtain rfl := ids_one hvv.2 hb' hy e
        exact ⟨(okp k hk).1, (okp k hk).2, fun g hg => (by cases hg), fun r => by have := fits_comp.1 hyf r; simp [needG]; omega⟩
    | none =>
      have hf := best_none_fits hv.2 (R := H) (fun r hr => (okp r hr).1) hb
      have hfree : freeH x H = false := by
        unfold freeH
        rw [List.any_eq_false]
        intro y hy
        rw [hf y hy]; simp
      rw [hb] at hp
      cases hfw : fewK x (alS S) R with
      | some q =>
        obtain ⟨a, t, o⟩ := q
        rw [hfw] at hp
        simp only [Prod.mk.injEq] at hp
        obtain ⟨rfl, rfl, rfl⟩ := hp
        obtain ⟨ht, ho, hft⟩ := fewK_at x _ _ R rfl a t out hfw
        obtain ⟨y, hy⟩ : ∃ y, H[a]? = some y := ⟨_, List.getElem?_eq_getElem (by rw [← hR.1]; exact (List.getElem?_eq_some_iff.1 ht).1)⟩
        obtain ⟨e1, e2, e3⟩ := hR.2 a y t hy ht
        have hym := List.mem_of_getElem? hy
        refine ⟨by omega, fun e => absurd rfl e, fun _ => ?_, fun _ k hk e => ?_, fun _ g hg => ?_, fun _ => .inl ?_⟩
        · rw [hfree]
          symm
          rw [decide_eq_false_iff_not]
          intro he
          have h0 := clear_le (x := x) (al := alS S) (l := t.left) 0 t.on
          have hall : ∀ r, comp r x ≤ comp r t.left := fun r => by
            have h1 := clear_le (x := x) (al := alS S) (l := t.left) r t.on
            rw [← ho, he] at h1
            have h2 := fits_comp.1 hft r
            simp [needG] at h1
            omega
          have h3 := hf y hym
          rw [← e2, fits_comp.2 hall] at h3
          cases h3
        · obtain ⟨b, hb'⟩ := List.getElem?_of_mem hk
          obtain rfl := ids_one hvv.2 hb' hy (e.trans e1)
          refine ⟨(okp k hk).1, (okp k hk).2, fun g hg => ?_, fun r => ?_⟩
          · rw [ho] at hg
            have h1 := e3.mem_iff.1 (clear_cand hg)
            obtain ⟨h2, h3⟩ := List.mem_filter.1 h1
            unfold candG at h3
            rw [Bool.and_eq_true, decide_eq_true_eq, Bool.not_eq_true'] at h3
            exact ⟨h2, h3.1, h3.2⟩
          · have h1 := clear_le (x := x) (al := alS S) (l := t.left) r t.on
            have h2 := fits_comp.1 hft r
            rw [ho, ← e2]
            omega
        · rw [ho] at hg ⊢
          exact clear_cnt _ g hg
        · have h1 : ∀ (L : List Gst) (s : V4 × List Gst), (L.foldl (stepK x (alS S)) s).2.length ≤ s.2.length + L.length := fun L => by
            induction L with
            | nil => intro s; simp
            | cons g r ih =>
              intro s
              have h2 : (stepK x (alS S) s g).2.length ≤ s.2.length + 1 := by unfold stepK; split <;> simp
              have := ih (stepK x (alS S) s g)
              simp only [List.foldl_cons, List.length_cons]
              omega
          have h2 := h1 t.on (t.left, [])
          have h3 := e3.length_eq
          have h4 := List.length_filter_le (candG band) y.on
          have h5 := hlen y hym
          rw [ho]
          unfold clearK
          simp only [List.length_nil, Nat.zero_add] at h2
          omega
      | none =>
        rw [hfw] at hp
        by_cases hi : (fewK x alInf R).isSome = true
        · simp only [if_pos hi, Prod.mk.injEq] at hp
          obtain ⟨rfl, rfl, rfl⟩ := hp
          exact ⟨by omega, fun _ => ⟨rfl, rfl, .inr hfree⟩, fun e => (by cases e), fun e => (by cases e), fun e => (by cases e), fun e => (by cases e)⟩
        · simp only [if_neg hi, Prod.mk.injEq] at hp
          obtain ⟨rfl, rfl, rfl⟩ := hp
          exact ⟨by omega, fun _ => ⟨rfl, rfl, .inr hfree⟩, fun e => (by cases e), fun e => (by cases e), fun e => (by cases e), fun e => (by cases e)⟩
  · rw [if_neg hv] at hp
    simp only [Prod.mk.injEq] at hp
    obtain ⟨rfl, rfl, rfl⟩ := hp
    exact ⟨by omega, fun _ => ⟨rfl, rfl, .inl rfl⟩, fun e => (by cases e), fun e => (by cases e), fun e => (by cases e), fun e => (by cases e)⟩
/-- What the law finds that a job may lose. -/
def mayS : List Spr → Int → Int
  | [], _ => 0
  | s :: r, j => if s.job = j then s.left else mayS r j
theorem may_al (S : List Spr) (j : Int) : alS S j = max (mayS S j) 0 := by
  induction S with
  | nil => rfl
  | cons s r ih => unfold alS mayS; split <;> simp_all
theorem mayS_drop {S : List Spr} {k : Nat} {s : Spr} (h : S[k]? = some s) (j : Int) : mayS (S.drop k) j = if s.job = j then s.left else mayS (S.drop (k + 1)) j := by
  obtain ⟨h1, rfl⟩ := List.getElem?_eq_some_iff.1 h
  rw [List.drop_eq_getElem_cons h1]
  rfl
end Go.Proofs.YtlckofoabnnlhaaDoor

/- A vector that came in. No conditions. -/
namespace Go.Proofs.YtlckofoabnnlhaaDoor
open Go Go.ChangeShapes Go.WideShapes Go.ChangeAt Go.WideMaps Go.WideElems Go.RowKit

section
variable {H : Type} {enc : TypeId × Value → H} {P : Program} {w : World} {base : Nat} {spare : Nat → Bool} {held : Bool}
/-- Five arguments that came in. -/
theorem trodAll_five {t0 t1 t2 t3 t4 : TypeId} {args : Array Value} {ds : List (DataW H)} {ps : List MemPlace} (h : DataW.TrodAll enc P w base spare held [t0, t1, t2, t3, t4] args.toList ds ps) :
    ∃ v0 v1 v2 v3 v4 d0 d1 d2 d3 d4 p0 p1 p2 p3 p4, args = #[v0, v1, v2, v3, v4] ∧ ds = [d0, d1, d2, d3, d4] ∧ ps = p0 ++ p1 ++ p2 ++ p3 ++ p4 ∧ DataW.Trod enc P w base spare held t0 v0 d0 p0 ∧ DataW.Trod enc P w base spare held t1 v1 d1 p1 ∧ DataW.Trod enc P w base spare held t2 v2 d2 p2 ∧ DataW.Trod enc P w base spare held t3 v3 d3 p3 ∧ DataW.Trod enc P w base spare held t4 v4 d4 p4 := by
  obtain ⟨v0, vs0, d0, ds0, p0, q0, hargs, rfl, rfl, k0, r0⟩ := trodAll_cons h
  obtain ⟨v1, vs1, d1, ds1, p1, q1, rfl, rfl, rfl, k1, r1⟩ := trodAll_cons r0
  obtain ⟨v2, vs2, d2, ds2, p2, q2, rfl, rfl, rfl, k2, r2⟩ := trodAll_cons r1
  obtain ⟨v3, vs3, d3, ds3, p3, q3, rfl, rfl, rfl, k3, r3⟩ := trodAll_cons r2
  obtain ⟨v4, vs4, d4, ds4, p4, q4, rfl, rfl, rfl, k4, r4⟩ := trodAll_cons r3
  obtain ⟨rfl, rfl, rfl⟩ := trodAll_nil r4
  exact ⟨v0, v1, v2, v3, v4, d0, d1, d2, d3, d4, p0, p1, p2, p3, p4, by cases args; simp_all, rfl, by simp, k0, k1, k2, k3, k4⟩
end
/-- A vector that came in. -/
theorem open_vec {H : Type} {enc : TypeId × Value → H} {w : World} {base : Nat} {spare : Nat → Bool} {held : Bool} {v : Value} {d : DataW H} {ps : List MemPlace}
    (h : DataW.Trod enc Tryd.prog w base spare held 24 v d ps) : ∃ x : V4, v = .agg #[.int .i64 x.a, .int .i64 x.b, .int .i64 x.c, .int .i64 x.d] := by
  obtain ⟨fuel, hf⟩ := h
  obtain ⟨xs, m, _, hx, hlen, hxl, hel⟩ := DataW.trod_array (show Tryd.prog.underlying 24 = some (.array 4 3) by kernel_rfl) hf
  have c4 : Tryd.prog.cellsOf 24 = 4 := by kernel_rfl
  have c1 : Tryd.prog.cellsOf 3 = 1 := by kernel_rfl
  rw [c4] at hlen
  rw [c1] at hel
  have key : ∀ c : Value, (∃ z, DataW.trod enc Tryd.prog w base spare held m 3 [c] = some z) → ∃ n, c = .int .i64 n := by
    rintro c ⟨z, hz⟩
    obtain ⟨n, hn, _⟩ := DataW.trod_int Tryd.underlying3 hz
    exact ⟨n, by simpa using hn⟩
  have hsome : ∀ i, i < 4 → ∃ z, xs[i]? = some z := fun i hi => ⟨_, List.getElem?_eq_getElem (by omega)⟩
  obtain ⟨c0, c1', c2, c3, hcs⟩ : ∃ c0 c1 c2 c3, v.cells.toList = [c0, c1, c2, c3] := by
    match v.cells.toList, hlen with
    | [a, b, c, e], _ => exact ⟨a, b, c, e, rfl⟩
  rw [hcs] at hel
  obtain ⟨z0, e0⟩ := hsome 0 (by omega)
  obtain ⟨z1, e1⟩ := hsome 1 (by omega)
  obtain ⟨z2, e2⟩ := hsome 2 (by omega)
  obtain ⟨z3, e3⟩ := hsome 3 (by omega)
  obtain ⟨n0, rfl⟩ := key c0 ⟨z0, (hel 0 (by omega)).trans e0⟩
  obtain ⟨n1, rfl⟩ := key c1' ⟨z1, (hel 1 (by omega)).trans e1⟩
  obtain ⟨n2, rfl⟩ := key c2 ⟨z2, (hel 2 (by omega)).trans e2⟩
  obtain ⟨n3, rfl⟩ := key c3 ⟨z3, (hel 3 (by omega)).trans e3⟩
  refine ⟨⟨n0, n1, n2, n3⟩, ?_⟩
  cases v with
  | agg cs =>
    obtain ⟨l⟩ := cs
    have : l = [.int .i64 n0, .int .i64 n1, .int .i64 n2, .int .i64 n3] := hcs
    rw [this]
  | _ => simp [Value.cells] at hcs
end Go.Proofs.YtlckofoabnnlhaaDoor

/- How hosts, guests and allowances that came in read. No conditions. -/
namespace Go.Proofs.YtlckofoabnnlhaaDoor
open Go Go.ChangeShapes Go.WideShapes Go.ChangeAt Go.WideMaps Go.WideElems Go.RowKit

theorem some_ofVi {α : Type} {l : List α} {i : Nat} {o : Option α} (h : o = l[i]?) (hi : i < l.length) : ∃ x, o = some x := ⟨_, h.trans (List.getElem?_eq_getElem hi)⟩
def GoodGst (g : Gst) : Prop := okT g.task ∧ i64 g.band ∧ okV g.need
def GoodHst (w : World) (h : Hst) : Prop := i64 h.id ∧ okV h.left ∧ ReadsE encGst w h.A h.on ∧ (∀ g ∈ h.on, GoodGst g) ∧ h.on.length ≤ 9223372036854775807
def GoodSpr (s : Spr) : Prop := i64 s.job ∧ i64 s.left
section
variable {H : Type} {enc : TypeId × Value → H} {w : World} {base : Nat} {spare : Nat → Bool} {held : Bool}

set_option maxRecDepth 100000 in
theorem tk_cellsVi {fuel : Nat} {cs : List Value} {x : DataW H × List MemPlace} (h : DataW.trod enc Tryd.prog w 0 spare held fuel 33 cs = some x) :
    ∃ x : Tk, cs = [.int .i64 x.job, .int .i64 x.ix] ∧ okT x := by
  obtain ⟨xs, m, _, hx, hlen, hxl, hg⟩ := DataW.trod_struct Tryd.underlying33 h
  have cN : Tryd.prog.cellsOf 33 = 2 := by kernel_rfl
  rw [cN] at hlen
  have hl5 : xs.length = 2 := hxl
  obtain ⟨k0, k1, rfl⟩ : ∃ k0 k1, cs = [k0, k1] := by
    match cs, hlen with
    | [q0, q1], _ => exact ⟨q0, q1, rfl⟩
  have z_int : Tryd.prog.cellsOf 3 = 1 := by kernel_rfl
  have g0 : DataW.trod enc Tryd.prog w 0 spare held m 3 [k0] = xs[0]? := by
    have := hg 0 _ rfl
    change DataW.trod enc Tryd.prog w 0 spare held m 3 (([k0, k1].drop 0).take (Tryd.prog.cellsOf 3)) = xs[0]? at this
    rw [z_int] at this
    exact this
  have g1 : DataW.trod enc Tryd.prog w 0 spare held m 3 [k1] = xs[1]? := by
    have := hg 1 _ rfl
    change DataW.trod enc Tryd.prog w 0 spare held m 3 (([k0, k1].drop 1).take (Tryd.prog.cellsOf 3)) = xs[1]? at this
    rw [z_int] at this
    exact this
  obtain ⟨y0, e0⟩ := some_ofVi g0 (by omega)
  obtain ⟨n0, h0, _, i0⟩ := DataW.trod_int Tryd.underlying3 e0
  obtain ⟨y1, e1⟩ := some_ofVi g1 (by omega)
  obtain ⟨n1, h1, _, i1⟩ := DataW.trod_int Tryd.underlying3 e1
  simp only [List.cons.injEq, and_true] at h0 h1
  subst h0
  subst h1
  exact ⟨⟨n0, n1⟩, rfl, ⟨i64_lo i0, i64_hi i0⟩, i64_lo i1, i64_hi i1⟩
set_option maxRecDepth 100000 in
theorem cells_Gst {fuel : Nat} {cs : List Value} {x : DataW H × List MemPlace} (h : DataW.trod enc Tryd.prog w 0 spare held fuel 35 cs = some x) :
    ∃ x : Gst, cs = encGst.enc x ∧ GoodGst x := by
  obtain ⟨xs, m, _, hx, hlen, hxl, hg⟩ := DataW.trod_struct Tryd.underlying35 h
  have cN : Tryd.prog.cellsOf 35 = 8 := by kernel_rfl
  rw [cN] at hlen
  have hl5 : xs.length = 4 := hxl
  obtain ⟨k0, k1, k2, k3, k4, k5, k6, k7, rfl⟩ : ∃ k0 k1 k2 k3 k4 k5 k6 k7, cs = [k0, k1, k2, k3, k4, k5, k6, k7] := by
    match cs, hlen with
    | [q0, q1, q2, q3, q4, q5, q6, q7], _ => exact ⟨q0, q1, q2, q3, q4, q5, q6, q7, rfl⟩
  have z_apiTask : Tryd.prog.cellsOf 33 = 2 := by kernel_rfl
  have z_apiVec : Tryd.prog.cellsOf 24 = 4 := by kernel_rfl
  have z_bool : Tryd.prog.cellsOf 4 = 1 := by kernel_rfl
  have z_int : Tryd.prog.cellsOf 3 = 1 := by kernel_rfl
  have g0 : DataW.trod enc Tryd.prog w 0 spare held m 33 [k0, k1] = xs[0]? := by
    have := hg 0 _ rfl
    change DataW.trod enc Tryd.prog w 0 spare held m 33 (([k0, k1, k2, k3, k4, k5, k6, k7].drop 0).take (Tryd.prog.cellsOf 33)) = xs[0]? at this
    rw [z_apiTask] at this
    exact this
  have g1 : DataW.trod enc Tryd.prog w 0 spare held m 3 [k2] = xs[1]? := by
    have := hg 1 _ rfl
    change DataW.trod enc Tryd.prog w 0 spare held m 3 (([k0, k1, k2, k3, k4, k5, k6, k7].drop 2).take (Tryd.prog.cellsOf 3)) = xs[1]? at this
    rw [z_int] at this
    exact this
  have g2 : DataW.trod enc Tryd.prog w 0 spare held m 4 [k3] = xs[2]? := by
    have := hg 2 _ rfl
    change DataW.trod enc Tryd.prog w 0 spare held m 4 (([k0, k1, k2, k3, k4, k5, k6, k7].drop 3).take (Tryd.prog.cellsOf 4)) = xs[2]? at this
    rw [z_bool] at this
    exact this
  have g3 : DataW.trod enc Tryd.prog w 0 spare held m 24 [k4, k5, k6, k7] = xs[3]? := by
    have := hg 3 _ rfl
    change DataW.trod enc Tryd.prog w 0 spare held m 24 (([k0, k1, k2, k3, k4, k5, k6, k7].drop 4).take (Tryd.prog.cellsOf 24)) = xs[3]? at this
    rw [z_apiVec] at this
    exact this
  obtain ⟨y0, e0⟩ := some_ofVi g0 (by omega)
  obtain ⟨n0, h0, i0⟩ := tk_cellsVi e0
  obtain ⟨y1, e1⟩ := some_ofVi g1 (by omega)
  obtain ⟨n1, h1, _, i1⟩ := DataW.trod_int Tryd.underlying3 e1
  obtain ⟨y2, e2⟩ := some_ofVi g2 (by omega)
  obtain ⟨n2, h2, _⟩ := DataW.trod_bool Tryd.underlying4 e2
  obtain ⟨y3, e3⟩ := some_ofVi g3 (by omega)
  obtain ⟨n3, h3, i3⟩ := v4_cells e3
  simp only [List.cons.injEq, and_true] at h0 h1 h2 h3
  obtain ⟨rfl, rfl⟩ := h0
  subst h1
  subst h2
  obtain ⟨rfl, rfl, rfl, rfl⟩ := h3
  exact ⟨⟨n0, n1, n2, n3⟩, rfl, i0, ⟨i64_lo i1, i64_hi i1⟩, i3⟩
/-- The cell of a slice of guests. -/
theorem cells_gs {fuel : Nat} {cs : List Value} {x : DataW H × List MemPlace} (hf : DataW.trod enc Tryd.prog w 0 spare held fuel 29 cs = some x) :
    ∃ (A : Option Addr) (c : Nat) (zs : List Gst), cs = [.slice A zs.length c] ∧ ReadsE encGst w A zs ∧ (∀ g ∈ zs, GoodGst g) ∧ zs.length ≤ 9223372036854775807 := by
  have cN : Tryd.prog.cellsOf 35 = 8 := by kernel_rfl
  have hu : Tryd.prog.underlying 29 = some (.slice 35) := by kernel_rfl
  rcases Go.Deep.open_slice hu hf with ⟨hcs, _⟩ | ⟨a, len, cap, m, n, D, Pl, hcs, hb, hl, hm, hmm, hx, hi⟩
  · exact ⟨none, 0, [], hcs, (fun i x h => by cases h), (fun z h => absurd h List.not_mem_nil), (by rw [List.length_nil]; omega)⟩
  · have hlm : len ≤ m := by rw [hmm]; split <;> omega
    obtain ⟨zs, hlen, hz⟩ := list_ofL (n := len) (p := fun i x => (∀ r u, (encGst.enc x)[r]? = some u → w.cell? (a.add (i * 8 + r)) = some u) ∧ GoodGst x) (fun i hin => by
      obtain ⟨cs', h1, h2⟩ := hi i (by omega)
      rw [cN] at h1
      obtain ⟨z, rfl, hg⟩ := cells_Gst h2
      obtain ⟨_, _, hat⟩ := World.cells?_some h1
      refine ⟨z, fun r u hr => ?_, hg⟩
      have hrn : r < 8 := by
        have := (List.getElem?_eq_some_iff.1 hr).1
        rwa [encGst.len] at this
      rw [← add_addE]
      exact (hat r hrn).trans hr)
    subst hlen
    refine ⟨some a, cap, zs, hcs, fun i x hi => ?_, fun z hzm => ?_, by unfold maxLen at hm; omega⟩
    · have h0 := (hz i x hi).1 0 _ rfl
      refine ⟨a, a.add (i * 8), rfl, rfl, ?_, fun r u hu => ?_⟩
      · have := lt_of_cell h0
        rw [Nat.add_zero] at this
        exact this
      · rw [add_addE]; exact (hz i x hi).1 r u hu
    · obtain ⟨i, hi'⟩ := List.getElem?_of_mem hzm
      exact (hz i z hi').2
set_option maxRecDepth 100000 in
theorem cells_Hst {fuel : Nat} {cs : List Value} {x : DataW H × List MemPlace} (h : DataW.trod enc Tryd.prog w 0 spare held fuel 31 cs = some x) :
    ∃ x : Hst, cs = encHst.enc x ∧ GoodHst w x := by
  obtain ⟨xs, m, _, hx, hlen, hxl, hg⟩ := DataW.trod_struct Tryd.underlying31 h
  have cN : Tryd.prog.cellsOf 31 = 6 := by kernel_rfl
  rw [cN] at hlen
  have hl5 : xs.length = 3 := hxl
  obtain ⟨k0, k1, k2, k3, k4, k5, rfl⟩ : ∃ k0 k1 k2 k3 k4 k5, cs = [k0, k1, k2, k3, k4, k5] := by
    match cs, hlen with
    | [q0, q1, q2, q3, q4, q5], _ => exact ⟨q0, q1, q2, q3, q4, q5, rfl⟩
  have z_victimGuest : Tryd.prog.cellsOf 29 = 1 := by kernel_rfl
  have z_apiVec : Tryd.prog.cellsOf 24 = 4 := by kernel_rfl
  have z_int : Tryd.prog.cellsOf 3 = 1 := by kernel_rfl
  have g0 : DataW.trod enc Tryd.prog w 0 spare held m 3 [k0] = xs[0]? := by
    have := hg 0 _ rfl
    change DataW.trod enc Tryd.prog w 0 spare held m 3 (([k0, k1, k2, k3, k4, k5].drop 0).take (Tryd.prog.cellsOf 3)) = xs[0]? at this
    rw [z_int] at this
    exact this
  have g1 : DataW.trod enc Tryd.prog w 0 spare held m 24 [k1, k2, k3, k4] = xs[1]? := by
    have := hg 1 _ rfl
    change DataW.trod enc Tryd.prog w 0 spare held m 24 (([k0, k1, k2, k3, k4, k5].drop 1).take (Tryd.prog.cellsOf 24)) = xs[1]? at this
    rw [z_apiVec] at this
    exact this
  have g2 : DataW.trod enc Tryd.prog w 0 spare held m 29 [k5] = xs[2]? := by
    have := hg 2 _ rfl
    change DataW.trod enc Tryd.prog w 0 spare held m 29 (([k0, k1, k2, k3, k4, k5].drop 5).take (Tryd.prog.cellsOf 29)) = xs[2]? at this
    rw [z_victimGuest] at this
    exact this
  obtain ⟨y0, e0⟩ := some_ofVi g0 (by omega)
  obtain ⟨n0, h0, _, i0⟩ := DataW.trod_int Tryd.underlying3 e0
  obtain ⟨y1, e1⟩ := some_ofVi g1 (by omega)
  obtain ⟨n1, h1, i1⟩ := v4_cells e1
  obtain ⟨y2, e2⟩ := some_ofVi g2 (by omega)
  obtain ⟨A2, c2, xs2, h2, r2, G2, l2⟩ := cells_gs e2
  simp only [List.cons.injEq, and_true] at h0 h1 h2
  subst h0
  obtain ⟨rfl, rfl, rfl, rfl⟩ := h1
  subst h2
  exact ⟨⟨n0, n1, xs2, A2, c2⟩, rfl, ⟨i64_lo i0, i64_hi i0⟩, i1, r2, G2, l2⟩
set_option maxRecDepth 100000 in
theorem cells_Spr {fuel : Nat} {cs : List Value} {x : DataW H × List MemPlace} (h : DataW.trod enc Tryd.prog w 0 spare held fuel 45 cs = some x) :
    ∃ x : Spr, cs = encSpr.enc x ∧ GoodSpr x := by
  obtain ⟨xs, m, _, hx, hlen, hxl, hg⟩ := DataW.trod_struct Tryd.underlying45 h
  have cN : Tryd.prog.cellsOf 45 = 2 := by kernel_rfl
  rw [cN] at hlen
  have hl5 : xs.length = 2 := hxl
  obtain ⟨k0, k1, rfl⟩ : ∃ k0 k1, cs = [k0, k1] := by
    match cs, hlen with
    | [q0, q1], _ => exact ⟨q0, q1, rfl⟩
  have z_int : Tryd.prog.cellsOf 3 = 1 := by kernel_rfl
  have g0 : DataW.trod enc Tryd.prog w 0 spare held m 3 [k0] = xs[0]? := by
    have := hg 0 _ rfl
    change DataW.trod enc Tryd.prog w 0 spare held m 3 (([k0, k1].drop 0).take (Tryd.prog.cellsOf 3)) = xs[0]? at this
    rw [z_int] at this
    exact this
  have g1 : DataW.trod enc Tryd.prog w 0 spare held m 3 [k1] = xs[1]? := by
    have := hg 1 _ rfl
    change DataW.trod enc Tryd.prog w 0 spare held m 3 (([k0, k1].drop 1).take (Tryd.prog.cellsOf 3)) = xs[1]? at this
    rw [z_int] at this
    exact this
  obtain ⟨y0, e0⟩ := some_ofVi g0 (by omega)
  obtain ⟨n0, h0, _, i0⟩ := DataW.trod_int Tryd.underlying3 e0
  obtain ⟨y1, e1⟩ := some_ofVi g1 (by omega)
  obtain ⟨n1, h1, _, i1⟩ := DataW.trod_int Tryd.underlying3 e1
  simp only [List.cons.injEq, and_true] at h0 h1
  subst h0
  subst h1
  exact ⟨⟨n0, n1⟩, rfl, ⟨i64_lo i0, i64_hi i0⟩, i64_lo i1, i64_hi i1⟩
set_option maxRecDepth 100000 in
theorem open_hosts {v : Value} {d : DataW H} {ps : List MemPlace} (hv : Value.okWide Tryd.prog w .any base 22 v) (h : DataW.Trod enc Tryd.prog w 0 spare held 22 v d ps) :
    ∃ (A : Option Addr) (c : Nat) (xs : List Hst), v = .slice A xs.length c ∧ HostsIn w A xs ∧ xs.length ≤ 9223372036854775807 ∧ (∀ h ∈ xs, GoodHst w h) := by
  obtain ⟨A, c, xs, rfl, h1, h2, h3, _⟩ := open_lies encHst (GoodHst w) (by decide) (by kernel_rfl) (by kernel_rfl) (fun _ _ _ h => cells_Hst h) hv h
  exact ⟨A, c, xs, rfl, ⟨lies_reads (by decide) h1, fun x hx => (h2 x hx).2.2.1, fun x hx => (h2 x hx).1, fun x hx g hg => ((h2 x hx).2.2.2.1 g hg).1.1⟩, h3, h2⟩
set_option maxRecDepth 100000 in
theorem open_sprs {v : Value} {d : DataW H} {ps : List MemPlace} (hv : Value.okWide Tryd.prog w .any base 25 v) (h : DataW.Trod enc Tryd.prog w 0 spare held 25 v d ps) :
    ∃ (A : Option Addr) (c : Nat) (xs : List Spr), v = .slice A xs.length c ∧ ReadsE encSpr w A xs ∧ (∀ x ∈ xs, GoodSpr x) ∧ xs.length ≤ 9223372036854775807 := by
  obtain ⟨A, c, xs, rfl, h1, h2, h3, _⟩ := open_lies encSpr GoodSpr (by decide) (by kernel_rfl) (by kernel_rfl) (fun _ _ _ h => cells_Spr h) hv h
  exact ⟨A, c, xs, rfl, lies_reads (by decide) h1, h2, h3⟩
end
end Go.Proofs.YtlckofoabnnlhaaDoor
