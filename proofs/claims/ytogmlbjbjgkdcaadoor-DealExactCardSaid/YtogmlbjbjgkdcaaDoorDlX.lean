/- Matching in plain words (stage 14): an order that comes, whole. No conditions. -/
import Derived.Test.YtogmlbjbjgkdcaaDoorDlF
namespace Go.Proofs.YtogmlbjbjgkdcaaDoor

/-- An order comes: the book behind it, the fills, the lots that stand, the error. -/
def matchO (b : RB) (o : Od) : RB × List Fl × Nat × Nat :=
  if (addR13 b o).2 = 0 then
    let r := dealO 32 b o o.lots.toNat
    (if r.2.1 = 0 then r.1 else (addR13 r.1 { o with lots := (r.2.1 : Nat) }).1, r.2.2, r.2.1, 0)
  else (b, [], 0, (addR13 b o).2)
theorem deal_ids (o : Od) : ∀ (f : Nat) (b : RB) (k : Nat), GB b → ∀ z ∈ (dealO f b o k).1.L, ∃ y ∈ b.L, y.id = z.id
  | 0, _, _, _, z, hz => ⟨z, hz, rfl⟩
  | f + 1, b, k, h, z, hz => by
    rw [dealO] at hz
    split at hz
    · exact ⟨z, hz, rfl⟩
    · cases hl : listR13 b.L (!o.sell) with
      | nil => rw [hl] at hz; exact ⟨z, hz, rfl⟩
      | cons x S =>
        rw [hl] at hz
        simp only at hz
        split at hz
        · obtain ⟨p, hc, hs⟩ := best_place h hl
          have hlots := h.lots x (List.mem_of_getElem? hc.place)
          by_cases hk : k = 0
          · contradiction
          · have cm : cutR13 b x.id ((min k x.lots.toNat : Nat) : Int) = (bkC b p x (x.lots - ((min k x.lots.toNat : Nat) : Int)), 0) := by
              have := hc.cut (n := x.lots) (m := ((min k x.lots.toNat : Nat) : Int)) (by omega) (by omega) hlots.2
              rwa [hc.start] at this
            rw [cm] at hz
            obtain ⟨y, hy, he⟩ := deal_ids o f _ _ (hc.good _ (by omega) (by omega)) z hz
            by_cases hn : x.lots - ((min k x.lots.toNat : Nat) : Int) = 0
            · rw [hn] at hy
              exact ⟨y, (bkC_mem hc hy).1, he⟩
            · rw [hc.map hn] at hy
              obtain ⟨y', hy', rfl⟩ := List.mem_map.1 hy
              exact ⟨y', hy', by rw [← he, (atId_same _ _ y').1]⟩
        · exact ⟨z, hz, rfl⟩
/-- What an order that can come finds. -/
theorem came_ok {b : RB} {o : Od} (h : (addR13 b o).2 = 0) : goodO o = true ∧ (∀ z ∈ b.L, z.id ≠ o.id) ∧ b.L.length < 32 := by
  unfold addR13 at h
  split at h
  · rename_i hg
    split at h
    · simp at h
    · rename_i hp
      split at h
      · simp at h
      · exact ⟨hg, fun z hz e => hp (pos_lt.2 ⟨z, hz, e⟩), by omega⟩
  · simp at h
theorem add_ok {b : RB} {o : Od} (hg : goodO o = true) (hi : ∀ z ∈ b.L, z.id ≠ o.id) (hl : b.L.length < 32) : addR13 b o = (⟨b.L ++ [{ o with seq := (b.came : Int) + 1 }], b.came + 1⟩, 0) := by
  unfold addR13
  rw [if_pos hg, if_neg (fun hp => by obtain ⟨z, hz, e⟩ := pos_lt.1 hp; exact hi z hz e), if_neg (by omega)]
theorem good_lots {o : Od} (h : goodO o = true) : 1 ≤ o.lots ∧ o.lots ≤ 1000 := by
  simp only [goodO, Bool.and_eq_true, decide_eq_true_eq] at h; exact h.2
theorem good_less {o : Od} (h : goodO o = true) {n : Int} (h1 : 1 ≤ n) (h2 : n ≤ 1000) : goodO { o with lots := n } = true := by
  simp only [goodO, Bool.and_eq_true, decide_eq_true_eq] at h ⊢; exact ⟨h.1, h1, h2⟩
theorem list_lots {b : RB} (h : GB b) (sell : Bool) : ∀ x ∈ listR13 b.L sell, 1 ≤ x.lots := fun x hx => (h.lots x ((mem_side h sell).1 hx).1).1
theorem left_le (o : Od) : ∀ (S : List Od) (k : Nat), leftL o S k ≤ k
  | [], _ => Nat.le_refl _
  | x :: S, k => by
    rw [leftL]
    split
    · omega
    · split
      · exact Nat.le_trans (left_le o S _) (Nat.sub_le _ _)
      · exact Nat.le_refl _
/-- A match that is no error: the fills, the lots that stand, both sides. -/
structure MatchOK (b : RB) (o : Od) : Prop where
  fills : (matchO b o).2.1 = takeL o (listR13 b.L (!o.sell)) o.lots.toNat
  left : (matchO b o).2.2.1 = leftL o (listR13 b.L (!o.sell)) o.lots.toNat
  err : (matchO b o).2.2.2 = 0
  other : listR13 (matchO b o).1.L (!o.sell) = restL o (listR13 b.L (!o.sell)) o.lots.toNat
  own : ∀ z, z ∈ listR13 (matchO b o).1.L o.sell ↔ z ∈ listR13 b.L o.sell ∨ ((matchO b o).2.2.1 ≠ 0 ∧ z = { o with lots := ((matchO b o).2.2.1 : Nat), seq := (b.came : Int) + 1 })
  ownP : (listR13 (matchO b o).1.L o.sell).Perm (listR13 b.L o.sell ++ if (matchO b o).2.2.1 = 0 then [] else [{ o with lots := ((matchO b o).2.2.1 : Nat), seq := (b.came : Int) + 1 }])
  gb : GB (matchO b o).1
  came : (matchO b o).1.came ≤ b.came + 1
  ids : ∀ z ∈ (matchO b o).1.L, z.id = o.id ∨ ∃ y ∈ b.L, y.id = z.id
  size : (matchO b o).1.L.length ≤ b.L.length + 1
theorem match_ok {b : RB} {o : Od} (h : GB b) (he : (addR13 b o).2 = 0) : MatchOK b o := by
  obtain ⟨hg, hi, hlt⟩ := came_ok he
  have hlots := good_lots hg
  have hlen : (listR13 b.L (!o.sell)).length ≤ 32 := Nat.le_trans (listR13_le _ _) h.len
  obtain ⟨r1, r2, r3, r4, r5, r6, r7⟩ := dealO_list o 32 b o.lots.toNat h hlen
  have hids := deal_ids o 32 b o.lots.toNat h
  have hm : matchO b o = (if (dealO 32 b o o.lots.toNat).2.1 = 0 then (dealO 32 b o o.lots.toNat).1 else (addR13 (dealO 32 b o o.lots.toNat).1 { o with lots := ((dealO 32 b o o.lots.toNat).2.1 : Nat) }).1, (dealO 32 b o o.lots.toNat).2.2, (dealO 32 b o o.lots.toNat).2.1, 0) := by
    unfold matchO; rw [if_pos he]
  generalize dealO 32 b o o.lots.toNat = r at *
  by_cases hz : r.2.1 = 0
  · rw [if_pos hz] at hm
    refine ⟨by rw [hm]; exact r1, by rw [hm]; exact r2, by rw [hm], by rw [hm]; exact r3, fun z => ?_, ?_, by rw [hm]; exact r5, by rw [hm]; simp only; omega, by rw [hm]; exact fun z hz' => .inr (hids z hz'), by rw [hm]; simp only; omega⟩
    · rw [hm]
      simp only
      rw [r4]
      exact ⟨.inl, fun h => h.resolve_right fun k => k.1 hz⟩
    · rw [hm]
      simp only
      rw [if_pos hz, List.append_nil, r4]
  · rw [if_neg hz] at hm
    have hle := left_le o (listR13 b.L (!o.sell)) o.lots.toNat
    rw [← r2] at hle
    have hadd := add_ok (b := r.1) (o := { o with lots := (r.2.1 : Nat) }) (good_less hg (by omega) (by omega)) (fun z hz' e => by
      obtain ⟨y, hy, e2⟩ := hids z hz'
      exact hi y hy (e2.trans e)) (by omega)
    have hgb := (r5.add { o with lots := (r.2.1 : Nat) }).1
    rw [hadd] at hm hgb
    simp only at hm hgb
    have hside : ∀ (s : Bool) (z : Od), z ∈ listR13 (r.1.L ++ [{ o with lots := ((r.2.1 : Nat) : Int), seq := (r.1.came : Int) + 1 }]) s ↔ z ∈ listR13 r.1.L s ∨ (o.sell = s ∧ z = { o with lots := ((r.2.1 : Nat) : Int), seq := (r.1.came : Int) + 1 }) := fun s z => by
      have m1 := mem_side hgb s (z := z)
      have m2 := mem_side r5 s (z := z)
      rw [m1, m2, List.mem_append, List.mem_singleton]
      constructor
      · rintro ⟨h1 | h1, h2⟩
        · exact .inl ⟨h1, h2⟩
        · exact .inr ⟨by rw [h1] at h2; exact h2, h1⟩
      · rintro (⟨h1, h2⟩ | ⟨h1, h2⟩)
        · exact ⟨.inl h1, h2⟩
        · exact ⟨.inr h2, by rw [h2]; exact h1⟩
    refine ⟨by rw [hm]; exact r1, by rw [hm]; exact r2, by rw [hm], ?_, fun z => ?_, ?_, by rw [hm]; exact hgb, by rw [hm]; simp only; omega, ?_, by rw [hm]; simp; omega⟩
    · rw [hm]
      simp only
      rw [← r3]
      -- the other side does not change by what stands on the own side
      obtain ⟨k1, k2⟩ := listR13_is r5.seq (!o.sell)
      refine (list_eq13 hgb.seq k1 ?_).symm
      have hf : ∀ (s : Bool), (([{ o with lots := ((r.2.1 : Nat) : Int), seq := (r.1.came : Int) + 1 }] : List Od).filter fun x => x.sell == !s) = if o.sell = !s then [{ o with lots := ((r.2.1 : Nat) : Int), seq := (r.1.came : Int) + 1 }] else [] := fun s => by
        by_cases e : o.sell = !s <;> simp [e]
      rw [List.filter_append, hf o.sell, if_neg (by cases o.sell <;> decide), List.append_nil]
      exact k2
    · rw [hm]
      simp only
      rw [hside o.sell z, r4, r6]
      exact ⟨fun h => h.imp id fun k => ⟨hz, k.2⟩, fun h => h.imp id fun k => ⟨rfl, k.2⟩⟩
    · rw [hm]
      simp only
      rw [if_neg hz]
      have k1 := (listR13_is hgb.seq o.sell).2
      have k2 := (listR13_is r5.seq o.sell).2
      rw [r4] at k2
      rw [← r6]
      refine k1.trans ?_
      rw [List.filter_append]
      refine (k2.symm.append_right _).trans ?_
      simp
    · rw [hm]
      intro z hz'
      rcases List.mem_append.1 hz' with k | k
      · exact .inr (hids z k)
      · exact .inl (by rw [List.mem_singleton.1 k])
/-- After it no two orders meet, if none did before. -/
theorem noMeet_match {b : RB} {o : Od} (h : GB b) (he : (addR13 b o).2 = 0) (hn : NoMeet b.L) : NoMeet (matchO b o).1.L := by
  have hok := match_ok h he
  have hother : ∀ z, z ∈ (matchO b o).1.L → z.sell = (!o.sell) → ∃ y ∈ b.L, y.price = z.price ∧ y.sell = z.sell := fun z hz hs => by
    have hz' := (mem_side hok.gb (!o.sell)).2 ⟨hz, hs⟩
    rw [hok.other] at hz'
    obtain ⟨y, hy, e1, e2⟩ := rest_mem o _ _ z hz'
    exact ⟨y, ((mem_side h _).1 hy).1, e1, e2⟩
  have hown : ∀ z, z ∈ (matchO b o).1.L → z.sell = o.sell → z ∈ b.L ∨ ((matchO b o).2.2.1 ≠ 0 ∧ z.price = o.price) := fun z hz hs => by
    have hz' := (mem_side hok.gb o.sell).2 ⟨hz, hs⟩
    rcases (hok.own z).1 hz' with k | ⟨k1, k2⟩
    · exact .inl ((mem_side h _).1 k).1
    · exact .inr ⟨k1, by rw [k2]⟩
  have hnew : (matchO b o).2.2.1 ≠ 0 → ∀ z, z ∈ (matchO b o).1.L → z.sell = (!o.sell) → meetO o z = false := fun hl z hz hs => by
    have hz' := (mem_side hok.gb (!o.sell)).2 ⟨hz, hs⟩
    have hsort := (listR13_is hok.gb.seq (!o.sell)).1
    rw [hok.other] at hz' hsort
    rw [hok.left] at hl
    cases hr : restL o (listR13 b.L (!o.sell)) o.lots.toNat with
    | nil => rw [hr] at hz'; simp at hz'
    | cons x T =>
      obtain ⟨m1, m2, _⟩ := left_meet o _ _ hl x T hr
      rw [hr] at hz' hsort
      rcases List.mem_cons.1 hz' with rfl | hz'
      · exact m1
      · exact meet_behind hsort ((mem_side h _).1 m2).2 m1 hz'
  intro x hx y hy hxs hys
  cases ho : o.sell with
  | true =>
    obtain ⟨y', h1, h2, h3⟩ := hother y hy (by rw [ho]; exact hys)
    rcases hown x hx (by rw [ho]; exact hxs) with k | ⟨k1, k2⟩
    · have := hn x k y' h1 hxs (h3.trans hys); omega
    · have := hnew k1 y hy (by rw [ho]; exact hys)
      unfold meetO at this
      rw [ho] at this
      simp at this; omega
  | false =>
    obtain ⟨x', h1, h2, h3⟩ := hother x hx (by rw [ho]; exact hxs)
    rcases hown y hy (by rw [ho]; exact hys) with k | ⟨k1, k2⟩
    · have := hn x' h1 y k (h3.trans hxs) hys; omega
    · have := hnew k1 x hx (by rw [ho]; exact hxs)
      unfold meetO at this
      rw [ho] at this
      simp at this; omega
theorem sumO_app (L M : List Od) : sumO (L ++ M) = sumO L + sumO M := by unfold sumO; rw [List.map_append, List.sum_append]
theorem sumO_perm {L M : List Od} (h : L.Perm M) : sumO L = sumO M := by
  induction h with
  | nil => rfl
  | cons x _ ih => rw [sumO_cons, sumO_cons, ih]
  | swap x y l => rw [sumO_cons, sumO_cons, sumO_cons, sumO_cons]; omega
  | trans _ _ h1 h2 => rw [h1, h2]
/-- The lots of the own side behind a match. -/
theorem MatchOK.lots {b : RB} {o : Od} (h : MatchOK b o) : sumO (listR13 (matchO b o).1.L o.sell) = sumO (listR13 b.L o.sell) + (matchO b o).2.2.1 := by
  rw [sumO_perm h.ownP, sumO_app]
  split
  · rename_i e; rw [e]; simp [sumO]
  · rw [sumO_cons]; simp [sumO]
theorem same_way {o o' : Od} (h : ∀ x, meetO o x = meetO o' x) : ∀ (S : List Od) (k : Nat), restL o S k = restL o' S k ∧ leftL o S k = leftL o' S k ∧ worthF (takeL o S k) = worthF (takeL o' S k)
  | [], k => by simp [restL, leftL, takeL]
  | x :: S, k => by
    obtain ⟨h1, h2, h3⟩ := same_way h S (k - x.lots.toNat)
    obtain ⟨_, g2, g3⟩ := same_way h S (k - min k x.lots.toNat)
    rw [restL, restL, leftL, leftL, takeL, takeL, ← h x]
    refine ⟨?_, ?_, ?_⟩
    · rw [h1]
    · rw [g2]
    · split
      · rfl
      · split
        · rw [worthF_cons, worthF_cons, fill_worth, fill_worth, g3]
        · rfl
/-- An order, and the same lots in two orders. -/
theorem parts_ok {b : RB} {o : Od} (h : GB b) (ho : goodO o = true) (k : Nat) (hk : 1 ≤ k) (hk2 : (k : Int) < o.lots) (hq : goodO { o with id := o.id + 1 } = true) (hi : ∀ z ∈ b.L, z.id ≠ o.id ∧ z.id ≠ o.id + 1) (hl : b.L.length < 31) :
    let p : Od := { o with lots := (k : Int) }
    let q : Od := { o with id := o.id + 1, lots := o.lots - (k : Int) }
    (addR13 b o).2 = 0 ∧ (addR13 b p).2 = 0 ∧ (addR13 (matchO b p).1 q).2 = 0 ∧
    (matchO b o).2.2.1 = (matchO b p).2.2.1 + (matchO (matchO b p).1 q).2.2.1 ∧ worthF (matchO b o).2.1 = worthF (matchO b p).2.1 + worthF (matchO (matchO b p).1 q).2.1 ∧
    ∀ s, sumO (listR13 (matchO b o).1.L s) = sumO (listR13 (matchO (matchO b p).1 q).1.L s) := by
  intro p q
  have hlots := good_lots ho
  have e1 : (addR13 b o).2 = 0 := by rw [add_ok ho (fun z hz => (hi z hz).1) (by omega)]
  have hgp : goodO p = true := good_less ho (by omega) (by omega)
  have e2 : (addR13 b p).2 = 0 := by rw [add_ok hgp (fun z hz => (hi z hz).1) (by omega)]
  have m1 := match_ok h e1
  have m2 := match_ok h e2
  have hgq : goodO q = true := good_less hq (n := o.lots - (k : Int)) (by omega) (by omega)
  have e3 : (addR13 (matchO b p).1 q).2 = 0 := by
    rw [add_ok hgq (fun z hz e => ?_) (by have := m2.size; omega)]
    rcases m2.ids z hz with k1 | ⟨y, hy, k2⟩
    · have : z.id = o.id := k1
      have : z.id = o.id + 1 := e
      omega
    · exact (hi y hy).2 (k2.trans e)
  have m3 := match_ok m2.gb e3
  have hw1 : ∀ x, meetO p x = meetO o x := fun _ => rfl
  have hw2 : ∀ x, meetO q x = meetO o x := fun _ => rfl
  have hS := list_lots h (!o.sell)
  obtain ⟨t1, t2, t3⟩ := two_parts o (listR13 b.L (!o.sell)) k (o.lots - (k : Int)).toNat hS
  rw [show k + (o.lots - (k : Int)).toNat = o.lots.toNat by omega] at t1 t2 t3
  have a1 := m1.fills; have a2 := m1.left; have a3 := m1.other; have a4 := m1.lots
  have b1 := m2.fills; have b2 := m2.left; have b3 := m2.other; have b4 := m2.lots
  have c1 := m3.fills; have c2 := m3.left; have c3 := m3.other; have c4 := m3.lots
  obtain ⟨w1, w2, w3⟩ := same_way hw1 (listR13 b.L (!o.sell)) k
  simp only [show p.sell = o.sell from rfl, show q.sell = o.sell from rfl, show p.lots.toNat = k from by simp [p], show q.lots.toNat = (o.lots - (k : Int)).toNat from rfl] at b1 b2 b3 b4 c1 c2 c3 c4
  rw [b3, w1] at c1 c2 c3
  obtain ⟨v1, v2, v3⟩ := same_way hw2 (restL o (listR13 b.L (!o.sell)) k) (o.lots - (k : Int)).toNat
  have hleft : (matchO b o).2.2.1 = (matchO b p).2.2.1 + (matchO (matchO b p).1 q).2.2.1 := by rw [a2, b2, c2, w2, v2, t2]
  refine ⟨e1, e2, e3, hleft, by rw [a1, b1, c1, w3, v3, t3], fun s => ?_⟩
  by_cases hs : s = o.sell
  · subst hs
    rw [a4, c4, b4]
    omega
  · have hs' : s = !o.sell := by cases s <;> cases ho' : o.sell <;> simp_all
    rw [hs', a3, c3, v1, t1]
end Go.Proofs.YtogmlbjbjgkdcaaDoor
