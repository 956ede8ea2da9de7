/- Where one more task goes, and who goes for it, by contract: place, Pick. Conditions: the plan lies in memory; the hosts and the allowances do. -/
import Derived.Test.YtlckofoabnnlhaaDoorViN
import Derived.Test.YtlckofoabnnlhaaDoorViFa
import Derived.Test.YtlckofoabnnlhaaDoorViFu
namespace Go.Proofs.YtlckofoabnnlhaaDoor
open Go Go.RowKit Go.Maps

theorem stepK_mem {x : V4} {al : Int → Int} {s : V4 × List Gst} {g y : Gst} (h : y ∈ (stepK x al s g).2) : y ∈ s.2 ∨ y = g := by
  unfold stepK at h
  split at h
  · exact .inl h
  · rcases List.mem_append.1 h with h | h
    · exact .inl h
    · exact .inr (List.mem_singleton.1 h)
/-- Victims are candidates. -/
theorem foldK_mem {x : V4} {al : Int → Int} {y : Gst} : ∀ (line : List Gst) (s : V4 × List Gst), y ∈ (line.foldl (stepK x al) s).2 → y ∈ s.2 ∨ y ∈ line
  | [], _, h => .inl h
  | g :: r, s, h => by
    rcases foldK_mem r (stepK x al s g) h with h1 | h1
    · rcases stepK_mem h1 with h2 | h2
      · exact .inl h2
      · exact .inr (by rw [h2]; exact List.mem_cons_self ..)
    · exact .inr (List.mem_cons_of_mem _ h1)
theorem clearK_mem {x : V4} {al : Int → Int} {l : V4} {line : List Gst} {y : Gst} (h : y ∈ (clearK x al l line).2) : y ∈ line := by
  rcases foldK_mem line (l, []) h with h1 | h1
  · cases h1
  · exact h1
theorem clearK_len {x : V4} {al : Int → Int} : ∀ (line : List Gst) (s : V4 × List Gst), (line.foldl (stepK x al) s).2.length ≤ s.2.length + line.length
  | [], s => by simp
  | g :: r, s => by
    have h1 := clearK_len (x := x) (al := al) r (stepK x al s g)
    have h2 : (stepK x al s g).2.length ≤ s.2.length + 1 := by unfold stepK; split <;> simp
    simp only [List.foldl_cons, List.length_cons]
    omega
theorem pick_best {x : V4} {al : Int → Int} {R : List Hst} {a : Nat} {t : Spt} (hx : goodV x = true) (h : bestS x (R.map Hst.spt) = some (a, t)) : pickK true x al R = (t.id, [], 0) := by
  unfold pickK; rw [if_pos ⟨rfl, hx⟩, h]
theorem pick_few {x : V4} {al : Int → Int} {R : List Hst} {a : Nat} {t : Hst} {o : List Gst} (hx : goodV x = true) (h : bestS x (R.map Hst.spt) = none) (h2 : fewK x al R = some (a, t, o)) : pickK true x al R = (t.id, o, 0) := by
  unfold pickK; rw [if_pos ⟨rfl, hx⟩, h]; simp only [h2]
theorem pick_budget {x : V4} {al : Int → Int} {R : List Hst} {q : Nat × Hst × List Gst} (hx : goodV x = true) (h : bestS x (R.map Hst.spt) = none) (h2 : fewK x al R = none) (h3 : fewK x alInf R = some q) : pickK true x al R = (0, [], 11) := by
  unfold pickK; rw [if_pos ⟨rfl, hx⟩, h]; simp [h2, h3]
theorem pick_room {x : V4} {al : Int → Int} {R : List Hst} (hx : goodV x = true) (h : bestS x (R.map Hst.spt) = none) (h2 : fewK x al R = none) (h3 : fewK x alInf R = none) : pickK true x al R = (0, [], 10) := by
  unfold pickK; rw [if_pos ⟨rfl, hx⟩, h]; simp [h2, h3]
/-- Where place stands: the plan, the demand's box, the choice's. -/
structure PlS (s : Nat → Addr) (w : World) (p B : Nat) (valid : Bool) (A : Option Addr) (c : Nat) (R : List Hst) (mb : Nat) (T : List (Int × Int)) (x : V4) (g3 g4 : Nat) (W : World) : Prop where
  plan : PlanAt W p B valid A c R mb T
  need : W.heap[g3]? = some (.cells #[.int .i64 x.a, .int .i64 x.b, .int .i64 x.c, .int .i64 x.d] 24 (0, 0))
  choice : W.heap[g4]? = some (.cells #[.int .i64 0, .slice none 0 0] 38 (0, 0))
  low : Below w.heap.size w W
  sent : Sent s W
  l4 : w.heap.size ≤ g4
section
variable {s : Nat → Addr} {w : World} {p B : Nat} {valid : Bool} {A : Option Addr} {c : Nat} {R : List Hst} {mb : Nat} {T : List (Int × Int)} {x : V4} {g3 g4 : Nat} {W W' : World}
theorem PlS.on (h : PlS s w p B valid A c R mb T x g3 g4 W) (hb : Below W.heap.size W W') : PlS s w p B valid A c R mb T x g3 g4 W' :=
  ⟨h.plan.on hb, (hb.block _ (lt_of_row h.need)).trans h.need, (hb.block _ (lt_of_row h.choice)).trans h.choice, h.low.trans (hb.mono h.low.size), h.sent.below hb (Nat.le_refl _), h.l4⟩
theorem PlS.ch (h : PlS s w p B valid A c R mb T x g3 g4 W) : W.cell? ⟨g4, 0, none⟩ = some (.int .i64 0) ∧ W.cell? ⟨g4, 1, none⟩ = some (.slice none 0 0) ∧ g4 < W.heap.size ∧ ∀ j, W.frozen? ⟨g4, j, none⟩ = false :=
  ⟨cell_of_heap h.choice 0, cell_of_heap h.choice 1, lt_of_row h.choice, fun _ => frozen_of_row _ _ _ _ _ h.choice⟩
theorem PlS.nd (h : PlS s w p B valid A c R mb T x g3 g4 W) : W.cell? ⟨g3, 0, none⟩ = some (.int .i64 x.a) ∧ W.cell? ⟨g3, 1, none⟩ = some (.int .i64 x.b) ∧ W.cell? ⟨g3, 2, none⟩ = some (.int .i64 x.c) ∧ W.cell? ⟨g3, 3, none⟩ = some (.int .i64 x.d) ∧ g3 < W.heap.size :=
  ⟨cell_of_heap h.need 0, cell_of_heap h.need 1, cell_of_heap h.need 2, cell_of_heap h.need 3, lt_of_row h.need⟩
/-- A store of the zero choice leaves the world as it was. -/
theorem PlS.put0 (h : PlS s w p B valid A c R mb T x g3 g4 W) : PlS s w p B valid A c R mb T x g3 g4 ((W.setCell ⟨g4, 0, none⟩ (.int .i64 0)).setCell ⟨g4, 1, none⟩ (.slice none 0 0)) := by
  have k0 := heap_setCell_same _ _ 0 _ _ (.int .i64 0) h.choice
  have k1 := heap_setCell_same _ _ 1 _ _ (.slice none 0 0) k0
  have ho : ∀ k, k ≠ g4 → ((W.setCell ⟨g4, 0, none⟩ (.int .i64 0)).setCell ⟨g4, 1, none⟩ (.slice none 0 0)).heap[k]? = W.heap[k]? := fun k hk => by
    rw [heap_setCell_other _ ⟨g4, 1, none⟩ k _ hk, heap_setCell_other _ ⟨g4, 0, none⟩ k _ hk]
  have hall : ∀ k : Nat, ((W.setCell ⟨g4, 0, none⟩ (.int .i64 0)).setCell ⟨g4, 1, none⟩ (.slice none 0 0)).heap[k]? = W.heap[k]? := fun k => by
    by_cases e : k = g4
    · subst e; exact k1.trans h.choice.symm
    · exact ho k e
  have hb : Below W.heap.size W ((W.setCell ⟨g4, 0, none⟩ (.int .i64 0)).setCell ⟨g4, 1, none⟩ (.slice none 0 0)) := ⟨rfl, rfl, rfl, by simp, fun k _ => hall k⟩
  exact h.on hb
end
/-- Two stores into the choice. -/
theorem put_ch {W : World} {g : Nat} {t : TypeId} {r0 r1 : Value} (h : W.heap[g]? = some (.cells #[r0, r1] t (0, 0))) (a b : Value) : ((W.setCell ⟨g, 0, none⟩ a).setCell ⟨g, 1, none⟩ b).heap[g]? = some (.cells #[a, b] t (0, 0)) ∧ ∀ k, k ≠ g → ((W.setCell ⟨g, 0, none⟩ a).setCell ⟨g, 1, none⟩ b).heap[k]? = W.heap[k]? := by
  have k0 := heap_setCell_same _ _ 0 _ _ a h
  have k1 := heap_setCell_same _ _ 1 _ _ b k0
  exact ⟨k1, fun k hk => by rw [heap_setCell_other _ ⟨g, 1, none⟩ k _ hk, heap_setCell_other _ ⟨g, 0, none⟩ k _ hk]⟩
set_option maxRecDepth 100000 in
set_option maxHeartbeats 12800000 in
theorem place_c (s : Nat → Addr) (p B : Nat) (valid : Bool) (A : Option Addr) (c : Nat) (R : List Hst) (mb : Nat) (T : List (Int × Int)) (x : V4) (w : World) (hs : ∀ W, Below B w W → Sent s W) (h : PlanAt w p B valid A c R mb T) (hok : valid = true → ∀ r ∈ R, okH r = true) (hB : B ≤ w.heap.size) :
    Calls Tryd.prog 12 #[.pointer (some ⟨p, 0, none⟩), .agg #[.int .i64 x.a, .int .i64 x.b, .int .i64 x.c, .int .i64 x.d]] w fun e w' => ∃ (host : Int) (out : List Gst) (er : Nat) (Bo : Option Addr) (cb : Nat), e = .returned (.tuple #[.agg #[.int .i64 host, .slice Bo out.length cb], errV s er]) ∧ (host, out, er) = pickK valid x (fun j => (look T j).getD 0) R ∧ OwnE encTk 33 w' w.heap.size (.slice Bo out.length cb) (out.map (·.task)) ∧ Below B w w' := by
  obtain ⟨z, hz⟩ : ∃ z, pickK valid x (fun j => (look T j).getD 0) R = z := ⟨_, rfl⟩
  rw [hz]
  have HZ := Lib.hid hz
  clear hz
  obtain ⟨g3, hg3⟩ : ∃ g3, w.heap.size = g3 := ⟨_, rfl⟩
  obtain ⟨g4, hg4⟩ : ∃ g4, w.heap.size + 1 = g4 := ⟨_, rfl⟩
  obtain ⟨W1, hW1⟩ : ∃ W1, (w.alloc (.cells #[.int .i64 x.a, .int .i64 x.b, .int .i64 x.c, .int .i64 x.d] 24)).alloc (.cells #[.int .i64 0, .slice none 0 0] 38) = W1 := ⟨_, rfl⟩
  have hb1 : Below w.heap.size w W1 := by rw [← hW1]; exact ((Below.refl _ _).alloc (Nat.le_refl _) _).alloc (by simp) _
  have HS1 : Hid (PlS s w p B valid A c R mb T x g3 g4 W1) := Lib.hid (by
    refine ⟨h.on hb1, ?_, ?_, hb1, hs _ (hb1.mono hB), by omega⟩
    · rw [← hW1, ← hg3, Below.heap_alloc _ _ _ (by simp)]
      exact heap_at_newV rfl _
    · rw [← hW1, ← hg4]
      exact heap_at_newV (by simp) _)
  obtain ⟨p0, p1, p2, pl⟩ := HS1.out.plan.cells
  obtain ⟨n0, n1, n2, n3, nl⟩ := HS1.out.nd
  have HS := Lib.hid hs
  have HOK := Lib.hid hok
  have HBB := Lib.hid hB
  have HW1 := Lib.hid hW1
  have HG := Lib.hid (show w.heap.size = g3 ∧ w.heap.size + 1 = g4 from ⟨hg3, hg4⟩)
  clear h hs hok hB hg3 hg4 hW1 hb1
  have HR := Lib.hid HS1.out.plan.lie.all
  cases valid with
  | false =>
    have HZ0 : Hid (z = (0, [], 1)) := Lib.hid (by rw [← HZ.out]; simp [pickK])
    go_enter Tryd.func12, Tryd.ntmps12
    go_upto_region 1 with fail
    rw [HG.out.2, HG.out.1, HW1.out]
    go_upto_region 2 with fail
    clear p0 p1 p2 pl n0 n1 n2 n3 nl
    have HPS := Lib.hid (HS1.out)
    refine wp_region_held_drew (S := fun W => PlS s w p B false A c R mb T x g3 g4 W) (by kernel_rfl) (HPS.out.on ((Below.refl _ _).drew)) (fun hHeld => ?_)
    refine rg_take 0 (some 23) _ (by kernel_rfl) (by kernel_rfl) (by kernel_rfl) (fun _ _ _ h => h) (by kernel_rfl) (by kernel_rfl) (by intro w' hSw op_ ho; simp only [List.getElem?_toArray, List.getElem?_cons_zero, Option.some.injEq] at ho; subst ho; go_simp; with_reducible rfl) (by assumption) ?_
    try simp only [Act.put, List.setIfInBounds_toArray, List.set_cons_zero, List.set_cons_succ]
    refine rg_take 1 (some 24) _ (by kernel_rfl) (by kernel_rfl) (by kernel_rfl) (fun _ _ _ h => h) (by kernel_rfl) (by kernel_rfl) (by intro w' hSw op_ ho; simp only [List.getElem?_toArray, List.getElem?_cons_succ, List.getElem?_cons_zero, Option.some.injEq] at ho; subst ho; have hg := hSw.sent.cell 0 (by omega); simp only [gnum, List.getD_cons_zero] at hg; go_simp; with_reducible rfl) (by assumption) ?_
    try simp only [Act.put, List.setIfInBounds_toArray, List.set_cons_zero, List.set_cons_succ]
    refine rg_one 2 (by kernel_rfl) (by kernel_rfl) (fun op_ ho KK hK => ?_)
    simp only [List.getElem?_toArray, List.getElem?_cons_succ, List.getElem?_cons_zero, Option.some.injEq] at ho
    subst ho
    obtain ⟨d0, d1, hl4, hf4⟩ := HPS.out.ch
    have HP0 := Lib.hid (HPS.out.put0.on ((Below.refl _ _).drew))
    go_simp
    refine hK.out _ _ HP0.out (fun hHeld => ?_)
    clear d0 d1 hl4 hf4
    clear hK
    try simp only [Act.put, List.setIfInBounds_toArray, List.set_cons_zero, List.set_cons_succ]
    refine rg_take 3 (some 5) _ (by kernel_rfl) (by kernel_rfl) (by kernel_rfl) (fun _ _ _ h => h) (by kernel_rfl) (by kernel_rfl) (by intro w' hSw op_ ho; simp only [List.getElem?_toArray, List.getElem?_cons_succ, List.getElem?_cons_zero, Option.some.injEq] at ho; subst ho; go_simp; with_reducible rfl) (by assumption) ?_
    try simp only [Act.put, List.setIfInBounds_toArray, List.set_cons_zero, List.set_cons_succ]
    refine wpAnyH_done (by kernel_rfl) ?_ _
    clear hHeld
    go_wp2_with fail
    obtain ⟨e0, e1, -, -⟩ := HP0.out.ch
    exact bodyPost_ret (v := .tuple #[.agg #[.int .i64 0, .slice none 0 0], .iface 113 (.pointer (some (s 0)))]) (by simp [results, Tryd.results12, go_sem, e0, e1]) rfl ⟨0, [], 1, none, 0, rfl, HZ0.out.symm, OwnE.nil .., HP0.out.low.mono HBB.out⟩
  | true =>
    have HGD := Lib.hid (good_c x W1)
    obtain ⟨gd, hgd⟩ : ∃ gd, goodV x = gd := ⟨_, rfl⟩
    rw [hgd] at HGD
    have HGX := Lib.hid hgd
    clear hgd
    go_enter Tryd.func12, Tryd.ntmps12
    go_upto_region 1 with fail
    rw [HG.out.2, HG.out.1, HW1.out]
    go_wp2_with fail
    refine HGD.out.mono ?_
    rintro e w2 ⟨rfl, b2⟩
    clear p0 p1 p2 pl n0 n1 n2 n3 nl HGD
    have HS2 := Lib.hid (HS1.out.on b2)
    clear b2
    cases gd with
    | false =>
      have HZ0 : Hid (z = (0, [], 1)) := Lib.hid (by rw [← HZ.out]; simp [pickK, HGX.out])
      go_upto_region 2 with fail
      have HPS := Lib.hid (HS2.out)
      refine wp_region_held_drew (S := fun W => PlS s w p B true A c R mb T x g3 g4 W) (by kernel_rfl) (HPS.out.on ((Below.refl _ _).drew)) (fun hHeld => ?_)
      refine rg_take 0 (some 23) _ (by kernel_rfl) (by kernel_rfl) (by kernel_rfl) (fun _ _ _ h => h) (by kernel_rfl) (by kernel_rfl) (by intro w' hSw op_ ho; simp only [List.getElem?_toArray, List.getElem?_cons_zero, Option.some.injEq] at ho; subst ho; go_simp; with_reducible rfl) (by assumption) ?_
      try simp only [Act.put, List.setIfInBounds_toArray, List.set_cons_zero, List.set_cons_succ]
      refine rg_take 1 (some 24) _ (by kernel_rfl) (by kernel_rfl) (by kernel_rfl) (fun _ _ _ h => h) (by kernel_rfl) (by kernel_rfl) (by intro w' hSw op_ ho; simp only [List.getElem?_toArray, List.getElem?_cons_succ, List.getElem?_cons_zero, Option.some.injEq] at ho; subst ho; have hg := hSw.sent.cell 0 (by omega); simp only [gnum, List.getD_cons_zero] at hg; go_simp; with_reducible rfl) (by assumption) ?_
      try simp only [Act.put, List.setIfInBounds_toArray, List.set_cons_zero, List.set_cons_succ]
      refine rg_one 2 (by kernel_rfl) (by kernel_rfl) (fun op_ ho KK hK => ?_)
      simp only [List.getElem?_toArray, List.getElem?_cons_succ, List.getElem?_cons_zero, Option.some.injEq] at ho
      subst ho
      obtain ⟨d0, d1, hl4, hf4⟩ := HPS.out.ch
      have HP0 := Lib.hid (HPS.out.put0.on ((Below.refl _ _).drew))
      go_simp
      refine hK.out _ _ HP0.out (fun hHeld => ?_)
      clear d0 d1 hl4 hf4
      clear hK
      try simp only [Act.put, List.setIfInBounds_toArray, List.set_cons_zero, List.set_cons_succ]
      refine rg_take 3 (some 5) _ (by kernel_rfl) (by kernel_rfl) (by kernel_rfl) (fun _ _ _ h => h) (by kernel_rfl) (by kernel_rfl) (by intro w' hSw op_ ho; simp only [List.getElem?_toArray, List.getElem?_cons_succ, List.getElem?_cons_zero, Option.some.injEq] at ho; subst ho; go_simp; with_reducible rfl) (by assumption) ?_
      try simp only [Act.put, List.setIfInBounds_toArray, List.set_cons_zero, List.set_cons_succ]
      refine wpAnyH_done (by kernel_rfl) ?_ _
      clear hHeld
      go_wp2_with fail
      obtain ⟨e0, e1, -, -⟩ := HP0.out.ch
      exact bodyPost_ret (v := .tuple #[.agg #[.int .i64 0, .slice none 0 0], .iface 113 (.pointer (some (s 0)))]) (by simp [results, Tryd.results12, go_sem, e0, e1]) rfl ⟨0, [], 1, none, 0, rfl, HZ0.out.symm, OwnE.nil .., HP0.out.low.mono HBB.out⟩
    | true =>
      obtain ⟨n0, n1, n2, n3, nl⟩ := HS2.out.nd
      have HBE := Lib.hid (pbest_c s p B true A c R mb T x w2 HS2.out.sent HS2.out.plan)
      go_upto_region 3 with fail
      go_wp2_with fail
      refine HBE.out.mono ?_
      rintro e w3 ⟨k, rfl, hk, b3⟩
      have HK := Lib.hid hk
      have HS3 := Lib.hid (HS2.out.on b3)
      clear hk b3 n0 n1 n2 n3 nl HBE
      rcases hbs : bestS x (R.map Hst.spt) with _ | ⟨a, t⟩
      · have hk1 : k = -1 := by have := HK.out; unfold BestP at this; rw [hbs] at this; exact this
        subst hk1
        have HBS := Lib.hid hbs
        clear hbs HK
        obtain ⟨n0, n1, n2, n3, nl⟩ := HS3.out.nd
        have HFA := Lib.hid (fewA_c p B true A c R mb T x w3 HS3.out.plan (HOK.out trivial))
        generalize hfa : fewK x (fun j => (look T j).getD 0) R = fa at HFA
        have HFAE := Lib.hid hfa
        clear hfa
        go_upto_region 6 with fail
        go_wp2_with fail
        refine HFA.out.mono ?_
        rintro e w4 ⟨rid, y, A4, m4, c4, Bo, cb, rfl, hrf, ho4, b4⟩
        have HRF := Lib.hid hrf
        have HO4 := Lib.hid ho4
        have HS4 := Lib.hid (HS3.out.on b4)
        have HB4 := Lib.hid (HS3.out.low.size)
        clear hrf ho4 b4 n0 n1 n2 n3 nl HFA
        cases fa with
        | some q =>
          obtain ⟨a, t, o⟩ := q
          have hat := fewK_at x _ _ R rfl a t o HFAE.out
          have hal : a < R.length := (List.getElem?_eq_some_iff.1 hat.1).1
          have hrid : rid = t.id := (HRF.out a t o rfl).1
          subst hrid
          rw [show placeF (some (a, t, o)) = (a : Int) from rfl, show outF (some (a, t, o)) = o from rfl] at *
          have HZ2 : Hid (z = (t.id, o, 0)) := Lib.hid (HZ.out.symm.trans (pick_few HGX.out HBS.out HFAE.out))
          obtain ⟨gx, hgx⟩ : ∃ gx, w4.heap.size = gx := ⟨_, rfl⟩
          obtain ⟨W5, hW5⟩ : ∃ W5, w4.alloc (.cells #[.int .i64 t.id, .int .i64 y.a, .int .i64 y.b, .int .i64 y.c, .int .i64 y.d, .slice A4 m4 c4] 61) = W5 := ⟨_, rfl⟩
          have hb5 : Below w4.heap.size w4 W5 := by rw [← hW5]; exact (Below.refl _ _).alloc (Nat.le_refl _) _
          have hx5 : W5.heap[gx]? = some (.cells #[.int .i64 t.id, .int .i64 y.a, .int .i64 y.b, .int .i64 y.c, .int .i64 y.d, .slice A4 m4 c4] 61 (0, 0)) := by rw [← hW5, ← hgx]; exact heap_alloc_new _ _
          have HS5 := Lib.hid (HS4.out.on hb5)
          have ho5 := (HO4.out.on hb5).base HB4.out
          have hol : o.length ≤ 10 := by
            have h1 : o.length ≤ t.on.length := by
              rw [hat.2.1]; have := clearK_len (x := x) (al := fun j => (look T j).getD 0) t.on (t.left, []); simpa [clearK] using this
            exact Nat.le_trans h1 (HS5.out.plan.lie.few t (List.mem_of_getElem? hat.1))
          have hoj : ∀ q ∈ o.map (·.task), i64 q.job := fun q hq => by
            obtain ⟨g, hg, rfl⟩ := List.mem_map.1 hq
            rw [hat.2.1] at hg
            exact HS5.out.plan.lie.jobs t (List.mem_of_getElem? hat.1) g (clearK_mem hg)
          have htk := take_c s p B true A c R mb T a hal HR.out HS5.out.plan.few t.id y x A4 m4 c4 Bo cb w.heap.size (o.map (·.task)) W5 (fun W hW => HS.out W ((HS5.out.low.mono HBB.out).trans hW)) HS5.out.plan.b (by rw [List.length_map]; exact ho5) (by rw [List.length_map]; omega) hoj (Nat.le_trans HBB.out HS5.out.low.size)
          rw [List.length_map] at htk
          have HTK := Lib.hid htk
          obtain ⟨n0, n1, n2, n3, nl⟩ := HS5.out.nd
          have r0 := cell_of_heap hx5 0
          have r1 := cell_of_heap hx5 1
          have r2 := cell_of_heap hx5 2
          have r3 := cell_of_heap hx5 3
          have r4 := cell_of_heap hx5 4
          have r5 := cell_of_heap hx5 5
          simp at r0 r1 r2 r3 r4 r5
          have rl := lt_of_row hx5
          have hage : ¬ ((a : Int) < 0) := by omega
          have HW5 := Lib.hid hW5
          have HGX5 := Lib.hid hgx
          clear hat hal hb5 hx5 ho5 hol hoj htk hW5 hgx
          go_upto_region 7 with fail
          rw [HW5.out, HGX5.out]
          go_upto_region 8 with fail
          go_wp2_with fail
          refine HTK.out.mono ?_
          rintro e w6 ⟨rfl, ho6, hb6, hk6⟩
          have HO6 := Lib.hid ho6
          have HB6 : Hid (Below B w w6) := Lib.hid ((HS5.out.low.mono HBB.out).trans hb6)
          have hx6 := hk6 g4 _ _ (by decide) HS5.out.choice
          have HX6 := Lib.hid hx6
          have d0 := cell_of_heap hx6 0
          have d1 := cell_of_heap hx6 1
          simp at d0 d1
          have dl := lt_of_row hx6
          have df : ∀ j, w6.frozen? ⟨g4, j, none⟩ = false := fun _ => frozen_of_row _ _ _ _ _ hx6
          clear ho6 hb6 hk6 hx6 n0 n1 n2 n3 nl r0 r1 r2 r3 r4 r5 rl
          go_wp2_with fail
          obtain ⟨k1, k2⟩ := put_ch HX6.out (.int .i64 t.id) (.slice Bo o.length cb)
          have e0 := cell_of_heap k1 0
          have e1 := cell_of_heap k1 1
          simp at e0 e1
          have hg4 : B ≤ g4 := Nat.le_trans HBB.out HS4.out.l4
          exact bodyPost_ret (v := .tuple #[.agg #[.int .i64 t.id, .slice Bo o.length cb], .nilIface]) (by simp [results, Tryd.results12, go_sem, e0, e1]) rfl ⟨t.id, o, 0, Bo, cb, rfl, HZ2.out.symm, HO6.out.same fun j hj => k2 j fun e => own_ne HO6.out HX6.out (by decide) (e ▸ hj), ((HB6.out.setCell (p := ⟨g4, 0, none⟩) hg4 _).setCell (p := ⟨g4, 1, none⟩) hg4 _)⟩
        | none =>
          rw [show placeF (none : Option (Nat × Hst × List Gst)) = -1 from rfl, show outF (none : Option (Nat × Hst × List Gst)) = [] from rfl] at *
          obtain ⟨W5, hW5⟩ : ∃ W5, w4.alloc (.cells #[.int .i64 rid, .int .i64 y.a, .int .i64 y.b, .int .i64 y.c, .int .i64 y.d, .slice A4 m4 c4] 61) = W5 := ⟨_, rfl⟩
          have HS5 : Hid (PlS s w p B true A c R mb T x g3 g4 W5) := Lib.hid (by rw [← hW5]; exact HS4.out.on ((Below.refl _ _).alloc (Nat.le_refl _) _))
          obtain ⟨n0, n1, n2, n3, nl⟩ := HS5.out.nd
          have HFU := Lib.hid (fewU_c p B true A c R mb T x W5 HS5.out.plan (HOK.out trivial))
          generalize hfu : fewK x alInf R = fu at HFU
          have HFUE := Lib.hid hfu
          have HW5 := Lib.hid hW5
          clear hfu hW5
          go_upto_region 7 with fail
          rw [HW5.out]
          go_upto_region 9 with fail
          go_wp2_with fail
          refine HFU.out.mono ?_
          rintro e w6 ⟨rid6, y6, A6, m6, c6, Bo6, cb6, rfl, -, -, b6⟩
          clear n0 n1 n2 n3 nl HFU
          obtain ⟨W7, hW7⟩ : ∃ W7, w6.alloc (.cells #[.int .i64 rid6, .int .i64 y6.a, .int .i64 y6.b, .int .i64 y6.c, .int .i64 y6.d, .slice A6 m6 c6] 61) = W7 := ⟨_, rfl⟩
          have HS7 : Hid (PlS s w p B true A c R mb T x g3 g4 W7) := Lib.hid (by rw [← hW7]; exact (HS5.out.on b6).on ((Below.refl _ _).alloc (Nat.le_refl _) _))
          have HW7 := Lib.hid hW7
          clear hW7 b6
          cases fu with
          | some q =>
            obtain ⟨a, t, o⟩ := q
            rw [show placeF (some (a, t, o)) = (a : Int) from rfl]
            have hage : ¬ ((a : Int) < 0) := by omega
            have HZ2 : Hid (z = (0, [], 11)) := Lib.hid (HZ.out.symm.trans (pick_budget HGX.out HBS.out HFAE.out HFUE.out))
            go_upto_region 10 with fail
            rw [HW7.out]
            go_upto_region 11 with fail
            have HPS := Lib.hid (HS7.out)
            refine wp_region_held_drew (S := fun W => PlS s w p B true A c R mb T x g3 g4 W) (by kernel_rfl) (HPS.out.on ((Below.refl _ _).drew)) (fun hHeld => ?_)
            refine rg_take 0 (some 67) _ (by kernel_rfl) (by kernel_rfl) (by kernel_rfl) (fun _ _ _ h => h) (by kernel_rfl) (by kernel_rfl) (by intro w' hSw op_ ho; simp only [List.getElem?_toArray, List.getElem?_cons_zero, Option.some.injEq] at ho; subst ho; go_simp; with_reducible rfl) (by assumption) ?_
            try simp only [Act.put, List.setIfInBounds_toArray, List.set_cons_zero, List.set_cons_succ]
            refine rg_take 1 (some 68) _ (by kernel_rfl) (by kernel_rfl) (by kernel_rfl) (fun _ _ _ h => h) (by kernel_rfl) (by kernel_rfl) (by intro w' hSw op_ ho; simp only [List.getElem?_toArray, List.getElem?_cons_succ, List.getElem?_cons_zero, Option.some.injEq] at ho; subst ho; have hg := hSw.sent.cell 10 (by omega); simp only [gnum, List.getD_cons_zero, List.getD_cons_succ] at hg; go_simp; with_reducible rfl) (by assumption) ?_
            try simp only [Act.put, List.setIfInBounds_toArray, List.set_cons_zero, List.set_cons_succ]
            refine rg_one 2 (by kernel_rfl) (by kernel_rfl) (fun op_ ho KK hK => ?_)
            simp only [List.getElem?_toArray, List.getElem?_cons_succ, List.getElem?_cons_zero, Option.some.injEq] at ho
            subst ho
            obtain ⟨d0, d1, hl4, hf4⟩ := HPS.out.ch
            have HP0 := Lib.hid (HPS.out.put0.on ((Below.refl _ _).drew))
            go_simp
            refine hK.out _ _ HP0.out (fun hHeld => ?_)
            clear d0 d1 hl4 hf4
            clear hK
            try simp only [Act.put, List.setIfInBounds_toArray, List.set_cons_zero, List.set_cons_succ]
            refine rg_take 3 (some 5) _ (by kernel_rfl) (by kernel_rfl) (by kernel_rfl) (fun _ _ _ h => h) (by kernel_rfl) (by kernel_rfl) (by intro w' hSw op_ ho; simp only [List.getElem?_toArray, List.getElem?_cons_succ, List.getElem?_cons_zero, Option.some.injEq] at ho; subst ho; go_simp; with_reducible rfl) (by assumption) ?_
            try simp only [Act.put, List.setIfInBounds_toArray, List.set_cons_zero, List.set_cons_succ]
            refine wpAnyH_done (by kernel_rfl) ?_ _
            clear hHeld
            go_wp2_with fail
            obtain ⟨e0, e1, -, -⟩ := HP0.out.ch
            exact bodyPost_ret (v := .tuple #[.agg #[.int .i64 0, .slice none 0 0], .iface 113 (.pointer (some (s 10)))]) (by simp [results, Tryd.results12, go_sem, e0, e1]) rfl ⟨0, [], 11, none, 0, rfl, HZ2.out.symm, OwnE.nil .., HP0.out.low.mono HBB.out⟩
          | none =>
            rw [show placeF (none : Option (Nat × Hst × List Gst)) = -1 from rfl]
            have HZ2 : Hid (z = (0, [], 10)) := Lib.hid (HZ.out.symm.trans (pick_room HGX.out HBS.out HFAE.out HFUE.out))
            go_upto_region 10 with fail
            rw [HW7.out]
            go_upto_region 12 with fail
            have HPS := Lib.hid (HS7.out)
            refine wp_region_held_drew (S := fun W => PlS s w p B true A c R mb T x g3 g4 W) (by kernel_rfl) (HPS.out.on ((Below.refl _ _).drew)) (fun hHeld => ?_)
            refine rg_take 0 (some 69) _ (by kernel_rfl) (by kernel_rfl) (by kernel_rfl) (fun _ _ _ h => h) (by kernel_rfl) (by kernel_rfl) (by intro w' hSw op_ ho; simp only [List.getElem?_toArray, List.getElem?_cons_zero, Option.some.injEq] at ho; subst ho; go_simp; with_reducible rfl) (by assumption) ?_
            try simp only [Act.put, List.setIfInBounds_toArray, List.set_cons_zero, List.set_cons_succ]
            refine rg_take 1 (some 70) _ (by kernel_rfl) (by kernel_rfl) (by kernel_rfl) (fun _ _ _ h => h) (by kernel_rfl) (by kernel_rfl) (by intro w' hSw op_ ho; simp only [List.getElem?_toArray, List.getElem?_cons_succ, List.getElem?_cons_zero, Option.some.injEq] at ho; subst ho; have hg := hSw.sent.cell 9 (by omega); simp only [gnum, List.getD_cons_zero, List.getD_cons_succ] at hg; go_simp; with_reducible rfl) (by assumption) ?_
            try simp only [Act.put, List.setIfInBounds_toArray, List.set_cons_zero, List.set_cons_succ]
            refine rg_one 2 (by kernel_rfl) (by kernel_rfl) (fun op_ ho KK hK => ?_)
            simp only [List.getElem?_toArray, List.getElem?_cons_succ, List.getElem?_cons_zero, Option.some.injEq] at ho
            subst ho
            obtain ⟨d0, d1, hl4, hf4⟩ := HPS.out.ch
            have HP0 := Lib.hid (HPS.out.put0.on ((Below.refl _ _).drew))
            go_simp
            refine hK.out _ _ HP0.out (fun hHeld => ?_)
            clear d0 d1 hl4 hf4
            clear hK
            try simp only [Act.put, List.setIfInBounds_toArray, List.set_cons_zero, List.set_cons_succ]
            refine rg_take 3 (some 5) _ (by kernel_rfl) (by kernel_rfl) (by kernel_rfl) (fun _ _ _ h => h) (by kernel_rfl) (by kernel_rfl) (by intro w' hSw op_ ho; simp only [List.getElem?_toArray, List.getElem?_cons_succ, List.getElem?_cons_zero, Option.some.injEq] at ho; subst ho; go_simp; with_reducible rfl) (by assumption) ?_
            try simp only [Act.put, List.setIfInBounds_toArray, List.set_cons_zero, List.set_cons_succ]
            refine wpAnyH_done (by kernel_rfl) ?_ _
            clear hHeld
            go_wp2_with fail
            obtain ⟨e0, e1, -, -⟩ := HP0.out.ch
            exact bodyPost_ret (v := .tuple #[.agg #[.int .i64 0, .slice none 0 0], .iface 113 (.pointer (some (s 9)))]) (by simp [results, Tryd.results12, go_sem, e0, e1]) rfl ⟨0, [], 10, none, 0, rfl, HZ2.out.symm, OwnE.nil .., HP0.out.low.mono HBB.out⟩
      · have hkr : ∃ (i : Nat) (r : Hst), k = i ∧ R[i]? = some r ∧ r.id = t.id := by have := HK.out; unfold BestP at this; rw [hbs] at this; exact this
        obtain ⟨i, r, rfl, hr, hrt⟩ := hkr
        have HZ2 : Hid (z = (r.id, [], 0)) := Lib.hid (by rw [hrt]; exact HZ.out.symm.trans (pick_best HGX.out hbs))
        have hil : i < R.length := (List.getElem?_eq_some_iff.1 hr).1
        obtain ⟨ad, g, rfl, had, hbg, hgl, hfz, hc⟩ := HS3.out.plan.own.at hr
        have v0 := hc 0 _ rfl
        have v1 := hc 1 _ rfl
        have v2 := hc 2 _ rfl
        have v3 := hc 3 _ rfl
        have v4 := hc 4 _ rfl
        have v5 := hc 5 _ rfl
        rw [Nat.add_zero] at v0
        obtain ⟨p0, p1, p2, pl⟩ := HS3.out.plan.cells
        have hS3d := HS3.out.on ((Below.refl _ _).drew)
        have htk := take_c s p B true (some ad) c R mb T i hil HR.out hS3d.plan.few r.id r.left x r.A r.on.length r.c none 0 w.heap.size [] w3.drew (fun W hW => HS.out W ((hS3d.low.mono HBB.out).trans hW)) hS3d.plan.b (OwnE.nil ..) (Nat.zero_le _) (fun _ h => absurd h List.not_mem_nil) (Nat.le_trans HBB.out hS3d.low.size)
        have HTK := Lib.hid htk
        have HS3d := Lib.hid hS3d
        have hi0 : (0 : Int) ≤ (i : Int) := by omega
        have hi1 : (i : Int) < (R.length : Int) := by omega
        have hage : ¬ ((i : Int) < 0) := by omega
        clear hbs HK hr hrt hil hbg hgl hfz hc htk hS3d
        go_upto_region 5 with fail
        refine wp_region_held_drew (S := fun W => W.heap[g3]? = some (.cells #[.int .i64 x.a, .int .i64 x.b, .int .i64 x.c, .int .i64 x.d] 24 (0, 0))) (by kernel_rfl) HS3d.out.need (fun hHeld => ?_)
        refine rg_take 0 (some 30) _ (by kernel_rfl) (by kernel_rfl) (by kernel_rfl) (fun _ _ _ h => h) (by kernel_rfl) (by kernel_rfl) (by intro w' hSw op_ ho; simp only [List.getElem?_toArray, List.getElem?_cons_zero, Option.some.injEq] at ho; subst ho; go_simp; with_reducible rfl) (by assumption) ?_
        try simp only [Act.put, List.setIfInBounds_toArray, List.set_cons_zero, List.set_cons_succ]
        refine rg_take 1 (some 31) _ (by kernel_rfl) (by kernel_rfl) (by kernel_rfl) (fun _ _ _ h => h) (by kernel_rfl) (by kernel_rfl) (by intro w' hSw op_ ho; simp only [List.getElem?_toArray, List.getElem?_cons_succ, List.getElem?_cons_zero, Option.some.injEq] at ho; subst ho; go_simp; with_reducible rfl) (by assumption) ?_
        try simp only [Act.put, List.setIfInBounds_toArray, List.set_cons_zero, List.set_cons_succ]
        refine rg_take 2 (some 32) _ (by kernel_rfl) (by kernel_rfl) (by kernel_rfl) (fun _ _ _ h => h) (by kernel_rfl) (by kernel_rfl) (by intro w' hSw op_ ho; simp only [List.getElem?_toArray, List.getElem?_cons_succ, List.getElem?_cons_zero, Option.some.injEq] at ho; subst ho; go_simp; with_reducible rfl) (by assumption) ?_
        try simp only [Act.put, List.setIfInBounds_toArray, List.set_cons_zero, List.set_cons_succ]
        refine rg_take 3 (some 33) _ (by kernel_rfl) (by kernel_rfl) (by kernel_rfl) (fun _ _ _ h => h) (by kernel_rfl) (by kernel_rfl) (by intro w' hSw op_ ho; simp only [List.getElem?_toArray, List.getElem?_cons_succ, List.getElem?_cons_zero, Option.some.injEq] at ho; subst ho; go_simp; with_reducible rfl) (by assumption) ?_
        try simp only [Act.put, List.setIfInBounds_toArray, List.set_cons_zero, List.set_cons_succ]
        refine rg_take 4 (some 34) _ (by kernel_rfl) (by kernel_rfl) (by kernel_rfl) (fun _ _ _ h => h) (by kernel_rfl) (by kernel_rfl) (by intro w' hSw op_ ho; simp only [List.getElem?_toArray, List.getElem?_cons_succ, List.getElem?_cons_zero, Option.some.injEq] at ho; subst ho; go_simp; with_reducible rfl) (by assumption) ?_
        try simp only [Act.put, List.setIfInBounds_toArray, List.set_cons_zero, List.set_cons_succ]
        refine rg_take 6 (some 36) _ (by kernel_rfl) (by kernel_rfl) (by kernel_rfl) (fun _ _ _ h => h) (by kernel_rfl) (by kernel_rfl) (by intro w' hSw op_ ho; simp only [List.getElem?_toArray, List.getElem?_cons_succ, List.getElem?_cons_zero, Option.some.injEq] at ho; subst ho; go_simp; with_reducible rfl) (by assumption) ?_
        try simp only [Act.put, List.setIfInBounds_toArray, List.set_cons_zero, List.set_cons_succ]
        refine rg_take 9 (some 39) _ (by kernel_rfl) (by kernel_rfl) (by kernel_rfl) (fun _ _ _ h => h) (by kernel_rfl) (by kernel_rfl) (by intro w' hSw op_ ho; simp only [List.getElem?_toArray, List.getElem?_cons_succ, List.getElem?_cons_zero, Option.some.injEq] at ho; subst ho; have n0 := cell_of_heap hSw 0; have n1 := cell_of_heap hSw 1; have n2 := cell_of_heap hSw 2; have n3 := cell_of_heap hSw 3; go_simp; with_reducible rfl) (by assumption) ?_
        try simp only [Act.put, List.setIfInBounds_toArray, List.set_cons_zero, List.set_cons_succ]
        refine rg_one 5 (by kernel_rfl) (by kernel_rfl) (fun op_ ho KK hK => ?_)
        simp only [List.getElem?_toArray, List.getElem?_cons_succ, List.getElem?_cons_zero, Option.some.injEq] at ho
        subst ho
        go_simp
        refine hK.out _ _ hHeld (fun hHeld => ?_)
        clear hK
        try simp only [Act.put, List.setIfInBounds_toArray, List.set_cons_zero, List.set_cons_succ]
        refine rg_take 7 (some 37) _ (by kernel_rfl) (by kernel_rfl) (by kernel_rfl) (fun _ _ _ h => h) (by kernel_rfl) (by kernel_rfl) (by intro w' hSw op_ ho; simp only [List.getElem?_toArray, List.getElem?_cons_succ, List.getElem?_cons_zero, Option.some.injEq] at ho; subst ho; go_simp; with_reducible rfl) (by assumption) ?_
        try simp only [Act.put, List.setIfInBounds_toArray, List.set_cons_zero, List.set_cons_succ]
        refine rg_one 8 (by kernel_rfl) (by kernel_rfl) (fun op_ ho KK hK => ?_)
        simp only [List.getElem?_toArray, List.getElem?_cons_succ, List.getElem?_cons_zero, Option.some.injEq] at ho
        subst ho
        go_simp
        refine hK.out _ _ hHeld (fun hHeld => ?_)
        clear hK
        try simp only [Act.put, List.setIfInBounds_toArray, List.set_cons_zero, List.set_cons_succ]
        refine rg_one 10 (by kernel_rfl) (by kernel_rfl) (fun op_ ho KK hK => ?_)
        simp only [List.getElem?_toArray, List.getElem?_cons_succ, List.getElem?_cons_zero, Option.some.injEq] at ho
        subst ho
        clear v0 v1 v2 v3 v4 v5 p0 p1 p2 pl had
        go_simp
        go_at_call 19
        refine HTK.out.mono ?_
        rintro e w6 ⟨rfl, -, hb6, hk6⟩
        have HB6 : Hid (Below B w w6) := Lib.hid ((HS3d.out.low.mono HBB.out).trans hb6)
        have HX6 := Lib.hid (hk6 g4 _ _ (by decide) HS3d.out.choice)
        have HN6 := Lib.hid (hk6 g3 _ _ (by decide) HS3d.out.need)
        clear hb6 hk6
        go_wp2_with fail
        refine hK.out _ _ HN6.out (fun hHeld => ?_)
        clear hK
        try simp only [Act.put, List.setIfInBounds_toArray, List.set_cons_zero, List.set_cons_succ]
        refine rg_one 11 (by kernel_rfl) (by kernel_rfl) (fun op_ ho KK hK => ?_)
        simp only [List.getElem?_toArray, List.getElem?_cons_succ, List.getElem?_cons_zero, Option.some.injEq] at ho
        subst ho
        have d0 := cell_of_heap HX6.out 0
        have d1 := cell_of_heap HX6.out 1
        simp at d0 d1
        have dl := lt_of_row HX6.out
        have df : ∀ j, w6.frozen? ⟨g4, j, none⟩ = false := fun _ => frozen_of_row _ _ _ _ _ HX6.out
        obtain ⟨k1, k2⟩ := put_ch HX6.out (.int .i64 r.id) (.slice none 0 0)
        have HK1 := Lib.hid k1
        have HK2 := Lib.hid ((k2 g3 fun e => by have h := HN6.out; rw [e, HX6.out] at h; simp at h).trans HN6.out)
        clear k1 k2
        go_simp
        refine hK.out _ _ HK2.out (fun hHeld => ?_)
        clear d0 d1 dl df
        clear hK
        try simp only [Act.put, List.setIfInBounds_toArray, List.set_cons_zero, List.set_cons_succ]
        refine rg_take 12 (some 5) _ (by kernel_rfl) (by kernel_rfl) (by kernel_rfl) (fun _ _ _ h => h) (by kernel_rfl) (by kernel_rfl) (by intro w' hSw op_ ho; simp only [List.getElem?_toArray, List.getElem?_cons_succ, List.getElem?_cons_zero, Option.some.injEq] at ho; subst ho; go_simp; with_reducible rfl) (by assumption) ?_
        try simp only [Act.put, List.setIfInBounds_toArray, List.set_cons_zero, List.set_cons_succ]
        refine wpAnyH_done (by kernel_rfl) ?_ _
        clear hHeld
        go_wp2_with fail
        have e0 := cell_of_heap HK1.out 0
        have e1 := cell_of_heap HK1.out 1
        simp at e0 e1
        have hg4 : B ≤ g4 := Nat.le_trans HBB.out HS3d.out.l4
        exact bodyPost_ret (v := .tuple #[.agg #[.int .i64 r.id, .slice none 0 0], .nilIface]) (by simp [results, Tryd.results12, go_sem, e0, e1]) rfl ⟨r.id, [], 0, none, 0, rfl, HZ2.out.symm, OwnE.nil .., ((HB6.out.setCell (p := ⟨g4, 0, none⟩) hg4 _).setCell (p := ⟨g4, 1, none⟩) hg4 _)⟩
end Go.Proofs.YtlckofoabnnlhaaDoor

/- Where a task goes, and who goes for it, by contract: Pick. Conditions: the hosts and the allowances lie in memory. -/
namespace Go.Proofs.YtlckofoabnnlhaaDoor
open Go Go.RowKit Go.Maps

theorem lined_ok {band : Int} {H R : List Hst} (h : Lined band H R) (hv : validH H = true) : ∀ r ∈ R, okH r = true := fun r hr => by
  obtain ⟨i, hi⟩ := List.getElem?_of_mem hr
  obtain ⟨x, hx⟩ : ∃ x, H[i]? = some x := ⟨_, List.getElem?_eq_getElem (by rw [← h.1]; exact (List.getElem?_eq_some_iff.1 hi).1)⟩
  obtain ⟨_, e2, e3⟩ := h.2 i x r hx hi
  unfold validH at hv
  rw [Bool.and_eq_true, List.all_eq_true] at hv
  obtain ⟨k1, k2⟩ := ok_parts (hv.1 x (List.mem_of_getElem? hx))
  unfold okH
  rw [Bool.and_eq_true, List.all_eq_true, e2]
  exact ⟨k1, fun g hg => k2 g (List.mem_filter.1 (e3.mem_iff.1 hg)).1⟩
set_option maxRecDepth 100000 in
set_option maxHeartbeats 6400000 in
theorem pick_c (s : Nat → Addr) (A : Option Addr) (c : Nat) (H : List Hst) (x : V4) (band : Int) (As : Option Addr) (cs : Nat) (S : List Spr) (w : World) (hs : Sent s w) (h : HostsAt w A H) (hsp : ReadsE encSpr w As S) (hsl : S.length ≤ 20) (hsj : ∀ s ∈ S, i64 s.job) :
    Calls Tryd.prog 8 #[.slice A H.length c, .agg #[.int .i64 x.a, .int .i64 x.b, .int .i64 x.c, .int .i64 x.d], .int .i64 band, .slice As S.length cs] w fun e w' => ∃ (host : Int) (out : List Gst) (er : Nat) (Bo : Option Addr) (cb : Nat), e = .returned (.tuple #[.agg #[.int .i64 host, .slice Bo out.length cb], errV s er]) ∧ PickR H x band S host out er ∧ OwnE encTk 33 w' w.heap.size (.slice Bo out.length cb) (out.map (·.task)) ∧ Below w.heap.size w w' := by
  obtain ⟨g5, hg5⟩ : ∃ g5, w.heap.size = g5 := ⟨_, rfl⟩
  obtain ⟨g8, hg8⟩ : ∃ g8, w.heap.size + 1 = g8 := ⟨_, rfl⟩
  obtain ⟨W1, hW1⟩ : ∃ W1, (w.alloc (.cells #[.int .i64 x.a, .int .i64 x.b, .int .i64 x.c, .int .i64 x.d] 24)).alloc (.cells #[.int .i64 0, .slice none 0 0] 38) = W1 := ⟨_, rfl⟩
  have hb1 : Below w.heap.size w W1 := by rw [← hW1]; exact ((Below.refl _ _).alloc (Nat.le_refl _) _).alloc (by simp) _
  have hbd : Below w.heap.size w W1.drew := hb1.drew
  have HSN : Hid (W1.drew.heap[g5]? = some (.cells #[.int .i64 x.a, .int .i64 x.b, .int .i64 x.c, .int .i64 x.d] 24 (0, 0))) := Lib.hid (by
    show W1.heap[g5]? = _
    rw [← hW1, ← hg5, Below.heap_alloc _ _ _ (by simp)]
    exact heap_at_newV rfl _)
  have HSX : Hid (W1.drew.heap[g8]? = some (.cells #[.int .i64 0, .slice none 0 0] 38 (0, 0))) := Lib.hid (by
    show W1.heap[g8]? = _
    rw [← hW1, ← hg8]
    exact heap_at_newV (by simp) _)
  have HNP := Lib.hid (newPlan_c A c H band As cs S W1.drew (h.on hbd) (hsp.on hbd) hsl hsj)
  have HSD := Lib.hid (hs.below hbd (Nat.le_refl _))
  have HBD := Lib.hid hbd
  have HL8 : Hid (w.heap.size ≤ g8 ∧ w.heap.size ≤ W1.drew.heap.size) := Lib.hid ⟨by omega, hbd.size⟩
  have HW1 := Lib.hid hW1
  have HG := Lib.hid (show w.heap.size = g5 ∧ w.heap.size + 1 = g8 from ⟨hg5, hg8⟩)
  clear hs h hsp hsj hg5 hg8 hW1 hb1 hbd
  go_enter Tryd.func8, Tryd.ntmps8
  go_upto_region 1 with fail
  rw [HG.out.2, HG.out.1, HW1.out]
  refine wp_region_held_drew (S := fun W => W.heap[g5]? = some (.cells #[.int .i64 x.a, .int .i64 x.b, .int .i64 x.c, .int .i64 x.d] 24 (0, 0))) (by kernel_rfl) HSN.out (fun hHeld => ?_)
  refine rg_take 0 (some 10) _ (by kernel_rfl) (by kernel_rfl) (by kernel_rfl) (fun _ _ _ h => h) (by kernel_rfl) (by kernel_rfl) (by intro w' hSw op_ ho; simp only [List.getElem?_toArray, List.getElem?_cons_zero, Option.some.injEq] at ho; subst ho; go_simp; with_reducible rfl) (by assumption) ?_
  try simp only [Act.put, List.setIfInBounds_toArray, List.set_cons_zero, List.set_cons_succ]
  refine rg_take 1 (some 11) _ (by kernel_rfl) (by kernel_rfl) (by kernel_rfl) (fun _ _ _ h => h) (by kernel_rfl) (by kernel_rfl) (by intro w' hSw op_ ho; simp only [List.getElem?_toArray, List.getElem?_cons_succ, List.getElem?_cons_zero, Option.some.injEq] at ho; subst ho; go_simp; with_reducible rfl) (by assumption) ?_
  try simp only [Act.put, List.setIfInBounds_toArray, List.set_cons_zero, List.set_cons_succ]
  refine rg_take 2 (some 12) _ (by kernel_rfl) (by kernel_rfl) (by kernel_rfl) (fun _ _ _ h => h) (by kernel_rfl) (by kernel_rfl) (by intro w' hSw op_ ho; simp only [List.getElem?_toArray, List.getElem?_cons_succ, List.getElem?_cons_zero, Option.some.injEq] at ho; subst ho; go_simp; with_reducible rfl) (by assumption) ?_
  try simp only [Act.put, List.setIfInBounds_toArray, List.set_cons_zero, List.set_cons_succ]
  refine rg_take 4 (some 14) _ (by kernel_rfl) (by kernel_rfl) (by kernel_rfl) (fun _ _ _ h => h) (by kernel_rfl) (by kernel_rfl) (by intro w' hSw op_ ho; simp only [List.getElem?_toArray, List.getElem?_cons_succ, List.getElem?_cons_zero, Option.some.injEq] at ho; subst ho; have n0 := cell_of_heap hSw 0; have n1 := cell_of_heap hSw 1; have n2 := cell_of_heap hSw 2; have n3 := cell_of_heap hSw 3; go_simp; with_reducible rfl) (by assumption) ?_
  try simp only [Act.put, List.setIfInBounds_toArray, List.set_cons_zero, List.set_cons_succ]
  refine rg_one 3 (by kernel_rfl) (by kernel_rfl) (fun op_ ho KK hK => ?_)
  simp only [List.getElem?_toArray, List.getElem?_cons_succ, List.getElem?_cons_zero, Option.some.injEq] at ho
  subst ho
  go_simp
  go_at_call 11
  refine HNP.out.mono ?_
  rintro e w3 ⟨p, A3, c3, R, mb, T, rfl, hp3, hl3, ht3, b3⟩
  have HP3 := Lib.hid hp3
  have HL3 := Lib.hid hl3
  have HT3 := Lib.hid ht3
  have HB3 := Lib.hid b3
  have HN3 := Lib.hid ((b3.block g5 (lt_of_row hHeld)).trans hHeld)
  clear hp3 hl3 ht3 b3
  go_wp2_with fail
  refine hK.out _ _ HN3.out (fun hHeld => ?_)
  clear hK
  try simp only [Act.put, List.setIfInBounds_toArray, List.set_cons_zero, List.set_cons_succ]
  refine rg_one 5 (by kernel_rfl) (by kernel_rfl) (fun op_ ho KK hK => ?_)
  simp only [List.getElem?_toArray, List.getElem?_cons_succ, List.getElem?_cons_zero, Option.some.injEq] at ho
  subst ho
  have HPC := Lib.hid (place_c s p W1.drew.heap.size (validH H) A3 c3 R mb T x w3 (fun W hW => HSD.out.below (HB3.out.trans hW) (Nat.le_refl _)) HP3.out (fun hv => lined_ok HL3.out hv) HB3.out.size)
  go_simp
  go_at_call 12
  refine HPC.out.mono ?_
  rintro e w5 ⟨host, out, er, Bo, cb, rfl, he5, ho5, b5⟩
  have HE5 := Lib.hid he5
  have HO5 := Lib.hid ho5
  have HB5 : Hid (Below W1.drew.heap.size W1.drew w5) := Lib.hid (HB3.out.trans b5)
  have HN5 := Lib.hid ((HB5.out.block g5 (lt_of_row HSN.out)).trans HSN.out)
  have HX5 := Lib.hid ((HB5.out.block g8 (lt_of_row HSX.out)).trans HSX.out)
  clear he5 ho5 b5 HPC
  go_wp2_with fail
  refine hK.out _ _ HN5.out (fun hHeld => ?_)
  clear hK
  try simp only [Act.put, List.setIfInBounds_toArray, List.set_cons_zero, List.set_cons_succ]
  refine rg_take 6 (some 16) _ (by kernel_rfl) (by kernel_rfl) (by kernel_rfl) (fun _ _ _ h => h) (by kernel_rfl) (by kernel_rfl) (by intro w' hSw op_ ho; simp only [List.getElem?_toArray, List.getElem?_cons_succ, List.getElem?_cons_zero, Option.some.injEq] at ho; subst ho; go_simp; with_reducible rfl) (by assumption) ?_
  try simp only [Act.put, List.setIfInBounds_toArray, List.set_cons_zero, List.set_cons_succ]
  refine rg_take 7 (some 17) _ (by kernel_rfl) (by kernel_rfl) (by kernel_rfl) (fun _ _ _ h => h) (by kernel_rfl) (by kernel_rfl) (by intro w' hSw op_ ho; simp only [List.getElem?_toArray, List.getElem?_cons_succ, List.getElem?_cons_zero, Option.some.injEq] at ho; subst ho; go_simp; with_reducible rfl) (by assumption) ?_
  try simp only [Act.put, List.setIfInBounds_toArray, List.set_cons_zero, List.set_cons_succ]
  refine rg_one 8 (by kernel_rfl) (by kernel_rfl) (fun op_ ho KK hK => ?_)
  simp only [List.getElem?_toArray, List.getElem?_cons_succ, List.getElem?_cons_zero, Option.some.injEq] at ho
  subst ho
  have d0 := cell_of_heap HX5.out 0
  have d1 := cell_of_heap HX5.out 1
  simp at d0 d1
  have dl := lt_of_row HX5.out
  have df : ∀ j, w5.frozen? ⟨g8, j, none⟩ = false := fun _ => frozen_of_row _ _ _ _ _ HX5.out
  obtain ⟨k1, k2⟩ := put_ch HX5.out (.int .i64 host) (.slice Bo out.length cb)
  have HK1 := Lib.hid k1
  have HK2 := Lib.hid k2
  have HK3 := Lib.hid ((k2 g5 fun e => by have h := HN5.out; rw [e, HX5.out] at h; simp at h).trans HN5.out)
  clear k1 k2
  go_simp
  refine hK.out _ _ HK3.out (fun hHeld => ?_)
  clear d0 d1 dl df
  clear hK
  try simp only [Act.put, List.setIfInBounds_toArray, List.set_cons_zero, List.set_cons_succ]
  refine rg_take 9 (some 9) _ (by kernel_rfl) (by kernel_rfl) (by kernel_rfl) (fun _ _ _ h => h) (by kernel_rfl) (by kernel_rfl) (by intro w' hSw op_ ho; simp only [List.getElem?_toArray, List.getElem?_cons_succ, List.getElem?_cons_zero, Option.some.injEq] at ho; subst ho; go_simp; with_reducible rfl) (by assumption) ?_
  try simp only [Act.put, List.setIfInBounds_toArray, List.set_cons_zero, List.set_cons_succ]
  refine wpAnyH_done (by kernel_rfl) ?_ _
  clear hHeld
  go_wp2_with fail
  have e0 := cell_of_heap HK1.out 0
  have e1 := cell_of_heap HK1.out 1
  simp at e0 e1
  refine bodyPost_ret (v := .tuple #[.agg #[.int .i64 host, .slice Bo out.length cb], errV s er]) (by simp [results, Tryd.results8, go_sem, e0, e1]) rfl ⟨host, out, er, Bo, cb, rfl, ⟨R, HL3.out, ?_⟩, (OwnE.base HO5.out (Nat.le_trans HL8.out.2 HB3.out.size)).same fun j hj => HK2.out j fun e => own_ne HO5.out HX5.out (by decide) (e ▸ hj), ?_⟩
  · rw [HE5.out]
    congr 1
    funext j
    exact HT3.out j
  · exact ((HBD.out.trans (HB5.out.mono HL8.out.2)).setCell (p := ⟨g8, 0, none⟩) HL8.out.1 _).setCell (p := ⟨g8, 1, none⟩) HL8.out.1 _
end Go.Proofs.YtlckofoabnnlhaaDoor
