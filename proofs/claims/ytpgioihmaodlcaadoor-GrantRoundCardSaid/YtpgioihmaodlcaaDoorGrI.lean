/- What is issued at a place: the contract of the sum over a map's accounts. Conditions: the map is one that the calls have made; the accounts are solid; the sentinels lie where the program's text lays them. -/
import Derived.Test.YtpgioihmaodlcaaDoorGrD
namespace Go.Proofs.YtpgioihmaodlcaaDoor
open Go Go.RowKit Go.Maps Go.Sort

/-- The sum of a list of vectors. -/
def sums : List V4 → V4
  | [] => z4
  | z :: L => pv z (sums L)
theorem comp_sums_app (r : Nat) (L M : List V4) : comp r (sums (L ++ M)) = comp r (sums L) + comp r (sums M) := by
  induction L with
  | nil => rw [List.nil_append, sums, comp_z4]; omega
  | cons z L ih => rw [List.cons_append, sums, sums, comp_pv, comp_pv, ih]; omega
theorem sums_nonneg {L : List V4} (h : ∀ z ∈ L, goodV z = true) (r : Nat) : 0 ≤ comp r (sums L) := by
  induction L with
  | nil => rw [sums, comp_z4]; exact Int.le_refl _
  | cons z L ih =>
    have h1 := good_comp.1 (h z (List.mem_cons_self ..)) r
    have h2 := ih fun y hy => h y (List.mem_cons_of_mem _ hy)
    rw [sums, comp_pv]; omega
theorem sumGo_good {L : List V4} (h : ∀ z ∈ L, goodV z = true) (t : V4) (i : Nat) (ht : goodV t = true) (hm : ∀ r, comp r t + comp r (sums L) ≤ 1099511627776) : sumGo L t i = (pv t (sums L), 0, 0) := by
  induction L generalizing t i with
  | nil => rw [sumGo, sums]; congr 1; exact comp_ext fun r => by rw [comp_pv, comp_z4]; omega
  | cons z L ih =>
    have hz := h z (List.mem_cons_self ..)
    have hL := fun y hy => h y (List.mem_cons_of_mem z hy)
    have hg : goodV (pv t z) = true := good_comp.2 fun r => by
      have h1 := good_comp.1 ht r; have h2 := good_comp.1 hz r; have h3 := hm r; have h4 := sums_nonneg hL r
      rw [sums, comp_pv] at h3
      rw [comp_pv]; omega
    have e := add_ok2 ht hz hg
    rw [sumGo_ok (by rw [e]), e, ih hL _ _ hg fun r => by have h3 := hm r; rw [sums, comp_pv] at h3; rw [comp_pv]; omega]
    congr 1
    exact comp_ext fun r => by rw [sums, comp_pv, comp_pv, comp_pv, comp_pv]; omega
theorem sumR_good {L : List V4} (h : ∀ z ∈ L, goodV z = true) (hm : ∀ r, comp r (sums L) ≤ 1099511627776) : sumR L = (sums L, 0, 0) := by
  unfold sumR
  rw [show (⟨0, 0, 0, 0⟩ : V4) = z4 from rfl, sumGo_good h z4 0 (good_comp.2 fun r => by rw [comp_z4]; omega) fun r => by rw [comp_z4]; have := hm r; omega]
  congr 1
  exact comp_ext fun r => by rw [comp_pv, comp_z4]; omega

/-- A place in a block of its own. -/
def PlB (w : World) (g : Nat) (p : V4) : Prop := w.heap[g]? = some (.cells #[.int .i64 p.b, .int .i64 p.c, .int .i64 p.d] 24 (0, 0))
theorem PlB.lt {w : World} {g : Nat} {k : V4} (h : PlB w g k) : g < w.heap.size := lt_of_row h
theorem PlB.on {w w' : World} {g : Nat} {k : V4} (h : PlB w g k) (hb : Below w.heap.size w w') : PlB w' g k := (hb.block g h.lt).trans h
theorem PlB.chg {w w' : World} {g p q : Nat} {k : V4} (h : PlB w g k) (hc : Chg p q w w') (h1 : g ≠ p) (h2 : g ≠ q) : PlB w' g k := hc.row h h1 h2
theorem PlB.alloc {w : World} {g : Nat} {x : V4} (h : PlB w g x) (o : Obj) : PlB (w.alloc o) g x := h.on ((Below.refl _ _).alloc (Nat.le_refl _) o)
theorem PlB.new (w : World) (p : V4) : PlB (w.alloc (.cells #[.int .i64 p.b, .int .i64 p.c, .int .i64 p.d] 24)) w.heap.size p := heap_alloc_new w _
theorem PlB.cells {w : World} {g : Nat} {k : V4} (h : PlB w g k) : w.cell? ⟨g, 0, none⟩ = some (.int .i64 k.b) ∧ w.cell? ⟨g, 1, none⟩ = some (.int .i64 k.c) ∧ w.cell? ⟨g, 2, none⟩ = some (.int .i64 k.d) :=
  ⟨cell_of_heap h 0, cell_of_heap h 1, cell_of_heap h 2⟩
theorem eqP4 (k p : V4) (w : World) : (Op.equalIn 10000 24 (.agg #[.int .i64 k.b, .int .i64 k.c, .int .i64 k.d]) (.agg #[.int .i64 p.b, .int .i64 p.c, .int .i64 p.d])).run Tryd.prog w = .ok (sameP k p) w := eqPl k.b k.c k.d p.b p.c p.d w
theorem Tryd.infoV4 : (Tryd.prog.info? 29).map (fun i => (i.zero, i.size, i.bytes)) = some (some (.agg #[.int .i64 0, .int .i64 0, .int .i64 0, .int .i64 0]), 4, 32) := by kernel_rfl

theorem cells_new_at {W : World} {g : Nat} {cs : Array Value} {t : TypeId} (hg : g = W.heap.size) {j : Nat} : (W.alloc (.cells cs t)).cell? ⟨g, j, none⟩ = cs[j]? := by
  subst hg; exact cell_of_heap (heap_alloc_new W _) j
/-- What a round begins with. -/
structure IsR (w : World) (X b : Nat) (T : Grs) (p : V4) (left : V4 → Bool) (cnt : Nat) (v : Value) (zs : List V4) (r : Nat) (wr : World) : Prop where
  rng : RangeG Tryd.prog 31 klV okV encA wr b r T left cnt
  own : VOwn 29 wr (X + 1 + 1 + 1) v zs
  pl : PlB wr X p
  res : Vb wr (X + 1) z4
  below : Below w.heap.size w wr
  good : ∀ z ∈ zs, goodV z = true
  sum : ∀ r, comp r (sums zs) = partK (part1 p r) left T
  len : zs.length + 3 * cnt ≤ 3 * T.length

set_option maxRecDepth 100000 in
set_option maxHeartbeats 6400000 in
/-- What is issued at a place. -/
theorem issued_c (s : Nat → Addr) (b : Nat) (T : Grs) (p : V4) (w : World) (hs : Sent s w) (h : GrsAt w b T) (hS : Solid T) (hn : T.length ≤ 1000000) :
    Calls Tryd.prog 23 #[.map (some b), .agg #[.int .i64 p.b, .int .i64 p.c, .int .i64 p.d]] w
      fun e w' => e = .returned (.agg #[.int .i64 ((issV T p)).a, .int .i64 ((issV T p)).b, .int .i64 ((issV T p)).c, .int .i64 ((issV T p)).d]) ∧ Below w.heap.size w w' := by
  have HM := Lib.hid h; have HS := Lib.hid hs; have HSO := Lib.hid hS
  obtain ⟨R, hR⟩ : ∃ R, issV T p = R := ⟨_, rfl⟩
  have HRR := Lib.hid hR
  rw [hR]
  clear h hs hS hR
  go_enter Tryd.func23, Tryd.ntmps23
  go_wp2_with (at_range; refine wpList_rangeG _ kitV rfl _ 52 rfl 37 Tryd.underlying52 encA b T rfl ((HM.out.alloc _).alloc _) ?_; intro w0 left hrg0 hl0 hg0 hs0)
  go_frame
  simp only [World.size_alloc] at hrg0 hs0 ⊢
  obtain ⟨X, hX⟩ : ∃ X, w.heap.size = X := ⟨_, rfl⟩
  have HX := Lib.hid hX
  have hst : IsR w X b T p left T.length (.slice none 0 0) [] (X + 1 + 1) w0 := by
    have hb0 : Below w.heap.size w ((w.alloc (.cells #[.int .i64 p.b, .int .i64 p.c, .int .i64 p.d] 24)).alloc (.cells #[.int .i64 0, .int .i64 0, .int .i64 0, .int .i64 0] 29)) := by (repeat' (first | (with_reducible exact Below.refl _ _) | (with_reducible refine below_drewN ?_ _) | (with_reducible refine Below.drew ?_) | (with_reducible refine Below.alloc ?_ ?_ _) | (with_reducible refine Below.setCell ?_ ?_ _) | (with_reducible refine Below.trans ?_ (Below.mono (by with_reducible assumption) ?_)) | omega | (simp only [World.size_alloc] at *; omega) | (with_reducible refine Below.size (B := 0) ?_)))
    refine ⟨by rw [← hX]; exact hrg0, VOwn.nil _ _ _, ?_, ?_, hb0.grown hg0 hb0.size (fun k e => by cases e), fun z hz => (by cases hz), fun r => ?_, by simp⟩
    · rw [← hX]; exact (hg0.block _ (by simp; omega) (by simp)).trans ((PlB.new w p).alloc _)
    · rw [← hX]; exact (hg0.block _ (by simp) (by simp)).trans (Vb.new_at (by simp) z4)
    · rw [sums, comp_z4, partK_none _ T fun x hx => ?_]
      obtain ⟨v, hv⟩ := Option.isSome_iff_exists.1 hx
      rw [hl0 x (HM.out.okKey hv)]; exact hx
  have HST := Lib.hid hst
  rw [hX] at hrg0 hs0
  try rw [hX]
  clear hst hrg0 hl0 hg0 hs0 hX
  go_loopw [5] (fun V wr => ∃ (left : V4 → Bool) (cnt : Nat) (zs : List V4), IsR w X b T p left cnt V zs (X + 1 + 1) wr)
    (fun _ wr => wr.rangeLeft b (X + 1 + 1))
  case atStart => exact ⟨_, _, _, HST.out⟩
  case round =>
    obtain ⟨left, cnt, zs, hrel⟩ := hrel
    have hrg := hrel.rng
    have HR := Lib.hid hrel
    clear hrel
    go_wp2_with (at_next; refine wpList_nextG _ kitV rfl _ rfl encA b (X + 1 + 1) T _ _ rfl hrg ?_ ?_)
    · intro hc0 hl0
      obtain ⟨A, c, hu⟩ := HR.out.own.form
      subst hu
      have hsum : sumR zs = (R, 0, 0) := by
        have e : sums zs = R := by
          rw [← HRR.out]
          refine comp_ext fun r => ?_
          rw [HR.out.sum r, comp_issV, partK_all _ (fun x hx => ?_) HM.out.apart]
          · rfl
          · obtain ⟨v, hv⟩ := Option.isSome_iff_exists.1 hx
            exact hl0 x (HM.out.okKey hv)
        rw [sumR_good HR.out.good fun r => ?_, e]
        rw [e, ← HRR.out, comp_issV]; exact HSO.out.most p r
      have cs := sum_any s A c zs wr (HS.out.below HR.out.below (Nat.le_refl _)) HR.out.own.vrow (by have := HR.out.len; omega)
      rw [hsum] at cs
      have HCS := Lib.hid cs
      have HV := Lib.hid HR.out.res
      have HB := Lib.hid HR.out.below
      have HWS : Hid (X + 1 < wr.heap.size) := Lib.hid (lt_of_row HR.out.res)
      clear hsum cs hrg hc0 hl0
      go_wp2_with fail
      refine HCS.out.mono ?_
      rintro e w2 ⟨hb, ⟨_, rfl⟩ | ⟨h0, _⟩⟩
      · have V := HV.out.below hb HWS.out
        obtain ⟨r0, r1, r2, r3, rf, rl⟩ := V.facts
        have HB2 : Hid (Below X w w2) := Lib.hid (by have h1 := HB.out.trans (hb.mono HB.out.size); rw [HX.out] at h1; exact h1)
        clear hb V
        go_wp2_with fail
        refine bodyPost_ret (v := .agg #[.int .i64 R.a, .int .i64 R.b, .int .i64 R.c, .int .i64 R.d]) (by simp [results, Tryd.results23, go_sem, r0, r1, r2, r3, rl]) rfl ?_
        refine ⟨rfl, ?_⟩
        rw [HX.out]
        exact ((((HB2.out.setCell (p := ⟨X + 1, 0, none⟩) (by simp) _).setCell (p := ⟨X + 1, 1, none⟩) (by simp) _).setCell (p := ⟨X + 1, 2, none⟩) (by simp) _).setCell (p := ⟨X + 1, 3, none⟩) (by simp) _).alloc (by simp only [World.size_setCell]; omega) _
      · exact absurd h0 (Nat.lt_irrefl _)
    · intro y x w1 cnt1 hyo hlk hat hrg1 hlt hg1 hs1 hen
      have hsz : X + 1 + 1 + 1 ≤ w1.heap.size := by
        obtain ⟨o, ho, _⟩ := HR.out.rng.iter
        have := lt_of_row ho
        omega
      have own1 : VOwn 29 w1 (X + 1 + 1 + 1) u5 zs := HR.out.own.same fun k hk => hg1.block k (HR.out.own.lt k hk).2 (fun e => by have := (HR.out.own.lt k hk).1; cases e; omega)
      have pl1 : PlB w1 X p := (hg1.block X HR.out.pl.lt (by simp; omega)).trans HR.out.pl
      have res1 : Vb w1 (X + 1) z4 := (hg1.block (X + 1) (lt_of_row HR.out.res) (by simp)).trans HR.out.res
      have below1 : Below w.heap.size w w1 := HR.out.below.grown hg1 HR.out.below.size (fun k e => by cases e; rw [HX.out]; omega)
      have HO1 := Lib.hid own1; have HP1 := Lib.hid pl1; have HV1 := Lib.hid res1; have HB1 := Lib.hid below1
      have HR1 := Lib.hid hrg1; have HLT := Lib.hid hlt; have HAT := Lib.hid hat; have HLK := Lib.hid hlk; have HYO := Lib.hid hyo
      obtain ⟨p0, p1, p2⟩ := pl1.cells
      have pll := pl1.lt
      have HE := eqP4 y p
      have HME : Hid (w1.rangeLeft b (X + 1 + 1) < wr.rangeLeft b (X + 1 + 1)) := Lib.hid (by rw [hrg1.left_eq, hrg.left_eq]; exact hlt)
      clear own1 pl1 res1 below1 hrg1 hlt hat hlk hyo hg1 hs1 hrg
      simp only [encA, vv] at hen ⊢
      cases hsp : sameP y p
      · rw [hsp] at HE
        go_wp2_with fail
        go_roundw
        have hpt := fun r => partK_take (part1 p r) left HM.out.apart HLK.out HAT.out
        have hbw : Below w1.heap.size w1 ((w1.alloc (.cells #[.int .i64 y.a, .int .i64 y.b, .int .i64 y.c, .int .i64 y.d] 31)).alloc (.cells #[.int .i64 x.f.a, .int .i64 x.f.b, .int .i64 x.f.c, .int .i64 x.f.d, .int .i64 x.c.a, .int .i64 x.c.b, .int .i64 x.c.c, .int .i64 x.c.d, .int .i64 x.h.a, .int .i64 x.h.b, .int .i64 x.h.c, .int .i64 x.h.d] 37)) := by (repeat' (first | (with_reducible exact Below.refl _ _) | (with_reducible refine below_drewN ?_ _) | (with_reducible refine Below.drew ?_) | (with_reducible refine Below.alloc ?_ ?_ _) | (with_reducible refine Below.setCell ?_ ?_ _) | (with_reducible refine Below.trans ?_ (Below.mono (by with_reducible assumption) ?_)) | omega | (simp only [World.size_alloc] at *; omega) | (with_reducible refine Below.size (B := 0) ?_)))
        case rel =>
          refine ⟨_, cnt1, zs, (HR1.out.alloc _).alloc _, HO1.out.on hbw, HP1.out.on hbw, (HV1.out.alloc _).alloc _, HB1.out.trans (hbw.mono HB1.out.size), HR.out.good, fun r => ?_, ?_⟩
          · rw [HR.out.sum r, hpt r]
            unfold part1
            rw [hsp]; simp
          · have := HR.out.len; have := HLT.out; omega
        case measure =>
          have h1 := HME.out
          rw [HR1.out.left_eq] at h1
          rw [((HR1.out.alloc _).alloc _).left_eq]; exact h1
      · rw [hsp] at HE
        obtain ⟨i0, hi, hz0, hz1, hz2⟩ := info_parts Tryd.infoV4
        go_wp2_with (at_builtin; refine wpList_append_own _ rfl _ _ 68 rfl (X + 1 + 1 + 1) 29 i0 (.agg #[.int .i64 0, .int .i64 0, .int .i64 0, .int .i64 0]) 4 32 Tryd.underlying68 hi hz0 hz1 hz2 rfl (by decide) _ zs.length (cells4 zs) rfl (((HO1.out.on ((Below.refl _ _).alloc (Nat.le_refl _) _)).on ((Below.refl _ _).alloc (Nat.le_refl _) _)).on ((Below.refl _ _).alloc (Nat.le_refl _) _)) ⟨w1.heap.size + 1 + 1, 0, none⟩ 3 3 (cells4 [x.f, x.c, x.h]) rfl rfl ?c1 (cells4_oneCell _) ?c2 ?c3 ?c4 ?_)
        case c1 =>
          intro j u hu
          rw [add0', cells_new_at (by simp), ← hu]
          simp [cells4, enc4]
        case c2 => have := HR.out.len; rw [maxLen_is4]; omega
        case c3 => have := HR.out.len; omega
        case c4 => simp; omega
        intro v' w3 hown' hg3 hnil3
        have hbw : Below w1.heap.size w1 (((w1.alloc (.cells #[.int .i64 y.a, .int .i64 y.b, .int .i64 y.c, .int .i64 y.d] 31)).alloc (.cells #[.int .i64 x.f.a, .int .i64 x.f.b, .int .i64 x.f.c, .int .i64 x.f.d, .int .i64 x.c.a, .int .i64 x.c.b, .int .i64 x.c.c, .int .i64 x.c.d, .int .i64 x.h.a, .int .i64 x.h.b, .int .i64 x.h.c, .int .i64 x.h.d] 37)).alloc (.cells #[.int .i64 x.f.a, .int .i64 x.f.b, .int .i64 x.f.c, .int .i64 x.f.d, .int .i64 x.c.a, .int .i64 x.c.b, .int .i64 x.c.c, .int .i64 x.c.d, .int .i64 x.h.a, .int .i64 x.h.b, .int .i64 x.h.c, .int .i64 x.h.d] 29)) := by (repeat' (first | (with_reducible exact Below.refl _ _) | (with_reducible refine below_drewN ?_ _) | (with_reducible refine Below.drew ?_) | (with_reducible refine Below.alloc ?_ ?_ _) | (with_reducible refine Below.setCell ?_ ?_ _) | (with_reducible refine Below.trans ?_ (Below.mono (by with_reducible assumption) ?_)) | omega | (simp only [World.size_alloc] at *; omega) | (with_reducible refine Below.size (B := 0) ?_)))
        have HBW := Lib.hid hbw
        have HOW := Lib.hid hown'
        have HG3 := Lib.hid hg3
        clear hbw hown' hg3 hnil3
        have hob : ∀ k, u5.ownBlock = some k → X + 1 + 1 + 1 ≤ k := fun k hk => (HO1.out.lt k hk).1
        have hbb : b < X := by rw [← HX.out]; exact HM.out.lt
        have hrg3 : RangeG Tryd.prog 31 klV okV encA w3 b (X + 1 + 1) T (fun z => left z && !decide (z = y)) cnt1 := (((HR1.out.alloc _).alloc _).alloc _).kept HG3.out (fun e => by have := hob b e.symm; omega) (fun e => by have := hob _ e.symm; omega)
        have HRG3 := Lib.hid hrg3
        have HOB := Lib.hid hob
        clear hrg3 hob hbb
        go_wp2_with fail
        go_roundw
        case rel =>
          have hb3 := HB1.out.trans (HBW.out.mono HB1.out.size)
          refine ⟨_, cnt1, zs ++ [x.f, x.c, x.h], HRG3.out, ?_, ?_, ?_, hb3.grown HG3.out hb3.size (fun k e => by have := HOB.out k e; rw [HX.out]; omega), fun z hz => ?_, fun r => ?_, ?_⟩
          · unfold VOwn
            rw [← cells4_app, List.length_append]
            exact HOW.out
          · have hp := HP1.out.on HBW.out
            exact (HG3.out.block X hp.lt (fun e => by have := HOB.out X e.symm; omega)).trans hp
          · have hv := HV1.out.below HBW.out (lt_of_row HV1.out)
            exact (HG3.out.block (X + 1) (lt_of_row hv) (fun e => by have := HOB.out _ e.symm; omega)).trans hv
          · have hax : acc T y = x := by unfold acc; rw [HAT.out]; rfl
            rcases List.mem_append.1 hz with i | i
            · exact HR.out.good z i
            · simp at i
              rcases i with rfl | rfl | rfl
              · rw [← hax]; exact HSO.out.goodF y
              · rw [← hax]; exact HSO.out.goodC y
              · rw [← hax]; exact HSO.out.goodH y
          · rw [comp_sums_app, HR.out.sum r, partK_take (part1 p r) left HM.out.apart HLK.out HAT.out]
            unfold part1
            rw [if_pos hsp]
            simp only [sums, comp_pv, comp_z4, allOf]
            omega
          · have := HR.out.len; have := HLT.out; simp; omega
        case measure =>
          have h1 := HME.out
          rw [HR1.out.left_eq] at h1
          rw [HRG3.out.left_eq]; exact h1
end Go.Proofs.YtpgioihmaodlcaaDoor
