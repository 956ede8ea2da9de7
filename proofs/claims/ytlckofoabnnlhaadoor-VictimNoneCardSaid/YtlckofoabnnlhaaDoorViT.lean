/- A task is placed, by contract: the allowances, the room, the choice. Conditions: the plan lies in memory, the place is one of its rooms. -/
import Derived.Test.YtlckofoabnnlhaaDoorViCk
import Derived.Test.YtlckofoabnnlhaaDoorViFk
import Derived.Test.YtlckofoabnnlhaaDoorVecAdd
namespace Go.Proofs.YtlckofoabnnlhaaDoor
open Go Go.RowKit Go.Maps

/-- A plan in memory, but for what its rooms hold. -/
structure PlanB (w : World) (p B : Nat) (valid : Bool) (A : Option Addr) (c : Nat) (R : List Hst) (mb : Nat) (T : List (Int × Int)) : Prop where
  box : w.heap[p]? = some (.cells #[.bool valid, .slice A R.length c, .map (some mb)] 59 (0, 0))
  own : OwnE encHst 61 w B (.slice A R.length c) R
  map : MapG Tryd.prog 3 (Lit.int .i64) i64 (Value.int .i64) w mb T
  mB : B ≤ mb
theorem PlanAt.b {w : World} {p B : Nat} {valid : Bool} {A : Option Addr} {c : Nat} {R : List Hst} {mb : Nat} {T : List (Int × Int)} (h : PlanAt w p B valid A c R mb T) : PlanB w p B valid A c R mb T := ⟨h.box, h.own, h.map, h.mB⟩
theorem map_ne {κ α : Type} {P : Program} {k : TypeId} {kl : κ → Lit} {ok : κ → Prop} [DecidableEq κ] {enc : α → Value} {w : World} {b g : Nat} {T : List (κ × α)} (h : MapG P k kl ok enc w b T) {cs : Array Value} {t : TypeId} {q : Nat × Nat} (hg : w.heap[g]? = some (.cells cs t q)) : g ≠ b := fun e => by
  obtain ⟨D, ⟨es, c, hb, _⟩, _⟩ := h
  rw [e, hb] at hg; cases hg
section
variable {w w' : World} {p B : Nat} {valid : Bool} {A : Option Addr} {c : Nat} {R : List Hst} {mb : Nat} {T : List (Int × Int)}
theorem PlanB.on (h : PlanB w p B valid A c R mb T) (hb : Below w.heap.size w w') : PlanB w' p B valid A c R mb T :=
  ⟨(hb.block p (lt_of_row h.box)).trans h.box, h.own.on hb, h.map.on hb (Nat.le_refl _), h.mB⟩
theorem PlanB.cells (h : PlanB w p B valid A c R mb T) : w.cell? ⟨p, 0, none⟩ = some (.bool valid) ∧ w.cell? ⟨p, 1, none⟩ = some (.slice A R.length c) ∧ w.cell? ⟨p, 2, none⟩ = some (.map (some mb)) ∧ p < w.heap.size :=
  ⟨cell_of_heap h.box 0, cell_of_heap h.box 1, cell_of_heap h.box 2, lt_of_row h.box⟩
theorem PlanB.put (h : PlanB w p B valid A c R mb T) {T' : List (Int × Int)} (hm : MapG Tryd.prog 3 (Lit.int .i64) i64 (Value.int .i64) w' mb T') (hg : w.grownBy w' (some mb)) : PlanB w' p B valid A c R mb T' :=
  ⟨(hg.block p (lt_of_row h.box) fun e => map_ne h.map h.box (Option.some.inj e)).trans h.box, h.own.same fun k hk => hg.block k (h.own.lt k hk).2 fun e => own_neM h.own h.map (by rw [hk, e]), hm, h.mB⟩
end
/-- The boxes of take: the room, the demand, the choice. -/
structure TakB (w0 W : World) (g7 g9 g10 : Nat) (rid : Int) (l x : V4) (A' : Option Addr) (n' c' : Nat) : Prop where
  room : W.heap[g7]? = some (.cells #[.int .i64 rid, .int .i64 l.a, .int .i64 l.b, .int .i64 l.c, .int .i64 l.d, .slice A' n' c'] 61 (0, 0))
  need : W.heap[g9]? = some (.cells #[.int .i64 x.a, .int .i64 x.b, .int .i64 x.c, .int .i64 x.d] 24 (0, 0))
  choice : W.heap[g10]? = some (.cells #[.int .i64 0, .slice none 0 0] 38 (0, 0))
  keep : ∀ (gq : Nat) (cs : Array Value) (t : TypeId), t ≠ 61 → w0.heap[gq]? = some (.cells cs t (0, 0)) → W.heap[gq]? = some (.cells cs t (0, 0))
theorem TakB.on {w0 W W' : World} {g7 g9 g10 : Nat} {rid : Int} {l x : V4} {A' : Option Addr} {n' c' : Nat} (h : TakB w0 W g7 g9 g10 rid l x A' n' c') (hb : Below W.heap.size W W') : TakB w0 W' g7 g9 g10 rid l x A' n' c' :=
  ⟨(hb.block _ (lt_of_row h.room)).trans h.room, (hb.block _ (lt_of_row h.need)).trans h.need, (hb.block _ (lt_of_row h.choice)).trans h.choice, fun gq cs t ht hq => (hb.block _ (lt_of_row (h.keep gq cs t ht hq))).trans (h.keep gq cs t ht hq)⟩
theorem TakB.put {w0 W W' : World} {g7 g9 g10 : Nat} {rid : Int} {l x : V4} {A' : Option Addr} {n' c' : Nat} (h : TakB w0 W g7 g9 g10 rid l x A' n' c') {mb : Nat} {T : List (Int × Int)} (hm : MapG Tryd.prog 3 (Lit.int .i64) i64 (Value.int .i64) W mb T) (hg : W.grownBy W' (some mb)) : TakB w0 W' g7 g9 g10 rid l x A' n' c' :=
  ⟨(hg.block _ (lt_of_row h.room) fun e => map_ne hm h.room (Option.some.inj e)).trans h.room, (hg.block _ (lt_of_row h.need) fun e => map_ne hm h.need (Option.some.inj e)).trans h.need, (hg.block _ (lt_of_row h.choice) fun e => map_ne hm h.choice (Option.some.inj e)).trans h.choice, fun gq cs t ht hq => (hg.block _ (lt_of_row (h.keep gq cs t ht hq)) fun e => map_ne hm (h.keep gq cs t ht hq) (Option.some.inj e)).trans (h.keep gq cs t ht hq)⟩
/-- The block of a row. -/
theorem own_blk {α : Type} {n : Nat} {E : EncK α n} {e : TypeId} {w : World} {base m c i ga : Nat} {ad : Addr} {L : List α} {s : α} (h : OwnE E e w base (.slice (some ad) m c) L) (hi : L[i]? = some s) (ha : ad.add (i * n) = ⟨ga, i * n, none⟩) : ad = ⟨ga, 0, none⟩ ∧ base ≤ ga := by
  obtain ⟨g, cap, hv, _, hb, _, _, _⟩ := h.some (Nat.lt_of_le_of_lt (Nat.zero_le _) (List.getElem?_eq_some_iff.1 hi).1)
  simp only [Value.slice.injEq, Option.some.injEq] at hv
  obtain ⟨rfl, _, _⟩ := hv
  rw [Addr.add_lit] at ha
  simp only [Addr.mk.injEq, and_true] at ha
  obtain ⟨rfl, _⟩ := ha
  exact ⟨rfl, hb⟩
/-- What four stores make of a box of six cells. -/
theorem put_14 {W : World} {g : Nat} {t : TypeId} {r0 r1 r2 r3 r4 r5 : Value} (h : W.heap[g]? = some (.cells #[r0, r1, r2, r3, r4, r5] t (0, 0))) (a b c d : Value) : ((((W.setCell ⟨g, 1, none⟩ a).setCell ⟨g, 2, none⟩ b).setCell ⟨g, 3, none⟩ c).setCell ⟨g, 4, none⟩ d).heap[g]? = some (.cells #[r0, a, b, c, d, r5] t (0, 0)) ∧ ∀ k, k ≠ g → ((((W.setCell ⟨g, 1, none⟩ a).setCell ⟨g, 2, none⟩ b).setCell ⟨g, 3, none⟩ c).setCell ⟨g, 4, none⟩ d).heap[k]? = W.heap[k]? := by
  have k1 := heap_setCell_same _ _ 1 _ _ a h
  have k2 := heap_setCell_same _ _ 2 _ _ b k1
  have k3 := heap_setCell_same _ _ 3 _ _ c k2
  have k4 := heap_setCell_same _ _ 4 _ _ d k3
  refine ⟨k4, fun k hk => ?_⟩
  have st : ∀ (W : World) (i : Nat) (u : Value), (W.setCell ⟨g, i, none⟩ u).heap[k]? = W.heap[k]? := fun W i u => heap_setCell_other W ⟨g, i, none⟩ k u hk
  rw [st, st, st, st]
/-- 'm[x] = v' as a run. -/
theorem run_putG {κ α : Type} [DecidableEq κ] {P : Program} {k : TypeId} {kv : κ → Value} {kl : κ → Lit} {ok : κ → Prop} (K : KeyKit P k kv kl ok) {t e : TypeId} (ht : P.underlying t = some (.map k e)) {enc : α → Value} {w : World} {b : Nat} {T : List (κ × α)} (h : MapG P k kl ok enc w b T) (hn : T.length < maxLen) {y : κ} (hy : ok y) (u : α) :
    ∃ w', (Instr.mapUpdate t (.map (some b)) (kv y) (enc u)).run P w = .ok () w' ∧ MapG P k kl ok enc w' b (enter T y u) ∧ w.grownBy w' (some b) := by
  obtain ⟨D, hown, hme⟩ := h
  obtain ⟨w', hrun, r1, r2⟩ := hown.update K.keyed ht hn (val := enc u) (d := .held (enc u)) (ps := []) (K.of hy) rfl
  have hme' := hme.put K (hown.tidy K.keyed) hy u
  exact ⟨w', hrun, ⟨_, own_fitG r1 (Nat.le_of_eq hme'.size), hme'⟩, r2⟩
set_option maxRecDepth 100000 in
set_option maxHeartbeats 12800000 in
theorem take_c (s : Nat → Addr) (p B : Nat) (valid : Bool) (A : Option Addr) (c : Nat) (R : List Hst) (mb : Nat) (T : List (Int × Int)) (i : Nat) (hi : i < R.length) (_hR : R.length ≤ 10) (hT : T.length ≤ 1000) (rid : Int) (l x : V4) (A' : Option Addr) (n' c' : Nat) (Bo : Option Addr) (cb bo : Nat) (O : List Tk) (w : World) (hs : ∀ W, Below B w W → Sent s W) (h : PlanB w p B valid A c R mb T) (ho : OwnE encTk 33 w bo (.slice Bo O.length cb) O) (hol : O.length ≤ 1000) (hj : ∀ t ∈ O, i64 t.job) (hB : B ≤ w.heap.size) :
    Calls Tryd.prog 19 #[.pointer (some ⟨p, 0, none⟩), .int .i64 i, .agg #[.int .i64 rid, .int .i64 l.a, .int .i64 l.b, .int .i64 l.c, .int .i64 l.d, .slice A' n' c'], .slice Bo O.length cb, .agg #[.int .i64 x.a, .int .i64 x.b, .int .i64 x.c, .int .i64 x.d]] w fun e w' => e = .returned (.agg #[.int .i64 rid, .slice Bo O.length cb]) ∧ OwnE encTk 33 w' bo (.slice Bo O.length cb) O ∧ Below B w w' ∧ ∀ (gq : Nat) (cs : Array Value) (t : TypeId), t ≠ 61 → w.heap[gq]? = some (.cells cs t (0, 0)) → w'.heap[gq]? = some (.cells cs t (0, 0)) := by
  have hzI : ∀ W : World, (zeroValue 3).run Tryd.prog W = .ok (.int .i64 0) W := Tryd.zeroValue3
  obtain ⟨g7, hg7⟩ : ∃ g7, w.heap.size = g7 := ⟨_, rfl⟩
  obtain ⟨g9, hg9⟩ : ∃ g9, w.heap.size + 1 = g9 := ⟨_, rfl⟩
  obtain ⟨g10, hg10⟩ : ∃ g10, w.heap.size + 1 + 1 = g10 := ⟨_, rfl⟩
  obtain ⟨W1, hW1⟩ : ∃ W1, ((w.alloc (.cells #[.int .i64 rid, .int .i64 l.a, .int .i64 l.b, .int .i64 l.c, .int .i64 l.d, .slice A' n' c'] 61)).alloc (.cells #[.int .i64 x.a, .int .i64 x.b, .int .i64 x.c, .int .i64 x.d] 24)).alloc (.cells #[.int .i64 0, .slice none 0 0] 38) = W1 := ⟨_, rfl⟩
  have hb1 : Below w.heap.size w W1 := by rw [← hW1]; exact (((Below.refl _ _).alloc (Nat.le_refl _) _).alloc (by simp) _).alloc (by simp; omega) _
  have ht1 : TakB w W1 g7 g9 g10 rid l x A' n' c' := by
    refine ⟨?_, ?_, ?_, fun gq cs t _ hq => (hb1.block gq (lt_of_row hq)).trans hq⟩
    · rw [← hW1, ← hg7, Below.heap_alloc _ _ _ (by simp; try omega), Below.heap_alloc _ _ _ (by simp; try omega)]
      exact heap_at_newV rfl _
    · rw [← hW1, ← hg9, Below.heap_alloc _ _ _ (by simp; try omega)]
      exact heap_at_newV (by simp) _
    · rw [← hW1, ← hg10]
      exact heap_at_newV (by simp) _
  have HT1 := Lib.hid ht1
  have HP1 := Lib.hid (h.on hb1)
  have HO1 := Lib.hid (ho.on hb1)
  have HB1 : Hid (Below B w W1) := Lib.hid (hb1.mono hB)
  have HGW : Hid (w.heap.size ≤ g7 ∧ w.heap.size ≤ g10 ∧ w.heap.size ≤ W1.heap.size) := Lib.hid ⟨by omega, by omega, hb1.size⟩
  have HLT : Hid (∀ k, (Value.slice A R.length c).ownBlock = some k → B ≤ k ∧ k < w.heap.size) := Lib.hid fun k hk => h.own.lt k hk
  have HS := Lib.hid hs
  have HBB := Lib.hid hB
  have HJ := Lib.hid hj
  have HTL := Lib.hid hT
  have HW1 := Lib.hid hW1
  have HG := Lib.hid (show w.heap.size = g7 ∧ w.heap.size + 1 = g9 ∧ w.heap.size + 1 + 1 = g10 from ⟨hg7, hg9, hg10⟩)
  have HBW : Hid (Below w.heap.size w W1) := Lib.hid hb1
  clear h ho hs hj hT hB hW1 hb1 ht1 hg7 hg9 hg10
  go_enter Tryd.func19, Tryd.ntmps19
  go_upto_region 1 with fail
  rw [HG.out.2.2, HG.out.2.1, HG.out.1, HW1.out]
  go_upto_region 2 with fail
  go_loopg [15] O.length (fun gw s15 wr => ∃ (k : Nat) (T' : List (Int × Int)), s15 = .int .i64 k ∧ k ≤ O.length ∧ O.length - k ≤ gw ∧ Aside (PlanB wr p B valid A c R mb T' ∧ TakB w wr g7 g9 g10 rid l x A' n' c' ∧ OwnE encTk 33 wr bo (.slice Bo O.length cb) O ∧ Below B w wr ∧ T'.length ≤ 1000 + k))
  case atStart => exact ⟨0, T, rfl, Nat.zero_le _, Nat.le_refl _, HP1.out, HT1.out, HO1.out, HB1.out, HTL.out⟩
  case round =>
    obtain ⟨k, T', rfl, hk, hgk, IN⟩ := hrel
    have HP := Lib.hid IN.out.1
    have HT := Lib.hid IN.out.2.1
    have HO := Lib.hid IN.out.2.2.1
    have HB := Lib.hid IN.out.2.2.2.1
    have HL := Lib.hid IN.out.2.2.2.2
    clear IN
    by_cases hlt : k < O.length
    · obtain ⟨t, ht⟩ : ∃ t, O[k]? = some t := ⟨_, List.getElem?_eq_getElem hlt⟩
      obtain ⟨ad, g, rfl, had, hbg, hgl, hfz, hc⟩ := HO.out.at ht
      have HJJ := Lib.hid (HJ.out t (List.mem_of_getElem? ht))
      have hltz : (k : Int) < (O.length : Int) := by omega
      have v0 := hc 0 _ rfl
      have v1 := hc 1 _ rfl
      rw [Nat.add_zero] at v0
      obtain ⟨gt, hgt⟩ : ∃ gt, wr.heap.size = gt := ⟨_, rfl⟩
      obtain ⟨job, ix⟩ := t
      obtain ⟨W2, hW2⟩ : ∃ W2, wr.alloc (.cells #[.int .i64 job, .int .i64 ix] 33) = W2 := ⟨_, rfl⟩
      have hb2 : Below wr.heap.size wr W2 := by rw [← hW2]; exact (Below.refl _ _).alloc (Nat.le_refl _) _
      have hx2 : W2.heap[gt]? = some (.cells #[.int .i64 job, .int .i64 ix] 33 (0, 0)) := by rw [← hW2, ← hgt]; exact heap_alloc_new _ _
      have HP2 := Lib.hid (HP.out.on hb2)
      have HT2 := Lib.hid (HT.out.on hb2)
      have HO2 := Lib.hid (HO.out.on hb2)
      have HB2 : Hid (Below B w W2) := Lib.hid (HB.out.trans (hb2.mono (Nat.le_trans HBB.out HB.out.size)))
      have HX2 := Lib.hid hx2
      obtain ⟨v, hv⟩ : ∃ v, (look T' job).getD 0 = v := ⟨_, rfl⟩
      have HV : Hid (Value.int .i64 ((look T' job).getD 0) = .int .i64 v) := Lib.hid (by rw [hv])
      have HW2 := Lib.hid hW2
      have HGT := Lib.hid hgt
      have HML : Hid (T'.length < maxLen) := by have := HL.out; simp only [Hid, maxLen]; omega
      clear ht hbg hc hgt hW2 hb2 hx2 hv
      go_upto_region 4 with fail
      rw [HW2.out, HGT.out]
      clear v0 v1 had hgl hfz
      obtain ⟨p0, p1, p2, pl⟩ := (HP2.out.on ((Below.refl _ _).drew)).cells
      have x0 := cell_of_heap HX2.out 0
      simp at x0
      have HPD := Lib.hid (HP2.out.on ((Below.refl _ _).drew))
      obtain ⟨u, hu⟩ : ∃ u, IntKind.i64.wrap (v - 1) = u := ⟨_, rfl⟩
      obtain ⟨w3, hrun, hm3, hg3⟩ := run_putG kitI Tryd.underlying56 (enc := Value.int .i64) HPD.out.map HML.out HJJ.out u
      have HM3 := Lib.hid hm3
      have HG3 := Lib.hid hg3
      clear hm3 hg3
      refine wp_region_last (S := fun W => W = W2.drew) (z := 8) (by kernel_rfl) rfl (fun hHeld => ?_)
      refine rgl_take 0 (some 19) _ (by kernel_rfl) (by kernel_rfl) (by kernel_rfl) (by kernel_rfl) (fun _ _ _ h => h) (by kernel_rfl) (by kernel_rfl) (by intro w' hSw op_ ho; simp only [List.getElem?_toArray, List.getElem?_cons_zero, Option.some.injEq] at ho; subst ho; subst hSw; go_simp; with_reducible rfl) (by assumption) ?_
      try simp only [Act.put, List.setIfInBounds_toArray, List.set_cons_zero, List.set_cons_succ]
      refine rgl_take 1 (some 20) _ (by kernel_rfl) (by kernel_rfl) (by kernel_rfl) (by kernel_rfl) (fun _ _ _ h => h) (by kernel_rfl) (by kernel_rfl) (by intro w' hSw op_ ho; simp only [List.getElem?_toArray, List.getElem?_cons_succ, List.getElem?_cons_zero, Option.some.injEq] at ho; subst ho; subst hSw; go_simp; with_reducible rfl) (by assumption) ?_
      try simp only [Act.put, List.setIfInBounds_toArray, List.set_cons_zero, List.set_cons_succ]
      refine rgl_take 2 (some 21) _ (by kernel_rfl) (by kernel_rfl) (by kernel_rfl) (by kernel_rfl) (fun _ _ _ h => h) (by kernel_rfl) (by kernel_rfl) (by intro w' hSw op_ ho; simp only [List.getElem?_toArray, List.getElem?_cons_succ, List.getElem?_cons_zero, Option.some.injEq] at ho; subst ho; subst hSw; go_simp; with_reducible rfl) (by assumption) ?_
      try simp only [Act.put, List.setIfInBounds_toArray, List.set_cons_zero, List.set_cons_succ]
      refine rgl_take 3 (some 22) _ (by kernel_rfl) (by kernel_rfl) (by kernel_rfl) (by kernel_rfl) (fun _ _ _ h => h) (by kernel_rfl) (by kernel_rfl) (by intro w' hSw op_ ho; simp only [List.getElem?_toArray, List.getElem?_cons_succ, List.getElem?_cons_zero, Option.some.injEq] at ho; subst ho; subst hSw; go_simp; with_reducible rfl) (by assumption) ?_
      try simp only [Act.put, List.setIfInBounds_toArray, List.set_cons_zero, List.set_cons_succ]
      refine rgl_take 4 (some 23) _ (by kernel_rfl) (by kernel_rfl) (by kernel_rfl) (by kernel_rfl) (fun _ _ _ h => h) (by kernel_rfl) (by kernel_rfl) (by intro w' hSw op_ ho; simp only [List.getElem?_toArray, List.getElem?_cons_succ, List.getElem?_cons_zero, Option.some.injEq] at ho; subst ho; subst hSw; go_simp; with_reducible rfl) (by assumption) ?_
      try simp only [Act.put, List.setIfInBounds_toArray, List.set_cons_zero, List.set_cons_succ]
      refine rgl_take 5 (some 24) _ (by kernel_rfl) (by kernel_rfl) (by kernel_rfl) (by kernel_rfl) (fun _ _ _ h => h) (by kernel_rfl) (by kernel_rfl) (by intro w' hSw op_ ho; simp only [List.getElem?_toArray, List.getElem?_cons_succ, List.getElem?_cons_zero, Option.some.injEq] at ho; subst ho; subst hSw; go_simp; with_reducible rfl) (by assumption) ?_
      try simp only [Act.put, List.setIfInBounds_toArray, List.set_cons_zero, List.set_cons_succ]
      refine rgl_take 6 (some 25) _ (by kernel_rfl) (by kernel_rfl) (by kernel_rfl) (by kernel_rfl) (fun _ _ _ h => h) (by kernel_rfl) (by kernel_rfl) (by intro w' hSw op_ ho; simp only [List.getElem?_toArray, List.getElem?_cons_succ, List.getElem?_cons_zero, Option.some.injEq] at ho; subst ho; subst hSw; have ek := run_lookG kitI Tryd.underlying56 (enc := Value.int .i64) (z := 0) (hzI _) HPD.out.map HJJ.out; rw [HV.out] at ek; go_simp; with_reducible rfl) (by assumption) ?_
      try simp only [Act.put, List.setIfInBounds_toArray, List.set_cons_zero, List.set_cons_succ]
      refine rgl_take 7 (some 26) _ (by kernel_rfl) (by kernel_rfl) (by kernel_rfl) (by kernel_rfl) (fun _ _ _ h => h) (by kernel_rfl) (by kernel_rfl) (by intro w' hSw op_ ho; simp only [List.getElem?_toArray, List.getElem?_cons_succ, List.getElem?_cons_zero, Option.some.injEq] at ho; subst ho; subst hSw; go_simp; with_reducible rfl) (by assumption) ?_
      try simp only [Act.put, List.setIfInBounds_toArray, List.set_cons_zero, List.set_cons_succ]
      refine rgl_last (by kernel_rfl) (by kernel_rfl) (by kernel_rfl) (fun op_ ho KK hK => ?_)
      simp only [List.getElem?_toArray, List.getElem?_cons_succ, List.getElem?_cons_zero, Option.some.injEq] at ho
      subst ho
      go_simp
      refine hK.out _ _ ?_
      clear hK
      try simp only [Act.put, List.setIfInBounds_toArray, List.set_cons_zero, List.set_cons_succ]
      clear p0 p1 p2 pl x0 hrun hu
      go_wp2_with fail
      go_roundg (O.length - (k + 1))
      case measure => omega
      case rel =>
        refine ⟨k + 1, enter T' job u, by go_num, by omega, Nat.le_refl _, HPD.out.put HM3.out HG3.out, (HT2.out.on ((Below.refl _ _).drew)).put HPD.out.map HG3.out, ?_, (HB2.out.drew).grown HG3.out (Nat.le_trans HBB.out HB2.out.size) fun k hk => by cases hk; exact HPD.out.mB, ?_⟩
        · have h := HO2.out.on ((Below.refl _ _).drew)
          exact h.same fun k hk => HG3.out.block k (h.lt k hk).2 fun e => own_neM h HPD.out.map (by rw [hk, e])
        · have h1 := enter_le T' job u
          have h2 := HL.out
          omega
    · obtain rfl : k = O.length := by omega
      have hz1 : ¬ (O.length : Int) < (O.length : Int) := by omega
      have hx7 := HT.out.room
      have hx9 := HT.out.need
      have a1 := cell_of_heap hx7 1
      have a2 := cell_of_heap hx7 2
      have a3 := cell_of_heap hx7 3
      have a4 := cell_of_heap hx7 4
      have b0 := cell_of_heap hx9 0
      have b1 := cell_of_heap hx9 1
      have b2 := cell_of_heap hx9 2
      have b3 := cell_of_heap hx9 3
      simp at a1 a2 a3 a4 b0 b1 b2 b3
      have hl7 := lt_of_row hx7
      have hl9 := lt_of_row hx9
      have HSU := Lib.hid (sub_c s l x wr (HS.out _ HB.out))
      obtain ⟨d, hd⟩ : ∃ d, (subR l x).1 = d := ⟨_, rfl⟩
      obtain ⟨m, hm⟩ : ∃ m, errV s (subR l x).2 = m := ⟨_, rfl⟩
      rw [hd, hm] at HSU
      clear hd hm hx7 hx9
      go_upto_region 6 with fail
      go_wp2_with fail
      refine HSU.out.mono ?_
      rintro e w4 ⟨rfl, b4⟩
      clear a1 a2 a3 a4 b0 b1 b2 b3 hl7 hl9
      have HT4 := Lib.hid (HT.out.on b4)
      have HP4 := Lib.hid (HP.out.on b4)
      have HO4 := Lib.hid (HO.out.on b4)
      have HB4 : Hid (Below B w w4) := Lib.hid (HB.out.trans (b4.mono (Nat.le_trans HBB.out HB.out.size)))
      have hx7 := HT4.out.room
      have a1 := cell_of_heap hx7 1
      have a2 := cell_of_heap hx7 2
      have a3 := cell_of_heap hx7 3
      have a4 := cell_of_heap hx7 4
      simp at a1 a2 a3 a4
      have hl7 := lt_of_row hx7
      have hf7 : ∀ j, w4.frozen? ⟨g7, j, none⟩ = false := fun _ => frozen_of_row _ _ _ _ _ hx7
      obtain ⟨W5, hW5⟩ : ∃ W5, (((w4.setCell ⟨g7, 1, none⟩ (.int .i64 d.a)).setCell ⟨g7, 2, none⟩ (.int .i64 d.b)).setCell ⟨g7, 3, none⟩ (.int .i64 d.c)).setCell ⟨g7, 4, none⟩ (.int .i64 d.d) = W5 := ⟨_, rfl⟩
      obtain ⟨k5, k6⟩ := put_14 hx7 (.int .i64 d.a) (.int .i64 d.b) (.int .i64 d.c) (.int .i64 d.d)
      rw [hW5] at k5 k6
      have HX5 := Lib.hid k5
      have HK5 := Lib.hid k6
      have HW5 := Lib.hid hW5
      have HB5 : Hid (Below B w W5) := Lib.hid (by
        have hg : B ≤ g7 := Nat.le_trans HBB.out HGW.out.1
        rw [← hW5]
        exact (((HB4.out.setCell (p := ⟨g7, 1, none⟩) hg _).setCell (p := ⟨g7, 2, none⟩) hg _).setCell (p := ⟨g7, 3, none⟩) hg _).setCell (p := ⟨g7, 4, none⟩) hg _)
      have HP5 : Hid (PlanB W5 p B valid A c R mb T') := Lib.hid (by
        have hp := HP4.out
        refine ⟨(k6 p fun e => ?_).trans hp.box, hp.own.same fun j hj => k6 j fun e => ?_, hp.map.same (k6 mb fun e => map_ne hp.map hx7 e.symm), hp.mB⟩
        · have hb := hp.box; rw [e, hx7] at hb; simp at hb
        · have h1 := (HLT.out j hj).2; have h2 := HGW.out.1; omega)
      have HO5 : Hid (OwnE encTk 33 W5 bo (.slice Bo O.length cb) O) := Lib.hid (HO4.out.same fun j hj => k6 j fun e => own_ne HO4.out hx7 (by decide) (e ▸ hj))
      have HC5 : Hid (W5.heap[g10]? = some (.cells #[.int .i64 0, .slice none 0 0] 38 (0, 0))) := Lib.hid ((k6 g10 fun e => by have hb := HT4.out.choice; rw [e, hx7] at hb; simp at hb).trans HT4.out.choice)
      have HKK : Hid (∀ (gq : Nat) (cs : Array Value) (t : TypeId), t ≠ 61 → w.heap[gq]? = some (.cells cs t (0, 0)) → W5.heap[gq]? = some (.cells cs t (0, 0))) := Lib.hid fun gq cs t ht hq => (k6 gq fun e => by have hb := HT4.out.keep gq cs t ht hq; rw [e, hx7] at hb; simp at hb; exact ht hb.2.symm).trans (HT4.out.keep gq cs t ht hq)
      clear hW5 k5 k6 hx7
      go_upto_region 7 with fail
      rw [HW5.out]
      clear a1 a2 a3 a4 hl7 hf7
      obtain ⟨r, hr⟩ : ∃ r, R[i]? = some r := ⟨_, List.getElem?_eq_getElem hi⟩
      obtain ⟨ad, g, rfl, had, hbg, hgl, hfz, hc⟩ := HP5.out.own.at hr
      obtain ⟨p0, p1, p2, pl⟩ := HP5.out.cells
      have v0 := hc 0 _ rfl
      have v1 := hc 1 _ rfl
      have v2 := hc 2 _ rfl
      have v3 := hc 3 _ rfl
      have v4 := hc 4 _ rfl
      have v5 := hc 5 _ rfl
      rw [Nat.add_zero] at v0
      have c0 := cell_of_heap HX5.out 0
      have c1 := cell_of_heap HX5.out 1
      have c2 := cell_of_heap HX5.out 2
      have c3 := cell_of_heap HX5.out 3
      have c4 := cell_of_heap HX5.out 4
      have c5 := cell_of_heap HX5.out 5
      simp at c0 c1 c2 c3 c4 c5
      have hi0 : (0 : Int) ≤ (i : Int) := by omega
      have hi1 : (i : Int) < (R.length : Int) := by omega
      have HGI : Hid (g ≠ g7 ∧ B ≤ g) := Lib.hid (by
        have h1 := HLT.out g (by rw [(own_blk HP5.out.own hr had).1]; rfl); have h2 := HGW.out.1; exact ⟨by omega, h1.1⟩)
      refine wp_region_last (S := fun W => W = W5.drew) (z := 7) (by kernel_rfl) rfl (fun hHeld => ?_)
      refine rgl_take 0 (some 36) _ (by kernel_rfl) (by kernel_rfl) (by kernel_rfl) (by kernel_rfl) (fun _ _ _ h => h) (by kernel_rfl) (by kernel_rfl) (by intro w' hSw op_ ho; simp only [List.getElem?_toArray, List.getElem?_cons_zero, Option.some.injEq] at ho; subst ho; subst hSw; go_simp; with_reducible rfl) (by assumption) ?_
      try simp only [Act.put, List.setIfInBounds_toArray, List.set_cons_zero, List.set_cons_succ]
      refine rgl_take 1 (some 37) _ (by kernel_rfl) (by kernel_rfl) (by kernel_rfl) (by kernel_rfl) (fun _ _ _ h => h) (by kernel_rfl) (by kernel_rfl) (by intro w' hSw op_ ho; simp only [List.getElem?_toArray, List.getElem?_cons_succ, List.getElem?_cons_zero, Option.some.injEq] at ho; subst ho; subst hSw; go_simp; with_reducible rfl) (by assumption) ?_
      try simp only [Act.put, List.setIfInBounds_toArray, List.set_cons_zero, List.set_cons_succ]
      refine rgl_take 2 (some 38) _ (by kernel_rfl) (by kernel_rfl) (by kernel_rfl) (by kernel_rfl) (fun _ _ _ h => h) (by kernel_rfl) (by kernel_rfl) (by intro w' hSw op_ ho; simp only [List.getElem?_toArray, List.getElem?_cons_succ, List.getElem?_cons_zero, Option.some.injEq] at ho; subst ho; subst hSw; go_simp; with_reducible rfl) (by assumption) ?_
      try simp only [Act.put, List.setIfInBounds_toArray, List.set_cons_zero, List.set_cons_succ]
      refine rgl_take 3 (some 39) _ (by kernel_rfl) (by kernel_rfl) (by kernel_rfl) (by kernel_rfl) (fun _ _ _ h => h) (by kernel_rfl) (by kernel_rfl) (by intro w' hSw op_ ho; simp only [List.getElem?_toArray, List.getElem?_cons_succ, List.getElem?_cons_zero, Option.some.injEq] at ho; subst ho; subst hSw; go_simp; with_reducible rfl) (by assumption) ?_
      try simp only [Act.put, List.setIfInBounds_toArray, List.set_cons_zero, List.set_cons_succ]
      refine rgl_take 4 (some 40) _ (by kernel_rfl) (by kernel_rfl) (by kernel_rfl) (by kernel_rfl) (fun _ _ _ h => h) (by kernel_rfl) (by kernel_rfl) (by intro w' hSw op_ ho; simp only [List.getElem?_toArray, List.getElem?_cons_succ, List.getElem?_cons_zero, Option.some.injEq] at ho; subst ho; subst hSw; go_simp; with_reducible rfl) (by assumption) ?_
      try simp only [Act.put, List.setIfInBounds_toArray, List.set_cons_zero, List.set_cons_succ]
      refine rgl_take 5 (some 41) _ (by kernel_rfl) (by kernel_rfl) (by kernel_rfl) (by kernel_rfl) (fun _ _ _ h => h) (by kernel_rfl) (by kernel_rfl) (by intro w' hSw op_ ho; simp only [List.getElem?_toArray, List.getElem?_cons_succ, List.getElem?_cons_zero, Option.some.injEq] at ho; subst ho; subst hSw; go_simp; with_reducible rfl) (by assumption) ?_
      try simp only [Act.put, List.setIfInBounds_toArray, List.set_cons_zero, List.set_cons_succ]
      refine rgl_take 6 (some 42) _ (by kernel_rfl) (by kernel_rfl) (by kernel_rfl) (by kernel_rfl) (fun _ _ _ h => h) (by kernel_rfl) (by kernel_rfl) (by intro w' hSw op_ ho; simp only [List.getElem?_toArray, List.getElem?_cons_succ, List.getElem?_cons_zero, Option.some.injEq] at ho; subst ho; subst hSw; go_simp; with_reducible rfl) (by assumption) ?_
      try simp only [Act.put, List.setIfInBounds_toArray, List.set_cons_zero, List.set_cons_succ]
      refine rgl_last (by kernel_rfl) (by kernel_rfl) (by kernel_rfl) (fun op_ ho KK hK => ?_)
      simp only [List.getElem?_toArray, List.getElem?_cons_succ, List.getElem?_cons_zero, Option.some.injEq] at ho
      subst ho
      go_simp
      refine hK.out _ _ ?_
      clear hK
      try simp only [Act.put, List.setIfInBounds_toArray, List.set_cons_zero, List.set_cons_succ]
      clear v0 v1 v2 v3 v4 v5 c0 c1 c2 c3 c4 c5 p0 p1 p2 pl hc hfz hgl hbg
      obtain ⟨W6, hW6⟩ : ∃ W6, (((((W5.setCell ⟨g, i * 6, none⟩ (.int .i64 rid)).setCell ⟨g, i * 6 + 1, none⟩ (.int .i64 d.a)).setCell ⟨g, i * 6 + 2, none⟩ (.int .i64 d.b)).setCell ⟨g, i * 6 + 3, none⟩ (.int .i64 d.c)).setCell ⟨g, i * 6 + 4, none⟩ (.int .i64 d.d)).setCell ⟨g, i * 6 + 5, none⟩ (.slice A' n' c') = W6 := ⟨_, rfl⟩
      have hk6 : ∀ k, k ≠ g → W6.heap[k]? = W5.heap[k]? := fun k hk => by
        have st : ∀ (W : World) (i : Nat) (u : Value), (W.setCell ⟨g, i, none⟩ u).heap[k]? = W.heap[k]? := fun W i u => heap_setCell_other W ⟨g, i, none⟩ k u hk
        rw [← hW6, st, st, st, st, st, st]
      have hb6 : Below B w W6 := by
        have hg := HGI.out.2
        rw [← hW6]
        exact (((((HB5.out.setCell (p := ⟨g, i * 6, none⟩) hg _).setCell (p := ⟨g, i * 6 + 1, none⟩) hg _).setCell (p := ⟨g, i * 6 + 2, none⟩) hg _).setCell (p := ⟨g, i * 6 + 3, none⟩) hg _).setCell (p := ⟨g, i * 6 + 4, none⟩) hg _).setCell (p := ⟨g, i * 6 + 5, none⟩) hg _
      rw [hW6]
      have HB6 : Hid (Below B w W6.drew) := Lib.hid hb6.drew
      have HO6 : Hid (OwnE encTk 33 W6.drew bo (.slice Bo O.length cb) O) := Lib.hid (OwnE.on (HO5.out.same fun j hj => hk6 j fun e => by
        have h1 := (own_blk HP5.out.own hr had).1
        subst h1
        exact rows_apart HP5.out.own HO5.out (by decide) j (by rw [e]; rfl) hj) ((Below.refl _ _).drew))
      have hx7 : W6.drew.heap[g7]? = some (.cells #[.int .i64 rid, .int .i64 d.a, .int .i64 d.b, .int .i64 d.c, .int .i64 d.d, .slice A' n' c'] 61 (0, 0)) := (hk6 g7 (Ne.symm HGI.out.1)).trans HX5.out
      have hxc : W6.drew.heap[g10]? = some (.cells #[.int .i64 0, .slice none 0 0] 38 (0, 0)) := (hk6 g10 fun e => by
        have h1 := (own_blk HP5.out.own hr had).1
        subst h1
        rw [e] at HC5
        exact own_ne HP5.out.own HC5.out (by decide) rfl).trans HC5.out
      have HKK6 : Hid (∀ (gq : Nat) (cs : Array Value) (t : TypeId), t ≠ 61 → w.heap[gq]? = some (.cells cs t (0, 0)) → W6.drew.heap[gq]? = some (.cells cs t (0, 0))) := Lib.hid fun gq cs t ht hq => (hk6 gq fun e => by
        have h1 := (own_blk HP5.out.own hr had).1
        subst h1
        have hkk := HKK.out gq cs t ht hq
        rw [e] at hkk
        exact own_ne HP5.out.own hkk ht rfl).trans (HKK.out gq cs t ht hq)
      have hW : ∃ W7, W6.drew = W7 := ⟨_, rfl⟩
      obtain ⟨W7, hW⟩ := hW
      rw [hW] at HB6 HO6 hx7 hxc HKK6
      rw [hW]
      have c0 := cell_of_heap hx7 0
      have d0 := cell_of_heap hxc 0
      have d1 := cell_of_heap hxc 1
      simp at c0 d0 d1
      have hl7 := lt_of_row hx7
      have hl10 := lt_of_row hxc
      have hf10 : ∀ j, W7.frozen? ⟨g10, j, none⟩ = false := fun _ => frozen_of_row _ _ _ _ _ hxc
      have HXC := Lib.hid hxc
      clear hW hW6 hk6 hb6 hx7 hxc had hr hi0 hi1 hHeld
      go_upto_region 8 with fail
      go_wp2_with fail
      have hg10 : B ≤ g10 := Nat.le_trans HBB.out HGW.out.2.1
      have k0 := heap_setCell_same _ _ 0 _ _ (.int .i64 rid) HXC.out
      have k1 := heap_setCell_same _ _ 1 _ _ (.slice Bo O.length cb) k0
      have e0 := cell_of_heap k1 0
      have e1 := cell_of_heap k1 1
      simp at e0 e1
      refine bodyPost_ret (v := .agg #[.int .i64 rid, .slice Bo O.length cb]) (by simp [results, Tryd.results19, go_sem, e0, e1]) rfl ⟨rfl, HO6.out.same fun j hj => ?_, ((HB6.out.setCell (p := ⟨g10, 0, none⟩) hg10 _).setCell (p := ⟨g10, 1, none⟩) hg10 _), ?_⟩
      · have hne : j ≠ g10 := fun e => own_ne HO6.out HXC.out (by decide) (e ▸ hj)
        rw [heap_setCell_other _ ⟨g10, 1, none⟩ j _ hne, heap_setCell_other _ ⟨g10, 0, none⟩ j _ hne]
      · intro gq cs t ht hq
        have hne : gq ≠ g10 := by have h1 := lt_of_row hq; have h2 := HGW.out.2.1; omega
        rw [heap_setCell_other _ ⟨g10, 1, none⟩ gq _ hne, heap_setCell_other _ ⟨g10, 0, none⟩ gq _ hne]
        exact HKK6.out gq cs t ht hq
end Go.Proofs.YtlckofoabnnlhaaDoor
