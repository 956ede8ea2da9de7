/- Where a demand fits best without victims, by contract. Conditions: the plan lies in memory. -/
import Derived.Test.YtlckofoabnnlhaaDoorViE
import Derived.Test.YtlckofoabnnlhaaDoorFtCb
import Derived.Test.YtlckofoabnnlhaaDoorKeyN
import Derived.Deep.QuietTactic
namespace Go.Proofs.YtlckofoabnnlhaaDoor
open Go Go.RowKit Go.Maps

/-- A plan in memory: its box, its rooms, its allowances; all of it is younger than block B. -/
structure PlanAt (w : World) (p B : Nat) (valid : Bool) (A : Option Addr) (c : Nat) (R : List Hst) (mb : Nat) (T : List (Int × Int)) : Prop where
  box : w.heap[p]? = some (.cells #[.bool valid, .slice A R.length c, .map (some mb)] 59 (0, 0))
  own : OwnE encHst 61 w B (.slice A R.length c) R
  map : MapG Tryd.prog 3 (Lit.int .i64) i64 (Value.int .i64) w mb T
  lie : HostsAt w A R
  pB : B ≤ p
  mB : B ≤ mb
  few : T.length ≤ 1000
theorem PlanAt.on {w w' : World} {p B : Nat} {valid : Bool} {A : Option Addr} {c : Nat} {R : List Hst} {mb : Nat} {T : List (Int × Int)} (h : PlanAt w p B valid A c R mb T) (hb : Below w.heap.size w w') : PlanAt w' p B valid A c R mb T :=
  ⟨(hb.block p (lt_of_row h.box)).trans h.box, h.own.on hb, h.map.on hb (Nat.le_refl _), h.lie.on hb, h.pB, h.mB, h.few⟩
theorem PlanAt.cells {w : World} {p B : Nat} {valid : Bool} {A : Option Addr} {c : Nat} {R : List Hst} {mb : Nat} {T : List (Int × Int)} (h : PlanAt w p B valid A c R mb T) : w.cell? ⟨p, 0, none⟩ = some (.bool valid) ∧ w.cell? ⟨p, 1, none⟩ = some (.slice A R.length c) ∧ w.cell? ⟨p, 2, none⟩ = some (.map (some mb)) ∧ p < w.heap.size :=
  ⟨cell_of_heap h.box 0, cell_of_heap h.box 1, cell_of_heap h.box 2, lt_of_row h.box⟩

/-- The closure: whether a room has the number. -/
theorem rid_c (r : Hst) (q : Nat) (id : Int) (w : World) (hq : w.heap[q]? = some (.cells #[.int .i64 id] 3 (0, 0))) : Calls Tryd.prog 32 #[.agg #[.int .i64 r.id, .int .i64 r.left.a, .int .i64 r.left.b, .int .i64 r.left.c, .int .i64 r.left.d, .slice r.A r.on.length r.c], .pointer (some ⟨q, 0, none⟩)] w fun e w' => e = .returned (.bool (r.id == id)) ∧ Below w.heap.size w w' := by
  obtain ⟨rid, ⟨l0, l1, l2, l3⟩, on, A, c⟩ := r
  obtain ⟨W1, hW1⟩ : ∃ W1, w.alloc (.cells #[.int .i64 rid, .int .i64 l0, .int .i64 l1, .int .i64 l2, .int .i64 l3, .slice A on.length c] 61) = W1 := ⟨_, rfl⟩
  have hb1 : Below w.heap.size w W1 := by rw [← hW1]; exact (Below.refl _ _).alloc (Nat.le_refl _) _
  have hx1 : W1.heap[w.heap.size]? = some (.cells #[.int .i64 rid, .int .i64 l0, .int .i64 l1, .int .i64 l2, .int .i64 l3, .slice A on.length c] 61 (0, 0)) := by rw [← hW1]; exact heap_alloc_new _ _
  have z0 := cell_of_heap hx1 0
  have q0 := cell_of_heap ((hb1.block q (lt_of_row hq)).trans hq) 0
  simp at z0 q0
  have HB1 := Lib.hid hb1
  have HW1 := Lib.hid hW1
  clear hb1 hW1 hx1 hq
  go_enter Tryd.func32, Tryd.ntmps32
  go_upto_region 1 with fail
  rw [HW1.out]
  go_wp2_with fail
  go_ret
  exact ⟨rfl, HB1.out⟩
set_option maxRecDepth 100000 in
set_option maxHeartbeats 1600000 in
/-- slices.IndexFunc at the closure. -/
theorem ridx_c (A : Option Addr) (c : Nat) (R : List Hst) (q : Nat) (id : Int) (w : World) (h : ReadsE encHst w A R) (hl : R.length ≤ 1000000) (hq : w.heap[q]? = some (.cells #[.int .i64 id] 3 (0, 0))) :
    Calls Tryd.prog 31 #[.slice A R.length c, .func (.func 32) #[] #[.pointer (some ⟨q, 0, none⟩)]] w fun e w' => ∃ z : Int, e = .returned (.int .i64 z) ∧ ((z = -1 ∧ ∀ r ∈ R, r.id ≠ id) ∨ ∃ (i : Nat) (r : Hst), z = i ∧ R[i]? = some r ∧ r.id = id) ∧ Below w.heap.size w w' := by
  have HR := Lib.hid h
  have HC : Hid (∀ (r : Hst) (W : World), Below w.heap.size w W → Calls Tryd.prog 32 #[.agg #[.int .i64 r.id, .int .i64 r.left.a, .int .i64 r.left.b, .int .i64 r.left.c, .int .i64 r.left.d, .slice r.A r.on.length r.c], .pointer (some ⟨q, 0, none⟩)] W fun e w' => e = .returned (.bool (r.id == id)) ∧ Below W.heap.size W w') := Lib.hid fun r W hb => rid_c r q id W ((hb.block q (lt_of_row hq)).trans hq)
  have eg : ∀ args w, (callFunc 32 args).run Tryd.prog w = .ok (.enter 32 args) w := enters_of Tryd.func32 (by kernel_rfl) rfl
  clear h hq
  go_enter Tryd.func31, Tryd.ntmps31
  go_upto_region 2 with fail
  go_loopg [8] R.length (fun gk s8 wr => ∃ (k : Nat), s8 = .int .i64 k ∧ k ≤ R.length ∧ R.length - k ≤ gk ∧ Aside ((∀ r ∈ R.take k, r.id ≠ id) ∧ Below w.heap.size w wr))
  case atStart => exact ⟨0, rfl, Nat.zero_le _, Nat.le_refl _, (fun r hr => absurd hr (by simp)), Below.refl _ _⟩
  case round =>
    obtain ⟨k, rfl, hk, hgk, IN⟩ := hrel
    have HF := Lib.hid IN.out.1
    have HB := Lib.hid IN.out.2
    clear IN
    by_cases hlt : k < R.length
    · obtain ⟨x, hx⟩ : ∃ x, R[k]? = some x := ⟨_, List.getElem?_eq_getElem hlt⟩
      obtain ⟨ad, p, rfl, had, hp, hc⟩ := HR.out k x hx
      have hltz : (k : Int) < (R.length : Int) := by omega
      have v0 := (HB.out.cell (p := p) hp).trans ((congrArg w.cell? (add_zeroE p).symm).trans (hc 0 _ rfl))
      have v1 := (HB.out.cell (p := ⟨p.block, p.off + 1, none⟩) hp).trans (hc 1 _ rfl)
      have v2 := (HB.out.cell (p := ⟨p.block, p.off + 2, none⟩) hp).trans (hc 2 _ rfl)
      have v3 := (HB.out.cell (p := ⟨p.block, p.off + 3, none⟩) hp).trans (hc 3 _ rfl)
      have v4 := (HB.out.cell (p := ⟨p.block, p.off + 4, none⟩) hp).trans (hc 4 _ rfl)
      have v5 := (HB.out.cell (p := ⟨p.block, p.off + 5, none⟩) hp).trans (hc 5 _ rfl)
      have hpl : p.block < wr.heap.size := Nat.lt_of_lt_of_le hp HB.out.size
      have HX := Lib.hid hx
      have HG := Lib.hid (HC.out x wr HB.out)
      obtain ⟨rid, ⟨l0, l1, l2, l3⟩, on, A', c'⟩ := x
      simp only at HG
      clear hx hp hc
      go_wp2_with fail
      refine HG.out.mono ?_
      rintro e' w2 ⟨rfl, b2⟩
      have HB2 : Hid (Below w.heap.size w w2) := Lib.hid (HB.out.trans (b2.mono HB.out.size))
      clear b2 HG v0 v1 v2 v3 v4 v5
      by_cases hid : rid = id
      · have hid' : (rid == id) = true := by simpa using hid
        have HI := Lib.hid hid
        clear hid
        go_wp2_with fail
        refine bodyPost_ret (v := .int .i64 (k : Int)) (by simp [results, Tryd.results31, go_sem]) rfl ⟨(k : Int), rfl, .inr ⟨k, _, rfl, HX.out, HI.out⟩, HB2.out⟩
      · have hid' : (rid == id) = false := by simpa using hid
        have HI := Lib.hid hid
        clear hid
        go_wp2_with fail
        go_roundg (R.length - (k + 1))
        case measure => omega
        case rel =>
          refine ⟨k + 1, by go_num, by omega, Nat.le_refl _, fun r hr => ?_, HB2.out⟩
          rw [List.take_add_one, HX.out, Option.toList_some] at hr
          rcases List.mem_append.1 hr with h1 | h1
          · exact HF.out r h1
          · rw [List.mem_singleton] at h1; subst h1; exact HI.out
    · obtain rfl : k = R.length := by omega
      have hz1 : ¬ (R.length : Int) < (R.length : Int) := by omega
      rw [List.take_length] at HF
      go_wp2_with fail
      exact bodyPost_ret (v := .int .i64 (-1)) (by simp [results, Tryd.results31, go_sem]) rfl ⟨-1, rfl, .inl ⟨rfl, HF.out⟩, HB.out⟩
/-- What the best place of a plan is. -/
def BestO (R : List Hst) : Option (Nat × Spt) → Int → Prop
  | none, z => z = -1
  | some (_, t), z => ∃ (i : Nat) (r : Hst), z = i ∧ R[i]? = some r ∧ r.id = t.id
def BestP (x : V4) (R : List Hst) (z : Int) : Prop := BestO R (bestS x (R.map Hst.spt)) z
set_option maxRecDepth 100000 in
set_option maxHeartbeats 3200000 in
theorem pbest_c (s : Nat → Addr) (p B : Nat) (valid : Bool) (A : Option Addr) (c : Nat) (R : List Hst) (mb : Nat) (T : List (Int × Int)) (x : V4) (w : World) (hs : Sent s w) (h : PlanAt w p B valid A c R mb T) :
    Calls Tryd.prog 18 #[.pointer (some ⟨p, 0, none⟩), .agg #[.int .i64 x.a, .int .i64 x.b, .int .i64 x.c, .int .i64 x.d]] w fun e w' => ∃ z : Int, e = .returned (.int .i64 z) ∧ BestP x R z ∧ Below w.heap.size w w' := by
  obtain ⟨i0, hi0, hz0, hz1, hz2⟩ := info_parts Tryd.infoPS
  obtain ⟨W1, hW1⟩ : ∃ W1, w.alloc (.cells #[.int .i64 x.a, .int .i64 x.b, .int .i64 x.c, .int .i64 x.d] 24) = W1 := ⟨_, rfl⟩
  obtain ⟨g, hg⟩ : ∃ g, w.heap.size = g := ⟨_, rfl⟩
  have hb1 : Below w.heap.size w W1 := by rw [← hW1]; exact (Below.refl _ _).alloc (Nat.le_refl _) _
  have hx1 : W1.heap[g]? = some (.cells #[.int .i64 x.a, .int .i64 x.b, .int .i64 x.c, .int .i64 x.d] 24 (0, 0)) := by rw [← hW1, ← hg]; exact heap_alloc_new _ _
  have HH := Lib.hid h
  obtain ⟨p0, p1, p2, pl⟩ := (h.on hb1).cells
  have HS := Lib.hid hs
  have HI0 := Lib.hid hi0
  have HB1 := Lib.hid hb1
  have HX1 := Lib.hid hx1
  have HW1 := Lib.hid hW1
  have HG := Lib.hid hg
  have HRL := Lib.hid h.lie.all
  have hRL := h.lie.all
  clear h hs hi0 hb1 hx1 hW1 hg
  go_enter Tryd.func18, Tryd.ntmps18
  go_upto_region 1 with fail
  rw [HW1.out, HG.out]
  go_upto_region 3 with fail
  go_loopg [5, 15] R.length (fun gk s5 s15 wr => ∃ (k : Nat) (O : List Spt) (Bo : Option Addr) (cb : Nat), s15 = .int .i64 k ∧ s5 = .slice Bo O.length cb ∧ k ≤ R.length ∧ R.length - k ≤ gk ∧ Aside (O = (R.take k).map Hst.spt ∧ OwnE encSpt 82 wr W1.heap.size (.slice Bo O.length cb) O ∧ Below w.heap.size w wr ∧ Below W1.heap.size W1 wr))
  case atStart => exact ⟨0, [], _, _, rfl, rfl, Nat.zero_le _, Nat.le_refl _, rfl, OwnE.nil .., HB1.out, Below.refl _ _⟩
  case round =>
    obtain ⟨k, O, Bo, cb, rfl, rfl, hk, hgk, IN⟩ := hrel
    have HF := Lib.hid IN.out.1
    have HO := Lib.hid IN.out.2.1
    have HB := Lib.hid IN.out.2.2.1
    have HBW := Lib.hid IN.out.2.2.2
    clear IN
    clear p0 p1 p2 pl
    by_cases hlt : k < R.length
    · obtain ⟨y, hy⟩ : ∃ y, R[k]? = some y := ⟨_, List.getElem?_eq_getElem hlt⟩
      obtain ⟨ad, p, rfl, had, hp, hc⟩ := HH.out.lie.row k y hy
      have hltz : (k : Int) < (R.length : Int) := by omega
      have v0 := (HB.out.cell (p := p) hp).trans ((congrArg w.cell? (add_zeroE p).symm).trans (hc 0 _ rfl))
      have v1 := (HB.out.cell (p := ⟨p.block, p.off + 1, none⟩) hp).trans (hc 1 _ rfl)
      have v2 := (HB.out.cell (p := ⟨p.block, p.off + 2, none⟩) hp).trans (hc 2 _ rfl)
      have v3 := (HB.out.cell (p := ⟨p.block, p.off + 3, none⟩) hp).trans (hc 3 _ rfl)
      have v4 := (HB.out.cell (p := ⟨p.block, p.off + 4, none⟩) hp).trans (hc 4 _ rfl)
      have v5 := (HB.out.cell (p := ⟨p.block, p.off + 5, none⟩) hp).trans (hc 5 _ rfl)
      have hpl : p.block < wr.heap.size := Nat.lt_of_lt_of_le hp HB.out.size
      have hsn : (R.take (k + 1)).map Hst.spt = (R.take k).map Hst.spt ++ [y.spt] := by rw [List.take_add_one, hy, Option.toList_some, List.map_append]; rfl
      have HX := Lib.hid hsn
      obtain ⟨rid, ⟨l0, l1, l2, l3⟩, on, A', c'⟩ := y
      have hle : O.length ≤ 10 := by rw [HF.out, List.length_map, List.length_take]; have := HRL.out; omega
      obtain ⟨W2, hW2⟩ : ∃ W2, (wr.alloc (.cells #[.int .i64 rid, .int .i64 l0, .int .i64 l1, .int .i64 l2, .int .i64 l3, .slice A' on.length c'] 61)).alloc (.cells #[.int .i64 rid, .int .i64 l0, .int .i64 l1, .int .i64 l2, .int .i64 l3] 82) = W2 := ⟨_, rfl⟩
      have hb2 : Below wr.heap.size wr W2 := by rw [← hW2]; exact ((Below.refl _ _).alloc (Nat.le_refl _) _).alloc (by simp) _
      have A1 : Hid (OwnE encSpt 82 W2 W1.heap.size (.slice Bo O.length cb) O) := Lib.hid (HO.out.on hb2)
      have A2 : Hid (LiesE encSpt W2 (.slice (some ⟨wr.heap.size + 1, 0, none⟩) 1 1) [⟨rid, ⟨l0, l1, l2, l3⟩⟩]) := Lib.hid (by
        have h := heap_alloc_new (wr.alloc (.cells #[.int .i64 rid, .int .i64 l0, .int .i64 l1, .int .i64 l2, .int .i64 l3, .slice A' on.length c'] 61)) (.cells #[.int .i64 rid, .int .i64 l0, .int .i64 l1, .int .i64 l2, .int .i64 l3] 82)
        rw [hW2, World.size_alloc] at h
        exact lies_lit encSpt [⟨rid, ⟨l0, l1, l2, l3⟩⟩] h)
      have A3 : Hid (O.length + [(⟨rid, ⟨l0, l1, l2, l3⟩⟩ : Spt)].length ≤ maxLen) := by simp only [Hid, List.length_cons, List.length_nil, maxLen]; omega
      have A4 : Hid ((O.length + [(⟨rid, ⟨l0, l1, l2, l3⟩⟩ : Spt)].length) * 40 ≤ 140737488355328) := by simp only [Hid, List.length_cons, List.length_nil]; omega
      have A5 : Hid (W1.heap.size ≤ W2.heap.size) := Lib.hid (Nat.le_trans HBW.out.size hb2.size)
      have HB2 : Hid (Below w.heap.size w W2) := Lib.hid (HB.out.trans (hb2.mono HB.out.size))
      have HBW2 : Hid (Below W1.heap.size W1 W2) := Lib.hid (HBW.out.trans (hb2.mono HBW.out.size))
      have HW2 := Lib.hid hW2
      clear hsn hle hb2 hW2 hy hp hc
      go_upto_region 5 with fail
      go_wp2_with (at_builtin; rw [HW2.out]; refine wpList_append_E rfl _ _ 80 rfl i0 _ 40 Tryd.underlying80 HI0.out hz0 hz1 hz2 rfl (by decide) rfl A1.out rfl A2.out A3.out A4.out A5.out ?_; intro v' w' hv hgr hown; obtain ⟨B', c', e'⟩ := hv.form; subst e'; have HV := Lib.hid hv; have HGR := Lib.hid hgr; clear hv hgr hown)
      go_roundg (R.length - (k + 1))
      case measure => omega
      case rel =>
        refine ⟨k + 1, _, B', c', by go_num, by rw [List.length_append]; rfl, by omega, Nat.le_refl _, ?_, HV.out, HB2.out.grown HGR.out HB2.out.size fun j hj => Nat.le_trans HB1.out.size (A1.out.lt j hj).1, HBW2.out.grown HGR.out HBW2.out.size fun j hj => (A1.out.lt j hj).1⟩
        rw [HX.out, ← HF.out]; rfl
    · obtain rfl : k = R.length := by omega
      have hz1 : ¬ (R.length : Int) < (R.length : Int) := by omega
      rw [List.take_length] at HF
      obtain ⟨o, ho⟩ : ∃ o, bestS x O = o := ⟨_, rfl⟩
      have HBP : Hid (∀ z : Int, BestO R o z → BestP x R z) := Lib.hid fun z hz => by unfold BestP; rw [← HF.out, ho]; exact hz
      have HIN : Hid (∀ a t, o = some (a, t) → ∃ r ∈ R, r.id = t.id) := Lib.hid fun a t e => by
        have h1 := bestS_get (ho.trans e)
        rw [HF.out, List.getElem?_map] at h1
        obtain ⟨r, h2, rfl⟩ := Option.map_eq_some_iff.1 h1
        exact ⟨r, List.mem_of_getElem? h2, rfl⟩
      have hx4 := (HBW.out.block g (lt_of_row HX1.out)).trans HX1.out
      have z0 := cell_of_heap hx4 0
      have z1 := cell_of_heap hx4 1
      have z2 := cell_of_heap hx4 2
      have z3 := cell_of_heap hx4 3
      simp at z0 z1 z2 z3
      have HFB := Lib.hid (fbest_c s Bo cb O x wr (HS.out.below HB.out (Nat.le_refl _)) HO.out.lies (by rw [HF.out, List.length_map]; have := HRL.out; omega))
      rw [ho] at HFB
      clear hx4
      go_wp2_with fail
      refine HFB.out.mono ?_
      rintro e w2 ⟨rfl, b2⟩
      have HB2 : Hid (Below w.heap.size w w2) := Lib.hid (HB.out.trans (b2.mono HB.out.size))
      clear b2 HFB z0 z1 z2 z3
      cases o with
      | none =>
        rw [show idS none = 0 from rfl, show (none : Option (Nat × Spt)).isSome = false from rfl]
        go_wp2_with fail
        go_ret
        exact ⟨-1, rfl, HBP.out _ rfl, HB2.out.alloc HB2.out.size _⟩
      | some q =>
        obtain ⟨a, t⟩ := q
        rw [show idS (some (a, t)) = t.id from rfl, show (some (a, t) : Option (Nat × Spt)).isSome = true from rfl]
        obtain ⟨W3, hW3⟩ : ∃ W3, w2.alloc (.cells #[.int .i64 t.id] 3) = W3 := ⟨_, rfl⟩
        obtain ⟨q, hq⟩ : ∃ q, w2.heap.size = q := ⟨_, rfl⟩
        have hx3 : W3.heap[q]? = some (.cells #[.int .i64 t.id] 3 (0, 0)) := by rw [← hW3, ← hq]; exact heap_alloc_new _ _
        have hb3 : Below w.heap.size w W3 := by rw [← hW3]; exact HB2.out.alloc HB2.out.size _
        obtain ⟨p0, p1, p2, pl⟩ := (HH.out.on hb3).cells
        have HRI := Lib.hid (ridx_c A c R q t.id W3 (HH.out.lie.row.on hb3) (by have := HRL.out; omega) hx3)
        have HB3 := Lib.hid hb3
        have HW3 := Lib.hid hW3
        have HQ := Lib.hid hq
        clear hW3 hq hx3 hb3
        go_upto_region 8 with fail
        rw [HW3.out, HQ.out]
        go_wp2_with fail
        refine HRI.out.mono ?_
        rintro e w4 ⟨z, rfl, hz, b4⟩
        have HZ := Lib.hid hz
        have HB4 : Hid (Below w.heap.size w w4) := Lib.hid (HB3.out.trans (b4.mono HB3.out.size))
        clear hz b4
        go_wp2_with fail
        go_ret
        refine ⟨z, rfl, HBP.out _ ?_, HB4.out⟩
        rcases HZ.out with ⟨_, hno⟩ | hyes
        · obtain ⟨r, hr, e⟩ := HIN.out a t rfl
          exact absurd e (hno r hr)
        · exact hyes
end Go.Proofs.YtlckofoabnnlhaaDoor
