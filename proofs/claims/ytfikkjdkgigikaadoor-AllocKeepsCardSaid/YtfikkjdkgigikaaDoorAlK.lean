/- The program's book of envelopes by contracts: Close. Conditions: the book lies in memory as its maps have it; the sentinels lie where the program's text lays them. -/
import Derived.Test.YtfikkjdkgigikaaDoorAlE
import Derived.RangeFuncNested
import Derived.Deep.DeepCutAuto
import Derived.Deep.CutBlock
namespace Go.Proofs.YtfikkjdkgigikaaDoor
open Go Go.RowKit Go.Maps

section
variable {w : World} {P : Nat → Prop} {q b1 b2 : Nat} {T1 : List (Int × Option (Nat × Nat))} {T2 : List (Tk × SeatR)} {bl : Int → Nat} {G : AG}
/-- A set is removed. -/
theorem AlP.closed (h : AlP w P q b1 b2 T1 T2 bl G) {id : Int} (_hid : i64 id) (hs : (setA G id).isSome = true) (hno : G.tasks.any (fun x => decide (x.set = id)) = false) {w6 w9 : World} (hb : Below w.heap.size w w6) (hm : SetsAt w9 b1 (strike T1 id)) (hg : w6.grownBy w9 (some b1)) :
    AlP w9 P q b1 b2 (strike T1 id) T2 bl (closeA G id).1 ∧ ChP P w w9 := by
  have h6 := h.on hb
  have hgd := h.good.close id
  have hc : closeA G id = (⟨G.sets.filter fun s => !decide (s.id = id), G.tasks⟩, 0) := by unfold closeA; rw [if_neg (by rw [hs]; simp), if_neg (by rw [hno]; simp)]
  rw [hc] at hgd ⊢
  have hset : ∀ j, setA ⟨G.sets.filter fun s => !decide (s.id = id), G.tasks⟩ j = if j = id then none else setA G j := fun j => find_filter SetA.id id j
  have keep : ∀ k, P k → k ≠ b1 → w9.heap[k]? = w6.heap[k]? := fun k hk hne => hg.block k (h6.old k hk) (by simpa using hne)
  refine ⟨⟨(keep q h.pq h.q1).trans h6.box, hm, h6.m2.same (keep b2 h.p2 h.ne.symm), h.ne, fun j => ?_, fun j t ht => ?_, fun i j a b ha hb' => ?_, h.seats, hgd, h.pq, h.p1, h.p2, fun j t ht => ?_, fun k hk => Nat.lt_of_lt_of_le (h6.old k hk) hg.size⟩, (ChP.of_below hb).grown hg (fun k e => .inl (by cases e; exact h.p1))⟩
  · rw [look_strike, hset]
    split
    · rfl
    · exact h.sets j
  · rw [hset] at ht
    split at ht
    · cases ht
    · have hr := h6.rows j t ht
      refine hr.same fun k hk => ?_
      simp [Value.ownBlock] at hk; subst hk
      exact keep _ (h.pr j t ht) (h.r1 ht)
  · rw [hset] at ha hb'
    split at ha
    · cases ha
    · split at hb'
      · cases hb'
      · exact h.inj i j a b ha hb'
  · rw [hset] at ht
    split at ht
    · cases ht
    · exact h.pr j t ht
set_option maxRecDepth 100000 in
set_option maxHeartbeats 3200000 in
/-- Book.Close. -/
theorem aclose_c (s : Nat → Addr) (h : AlP w P q b1 b2 T1 T2 bl G) (hs : SentP s P w) {id : Int} (hid : i64 id) :
    Calls Tryd.prog 11 #[.pointer (some ⟨q, 0, none⟩), .int .i64 id] w fun e w' => e = .returned (errV s (closeA G id).2) ∧ (∃ T1', AlP w' P q b1 b2 T1' T2 bl (closeA G id).1) ∧ ChP P w w' := by
  have c0 := cell_of_heap h.box 0
  have c1 := cell_of_heap h.box 1
  have hE0 := eqlS
  have HM := Lib.hid h.m1
  have H := Lib.hid h
  cases e : setA G id with
  | none =>
    have hc : closeA G id = (G, 5) := by unfold closeA; rw [e]; rfl
    rw [hc, errA s 5 (by omega)]
    have hv : slV ((look T1 id).getD none) = .slice none 0 0 := by rw [h.miss e]; rfl
    have e4 := hs.here.cell 4 (by omega)
    simp only [gnum, List.getD_cons_zero, List.getD_cons_succ] at e4
    clear h hs e hc
    go_enter Tryd.func11, Tryd.ntmps11
    go_wp2_with (at_lookup; refine wpList_lookG _ kitI rfl _ _ 74 rfl 81 Tryd.underlying74 slV none (Tryd.zeroSl _) b1 T1 rfl HM.out id rfl hid _ hv ?_)
    go_ret
    exact ⟨rfl, ⟨_, H.out⟩, ChP.refl _ _⟩
  | some sA =>
    have hv : slV ((look T1 id).getD none) = .slice (some ⟨bl id, 0, none⟩) sA.n sA.n := by rw [h.hit e]; simp [slV]
    have hsome : (setA G id).isSome = true := by rw [e]; rfl
    have HAP := Lib.hid h.m2.apart
    have HCL : Hid (G.tasks.any (fun x => decide (x.set = id)) = false → ∀ w6 w9 : World, Below w.heap.size w w6 → SetsAt w9 b1 (strike T1 id) → w6.grownBy w9 (some b1) → AlP w9 P q b1 b2 (strike T1 id) T2 bl (closeA G id).1 ∧ ChP P w w9) := Lib.hid fun hno w6 w9 hb hm hg => h.closed hid hsome hno hb hm hg
    have HYES : Hid (∀ y v, look T2 y = some v → v.set = id → closeA G id = (G, 13)) := Lib.hid fun y v hy hv => by
      rw [h.seats] at hy
      obtain ⟨x, hx, rfl⟩ := Option.map_eq_some_iff.1 hy
      unfold closeA
      rw [if_neg (by rw [hsome]; simp), if_pos]
      exact List.any_eq_true.2 ⟨x, ((tk_iff h.good).1 hx).1, by simpa using hv⟩
    have HNO : Hid ((∀ y v, okT y → look T2 y = some v → v.set ≠ id) → G.tasks.any (fun x => decide (x.set = id)) = false ∧ (closeA G id).2 = 0) := Lib.hid fun hall => by
      have hno : G.tasks.any (fun x => decide (x.set = id)) = false := by
        rw [List.any_eq_false]
        intro x hx
        have hl : look T2 x.tk = some ⟨x.set, x.pos, x.need⟩ := by rw [h.seats, (tk_iff h.good).2 ⟨hx, rfl⟩]; rfl
        simpa using hall x.tk _ (h.m2.okKey hl) hl
      refine ⟨hno, ?_⟩
      unfold closeA
      rw [if_neg (by rw [hsome]; simp), if_neg (by rw [hno]; simp)]
    have HON : Hid (∀ W, Below w.heap.size w W → SetsAt W b1 T1 ∧ W.cell? ⟨q, 0, none⟩ = some (.map (some b1)) ∧ AlP W P q b1 b2 T1 T2 bl G) := Lib.hid fun W hb => ⟨(h.on hb).m1, cell_of_heap (h.on hb).box 0, h.on hb⟩
    have HE12 : Hid (∀ W, Below w.heap.size w W → W.cell? ⟨12, 0, none⟩ = some (.iface 161 (.pointer (some (s 12))))) := Lib.hid fun W hb => by
      have := (hs.on hb).here.cell 12 (by omega)
      simpa only [gnum, List.getD_cons_zero, List.getD_cons_succ] using this
    have hm2 := h.m2
    clear h hs e hsome
    go_enter Tryd.func11, Tryd.ntmps11
    go_wp2_with (first
      | (at_lookup; refine wpList_lookG _ kitI rfl _ _ 74 rfl 81 Tryd.underlying74 slV none (Tryd.zeroSl _) b1 T1 rfl HM.out id rfl hid _ hv ?_)
      | (at_range; refine wpList_rangeG _ kitT rfl _ 75 rfl 86 Tryd.underlying75 encSeat b2 T2 rfl hm2 ?_; intro w0 left hrg0 hl0 hg0 hs0)
      | fail)
    obtain ⟨r, hr⟩ : ∃ r, w.heap.size = r := ⟨_, rfl⟩
    have HB0 : Hid (Below w.heap.size w w0) := Lib.hid ((Below.refl _ _).grown hg0 (Nat.le_refl _) (fun k e => by cases e))
    have HRW : Hid (w.heap.size = r) := Lib.hid hr
    rw [hr] at hrg0 ⊢
    clear hr hm2 hg0 hs0 hv
    go_frame
    go_loopw [4] (fun V wr => V = .nilIface ∧ ∃ (left : Tk → Bool) (cnt : Nat), RangeG Tryd.prog 32 klT okT encSeat wr b2 r T2 left cnt ∧ (∀ y v, okT y → look T2 y = some v → left y = false → v.set ≠ id) ∧ Below w.heap.size w wr)
      (fun _ wr => wr.rangeLeft b2 r)
    case atStart => exact ⟨rfl, left, T2.length, hrg0, fun y v hy hl hf => (by rw [hl0 y hy, hl] at hf; cases hf), HB0.out⟩
    case round =>
      obtain ⟨rfl, left, cnt, hrg, hall, hb⟩ := hrel
      clear hrg0 hl0 HB0 c0 c1
      have HRG := Lib.hid hrg; have HALL := Lib.hid hall; have HB := Lib.hid hb
      clear hall hb
      go_wp2_with (at_next; refine wpList_nextG _ kitT rfl _ rfl encSeat b2 r T2 _ _ rfl hrg ?_ ?_)
      · intro hc0 hl0
        obtain ⟨hno, h2⟩ := HNO.out fun y v hy hl => HALL.out y v hy hl (hl0 y hy)
        obtain ⟨hmW, c0, _⟩ := HON.out wr HB.out
        have HCC := Lib.hid (HCL.out hno wr)
        have H2 := Lib.hid h2
        clear hrg hl0 hno h2
        go_wp2_with (at_delete; refine wpList_delG _ kitI rfl _ _ 74 rfl 81 Tryd.underlying74 slV b1 T1 rfl hmW id rfl hid ?_; intro w9 hm9 hg9)
        go_ret
        obtain ⟨k1, k2⟩ := HCC.out w9 HB.out hm9 hg9
        exact ⟨by rw [H2.out]; rfl, ⟨_, k1⟩, k2⟩
      · intro y v w3 cnt3 hyo hlk hat hrg3 hlt hg3 hs3 hen
        have hw3 : Below w.heap.size w w3 := HB.out.grown hg3 HB.out.size (fun k e => by cases e; exact Nat.le_of_eq HRW.out)
        have HW3 := Lib.hid hw3
        have HR3 := Lib.hid hrg3
        have HSM : Hid (w3.rangeLeft b2 r < wr.rangeLeft b2 r) := Lib.hid (by rw [hrg3.left_eq, hrg.left_eq]; exact hlt)
        have HAT := Lib.hid hat
        unfold encSeat at hen ⊢
        clear hrg hrg3 hlk hlt hg3 hs3 hw3 hyo HRG HB
        by_cases h1 : v.set = id
        · have e1 : (v.set == id) = true := by simpa using h1
          have HY := Lib.hid (HYES.out y v hat h1)
          obtain ⟨W5, hW5⟩ : ∃ W5, w3.alloc (.cells #[.int .i64 v.set, .int .i64 v.pos, .int .i64 v.need.a, .int .i64 v.need.b, .int .i64 v.need.c, .int .i64 v.need.d] 86) = W5 := ⟨_, rfl⟩
          have hb5 : Below w.heap.size w W5 := by rw [← hW5]; exact HW3.out.alloc HW3.out.size _
          have hc5 : W5.cell? ⟨w3.heap.size, 0, none⟩ = some (.int .i64 v.set) := by rw [← hW5]; exact cell_of_heap (heap_alloc_new w3 _) 0
          have e12 := HE12.out W5 hb5
          have HB5 := Lib.hid hb5
          have HW5 := Lib.hid hW5
          clear hat h1 hb5 hW5
          go_upto_region 8 with fail
          rw [HW5.out]
          go_wp2_with fail
          rw [HY.out, errA s 13 (by omega)]
          go_ret
          exact ⟨rfl, ⟨_, (HON.out W5 HB5.out).2.2⟩, ChP.of_below HB5.out⟩
        · have e1 : (v.set == id) = false := by simpa using h1
          have HN1 := Lib.hid h1
          clear hat h1
          go_wp2_with fail
          go_roundw
          case rel =>
            refine ⟨rfl, _, cnt3, HR3.out.alloc _, fun z u hz hl hf => ?_, HW3.out.alloc HW3.out.size _⟩
            by_cases hzy : z = y
            · subst hzy
              rw [HAT.out] at hl
              obtain rfl := Option.some.inj hl
              exact HN1.out
            · exact HALL.out z u hz hl (by simpa [hzy] using hf)
          case measure =>
            have := HSM.out
            rw [HR3.out.left_eq] at this
            rw [(HR3.out.alloc _).left_eq]; exact this
end
/-- .. of no book. -/
theorem aclose_nil (s : Nat → Addr) (w : World) (hs : Sent s w) (id : Int) :
    Calls Tryd.prog 11 #[.pointer none, .int .i64 id] w fun e w' => e = .returned (errV s 2) ∧ Below w.heap.size w w' := by
  have e1 := hs.cell 1 (by omega)
  simp only [gnum, List.getD_cons_zero, List.getD_cons_succ] at e1
  rw [errA s 2 (by omega)]
  clear hs
  go_enter Tryd.func11, Tryd.ntmps11
  go_wp2_with fail
  go_ret
  exact ⟨rfl, Below.refl _ _⟩
end Go.Proofs.YtfikkjdkgigikaaDoor
