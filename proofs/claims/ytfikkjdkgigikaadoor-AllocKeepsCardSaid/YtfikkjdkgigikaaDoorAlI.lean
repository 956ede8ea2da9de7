/- The program's book of envelopes by contracts: Inside. Condition: the book lies in memory as its maps have it. -/
import Derived.Test.YtfikkjdkgigikaaDoorAlD
import Derived.Test.YtfikkjdkgigikaaDoorTkO
import Derived.Test.YtfikkjdkgigikaaDoorRwL
import Derived.RangeFuncNested
namespace Go.Proofs.YtfikkjdkgigikaaDoor
open Go Go.RowKit Go.Maps Go.Sort

/-- Is a seat in that envelope? -/
def inS (id pos : Int) (x : SeatR) : Bool := decide (x.set = id) && decide (x.pos = pos)
theorem infoTk_parts : ∃ i, Tryd.prog.info? 32 = some i ∧ i.zero = some (.agg #[.int .i64 0, .int .i64 0]) ∧ i.size = 2 ∧ i.bytes = 16 := by
  obtain ⟨i, h1, h2⟩ := Option.map_eq_some_iff.1 Tryd.infoTk
  simp only [Prod.mk.injEq] at h2
  exact ⟨i, h1, h2.1, h2.2.1, h2.2.2⟩
section
variable {w : World} {P : Nat → Prop} {q b1 b2 : Nat} {T1 : List (Int × Option (Nat × Nat))} {T2 : List (Tk × SeatR)} {bl : Int → Nat} {G : AG}
theorem AlP.inside_perm (h : AlP w P q b1 b2 T1 T2 bl G) {id pos : Int} {ss : List Tk} (hp : ss.Perm (T2.map (·.1))) : sortT (ss.filter fun t => inS id pos ((look T2 t).getD seat0)) = insideA G id pos := by
  unfold insideA
  refine sort_unique ?_ (sortT_spec _).2 (sortT_spec _).2
  refine (sortT_spec _).1.trans (List.Perm.trans ?_ (sortT_spec _).1.symm)
  refine ((hp.trans h.keys2).filter _).trans ?_
  rw [List.filter_map]
  refine List.Perm.of_eq (congrArg _ (List.filter_congr fun x hx => ?_))
  simp only [Function.comp]
  rw [h.seats, (tk_iff h.good).2 ⟨hx, rfl⟩]
  rfl
set_option maxRecDepth 100000 in
set_option maxHeartbeats 3200000 in
/-- Book.Inside. -/
theorem ainside_c (h : AlP w P q b1 b2 T1 T2 bl G) (id pos : Int) (hlen : G.tasks.length ≤ 100000) :
    Calls Tryd.prog 26 #[.pointer (some ⟨q, 0, none⟩), .int .i64 id, .int .i64 pos] w fun e w' => ∃ v, e = .returned v ∧ OwnE encTk 32 w' w.heap.size v (insideA G id pos) ∧ Below w.heap.size w w' := by
  have HK := Lib.hid (aknown_c q b1 b2 w h.box)
  have hf1 := fieldB1
  have H2 : Hid (∀ w', Below w.heap.size w w' → SeatsAt w' b2 T2) := Lib.hid fun w' hb => (h.on hb).m2
  have HPE : Hid (∀ ss : List Tk, ss.Perm (T2.map (·.1)) → sortT (ss.filter fun t => inS id pos ((look T2 t).getD seat0)) = insideA G id pos) := Lib.hid fun ss hp => h.inside_perm hp
  have HAP := Lib.hid h.m2.apart
  have HKE := Lib.hid h.m2.keys
  have HLN : Hid (T2.length ≤ 100000) := Lib.hid (by rw [h.len2]; exact hlen)
  obtain ⟨I, hI⟩ : ∃ I, insideA G id pos = I := ⟨_, rfl⟩
  rw [hI] at HPE ⊢
  obtain ⟨i0, hi0, hz0, hz1, hz2⟩ := infoTk_parts
  have HI0 := Lib.hid hi0; have HZ0 := Lib.hid hz0; have HZ1 := Lib.hid hz1; have HZ2 := Lib.hid hz2
  clear h hI hi0 hz0 hz1 hz2 hlen
  go_enter Tryd.func26, Tryd.ntmps26
  go_wp2_with fail
  refine HK.out.mono ?_
  rintro e w1 ⟨rfl, bb1⟩
  have hm1 := H2.out w1 bb1
  have HB1 := Lib.hid bb1
  clear bb1 HK
  go_wp2_with (at_range; refine wpList_rangeG _ kitT rfl _ 75 rfl 86 Tryd.underlying75 encSeat b2 T2 rfl hm1 ?_; intro w0 left hrg0 hl0 hg0 hs0)
  obtain ⟨r, hr⟩ : ∃ r, w1.heap.size = r := ⟨_, rfl⟩
  have HB0 : Hid (Below w.heap.size w w0) := Lib.hid (HB1.out.grown hg0 HB1.out.size (fun k e => by cases e))
  have HRW : Hid (w.heap.size ≤ r) := Lib.hid (by rw [← hr]; exact HB1.out.size)
  rw [hr] at hrg0 ⊢
  clear hr hm1 hg0 hs0
  go_frame
  go_loopw [7] (fun V wr => ∃ (left : Tk → Bool) (cnt : Nat) (ss : List Tk), RangeG Tryd.prog 32 klT okT encSeat wr b2 r T2 left cnt ∧ ss.length + cnt ≤ T2.length ∧ CameG T2 okT left ss ∧ (∀ x ∈ ss, okT x) ∧ OwnE encTk 32 wr w.heap.size V (ss.filter fun t => inS id pos ((look T2 t).getD seat0)) ∧ Below w.heap.size w wr)
    (fun _ wr => wr.rangeLeft b2 r)
  case atStart => exact ⟨_, _, [], hrg0, by simp, CameG.start T2 hl0, fun x hx => (by cases hx), OwnE.nil _ _ _, HB0.out⟩
  case round =>
    obtain ⟨left, cnt, ss, hrg, hcs, hC, hok, hown, hb⟩ := hrel
    clear hrg0 hl0 HB0
    obtain ⟨A, c, hv⟩ := hown.form
    subst hv
    obtain ⟨N, hN⟩ : ∃ N, (ss.filter fun t => inS id pos ((look T2 t).getD seat0)).length = N := ⟨_, rfl⟩
    have HNB : Hid (N ≤ 100000) := Lib.hid (by have := List.length_filter_le (fun t => inS id pos ((look T2 t).getD seat0)) ss; have := HLN.out; omega)
    have HC := Lib.hid hC; have HO := Lib.hid hok; have HOW := Lib.hid hown; have HB := Lib.hid hb; have HCS := Lib.hid hcs; have HRG := Lib.hid hrg; have HN := Lib.hid hN
    rw [hN]
    clear hC hok hown hb hcs hN
    go_wp2_with (at_next; refine wpList_nextG _ kitT rfl _ rfl encSeat b2 r T2 _ _ rfl hrg ?_ ?_)
    · intro hc0 hl0
      have hp : ss.Perm (T2.map (·.1)) := HC.out.perm HAP.out HKE.out HO.out hl0
      have he := HPE.out ss hp
      have hso := sortK_own w.heap.size (.slice A N c) _ wr (by have := HOW.out; rwa [HN.out] at this) (by rw [HN.out]; have := HNB.out; omega)
      rw [he] at hso
      have HSO := Lib.hid hso
      clear hrg hl0 hp he hso HC HPE
      go_wp2_with fail
      refine HSO.out.mono ?_
      rintro e w5 ⟨rfl, hr5, hg5⟩
      have hbl : ∀ k, (Value.slice A N c).ownBlock = some k → w.heap.size ≤ k := fun k hk => (HOW.out.lt k (by rw [HN.out]; exact hk)).1
      have HR5 := Lib.hid hr5
      have HB5 : Hid (Below w.heap.size w w5) := Lib.hid (HB.out.grown hg5 HB.out.size hbl)
      clear hr5 hg5 hbl
      go_wp2_with fail
      go_ret
      exact ⟨_, rfl, HR5.out, HB5.out⟩
    · intro y v w3 cnt3 hyo hlk hat hrg3 hlt hg3 hs3 hen
      have hw3 : Below w.heap.size w w3 := HB.out.grown hg3 HB.out.size (fun k e => by cases e; exact HRW.out)
      have hrb : ∀ k, (Value.slice A N c).ownBlock = some k → w3.heap[k]? = wr.heap[k]? := fun k hk => by
        have hk' := HOW.out.lt k (by rw [HN.out]; exact hk)
        refine hg3.block k hk'.2 fun e => ?_
        obtain rfl : k = r := Option.some.inj e
        obtain ⟨D, lf, hrr, _⟩ := HRG.out
        obtain ⟨o, ho, hwk⟩ := hrr.iter_walk
        have hO := HOW.out
        rw [HN.out] at hO
        rcases hO.2 with ⟨hv, _⟩ | ⟨g, cap, cur, hv, _, hh, _⟩
        · rw [hv] at hk; simp [Value.ownBlock] at hk
        · rw [hv] at hk; simp [Value.ownBlock] at hk; subst hk
          rw [ho] at hh; obtain rfl := Option.some.inj hh
          simp [Obj.isWalk] at hwk
      have hO3 : OwnE encTk 32 w3 w.heap.size (.slice A N c) (ss.filter fun t => inS id pos ((look T2 t).getD seat0)) := by
        have hO := HOW.out
        rw [HN.out] at hO
        exact hO.same hrb
      have HO3 := Lib.hid hO3
      have HW3 := Lib.hid hw3
      have HR3 := Lib.hid hrg3
      have HSM : Hid (w3.rangeLeft b2 r < wr.rangeLeft b2 r) := Lib.hid (by rw [hrg3.left_eq, hrg.left_eq]; exact hlt)
      have HC3 : Hid (CameG T2 okT (fun z => left z && !decide (z = y)) (ss ++ [y])) := Lib.hid (HC.out.step hyo hlk hat)
      have HOK3 : Hid (∀ x ∈ ss ++ [y], okT x) := Lib.hid fun z hz => by
        rcases List.mem_append.1 hz with k | k
        · exact HO.out z k
        · rw [List.mem_singleton.1 k]; exact hyo
      have HLT : Hid (ss.length + 1 + cnt3 ≤ T2.length) := Lib.hid (by have := HCS.out; omega)
      have HFI : Hid ((ss ++ [y]).filter (fun t => inS id pos ((look T2 t).getD seat0)) = (ss.filter fun t => inS id pos ((look T2 t).getD seat0)) ++ (if inS id pos v = true then [y] else [])) := Lib.hid (by
        rw [List.filter_append, List.filter_cons, hat]
        rfl)
      unfold tv encSeat at hen ⊢
      clear hrg hrg3 hlk hat hlt hg3 hs3 hrb hO3 hw3 hyo HC HO HOW HB HRG HCS HPE
      by_cases h1 : v.set = id
      · have e1 : (v.set == id) = true := by simpa using h1
        by_cases h2 : v.pos = pos
        · have e2 : (v.pos == pos) = true := by simpa using h2
          have hi : inS id pos v = true := by simp [inS, h1, h2]
          rw [hi, if_pos rfl] at HFI
          clear h1 h2 hi
          obtain ⟨W5, hW5⟩ : ∃ W5, ((w3.alloc (.cells #[.int .i64 y.job, .int .i64 y.ix] 32)).alloc (.cells #[.int .i64 v.set, .int .i64 v.pos, .int .i64 v.need.a, .int .i64 v.need.b, .int .i64 v.need.c, .int .i64 v.need.d] 86)).alloc (.cells #[.int .i64 y.job, .int .i64 y.ix] 32) = W5 := ⟨_, rfl⟩
          have hb5 : Below w3.heap.size w3 W5 := by rw [← hW5]; exact (((Below.refl _ _).alloc (Nat.le_refl _) _).alloc (by simp) _).alloc (by simp; omega) _
          have A1 : Hid (OwnE encTk 32 W5 w.heap.size (.slice A N c) (ss.filter fun t => inS id pos ((look T2 t).getD seat0))) := Lib.hid (HO3.out.on hb5)
          have A2 : Hid (LiesE encTk W5 (.slice (some ⟨w3.heap.size + 1 + 1, 0, none⟩) 1 1) [y]) := Lib.hid (by
            have := lies_lit encTk (w := W5) (g := w3.heap.size + 1 + 1) (t := 32) [y] (by rw [← hW5]; have := heap_alloc_new ((w3.alloc (.cells #[.int .i64 y.job, .int .i64 y.ix] 32)).alloc (.cells #[.int .i64 v.set, .int .i64 v.pos, .int .i64 v.need.a, .int .i64 v.need.b, .int .i64 v.need.c, .int .i64 v.need.d] 86)) (.cells #[.int .i64 y.job, .int .i64 y.ix] 32); simp only [World.size_alloc] at this; exact this)
            exact this)
          have A3 : Hid ((ss.filter fun t => inS id pos ((look T2 t).getD seat0)).length + [y].length ≤ maxLen) := Lib.hid (by rw [HN.out]; have := HNB.out; simp only [List.length_singleton, maxLen]; omega)
          have A4 : Hid (((ss.filter fun t => inS id pos ((look T2 t).getD seat0)).length + [y].length) * 16 ≤ 140737488355328) := Lib.hid (by rw [HN.out]; have := HNB.out; simp only [List.length_singleton]; omega)
          have A5 : Hid (w.heap.size ≤ W5.heap.size) := Lib.hid (Nat.le_trans HW3.out.size hb5.size)
          have HB5 := Lib.hid hb5
          have HW5 := Lib.hid hW5
          clear hW5 hb5
          obtain ⟨ii, h0⟩ : ∃ ii, Tryd.prog.info? 32 = some ii := ⟨_, HI0.out⟩
          obtain rfl := Option.some.inj (h0.symm.trans HI0.out)
          have z0 := HZ0.out; have z1 := HZ1.out; have z2 := HZ2.out
          go_wp2_with (at_builtin; rw [HW5.out]; refine wpList_append_E (E := encTk) rfl _ _ 46 rfl ii _ 16 Tryd.underlying46 h0 z0 z1 z2 rfl (by decide) rfl A1.out rfl A2.out A3.out A4.out A5.out ?_; intro v' w' hv hgr hown)
          have HV := Lib.hid hv
          have hbk : ∀ k, (Value.slice A N c).ownBlock = some k → w.heap.size ≤ k ∧ k < w3.heap.size := fun k hk => HO3.out.lt k hk
          have HBW : Hid (Below w.heap.size w w') := Lib.hid ((HW3.out.trans (HB5.out.mono HW3.out.size)).grown hgr (Nat.le_trans HW3.out.size HB5.out.size) (fun k hk => (hbk k hk).1))
          have HRR : Hid (RangeG Tryd.prog 32 klT okT encSeat w' b2 r T2 (fun z => left z && !decide (z = y)) cnt3) := Lib.hid (by
            refine RangeG.kept (row := (Value.slice A N c).ownBlock) (w := W5) ?_ hgr ?_ ?_
            · rw [← HW5.out]; exact ((HR3.out.alloc _).alloc _).alloc _
            · intro e
              obtain ⟨D, ⟨es, cc, hm, _⟩, _⟩ := HR3.out.map
              have hO := HO3.out
              rcases hO.2 with ⟨hv, _⟩ | ⟨g, cap, cur, hv, _, hh, _⟩
              · rw [hv] at e; simp [Value.ownBlock] at e
              · rw [hv] at e; simp [Value.ownBlock] at e; subst e; rw [hm] at hh; cases hh
            · intro e
              obtain ⟨D, lf, hrr, _⟩ := HR3.out
              obtain ⟨o, ho, hwk⟩ := hrr.iter_walk
              have hO := HO3.out
              rcases hO.2 with ⟨hv, _⟩ | ⟨g, cap, cur, hv, _, hh, _⟩
              · rw [hv] at e; simp [Value.ownBlock] at e
              · rw [hv] at e; simp [Value.ownBlock] at e; subst e; rw [ho] at hh; obtain rfl := Option.some.inj hh; simp [Obj.isWalk] at hwk)
          clear hv hgr hown hbk
          go_wp2_with fail
          go_roundw
          case rel => exact ⟨_, cnt3, ss ++ [y], HRR.out, by have := HLT.out; simp; omega, HC3.out, HOK3.out, by rw [HFI.out]; exact HV.out, HBW.out⟩
          case measure =>
            have := HSM.out
            rw [HR3.out.left_eq] at this
            rw [HRR.out.left_eq]; exact this
        · have e2 : (v.pos == pos) = false := by simpa using h2
          have hi : inS id pos v = false := by simp [inS, h2]
          rw [hi] at HFI
          clear h1 h2 hi
          rw [if_neg (by decide), List.append_nil] at HFI
          go_wp2_with fail
          go_roundw
          case rel => exact ⟨_, cnt3, ss ++ [y], (HR3.out.alloc _).alloc _, by have := HLT.out; simp; omega, HC3.out, HOK3.out, by rw [HFI.out]; exact (HO3.out.on ((Below.refl _ _).alloc (Nat.le_refl _) _)).on ((Below.refl _ _).alloc (Nat.le_refl _) _), (HW3.out.alloc HW3.out.size _).alloc (Nat.le_trans HW3.out.size (by simp)) _⟩
          case measure =>
            have := HSM.out
            rw [HR3.out.left_eq] at this
            rw [((HR3.out.alloc _).alloc _).left_eq]; exact this
      · have e1 : (v.set == id) = false := by simpa using h1
        have hi : inS id pos v = false := by simp [inS, h1]
        rw [hi] at HFI
        clear h1 hi
        rw [if_neg (by decide), List.append_nil] at HFI
        go_wp2_with fail
        go_roundw
        case rel => exact ⟨_, cnt3, ss ++ [y], (HR3.out.alloc _).alloc _, by have := HLT.out; simp; omega, HC3.out, HOK3.out, by rw [HFI.out]; exact (HO3.out.on ((Below.refl _ _).alloc (Nat.le_refl _) _)).on ((Below.refl _ _).alloc (Nat.le_refl _) _), (HW3.out.alloc HW3.out.size _).alloc (Nat.le_trans HW3.out.size (by simp)) _⟩
        case measure =>
          have := HSM.out
          rw [HR3.out.left_eq] at this
          rw [((HR3.out.alloc _).alloc _).left_eq]; exact this
end
end Go.Proofs.YtfikkjdkgigikaaDoor
