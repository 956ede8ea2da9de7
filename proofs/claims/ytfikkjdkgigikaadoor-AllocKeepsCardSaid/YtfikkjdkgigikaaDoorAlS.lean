/- The program's book of envelopes by contracts: Spots. Condition: the book lies in memory as its maps have it. -/
import Derived.Test.YtfikkjdkgigikaaDoorAlR
import Derived.Test.YtfikkjdkgigikaaDoorFtE
namespace Go.Proofs.YtfikkjdkgigikaaDoor
open Go Go.RowKit Go.Maps

theorem infoPS_parts : ∃ i, Tryd.prog.info? 65 = some i ∧ i.zero = some (.agg #[.int .i64 0, .int .i64 0, .int .i64 0, .int .i64 0, .int .i64 0]) ∧ i.size = 5 ∧ i.bytes = 40 := by
  obtain ⟨i, h1, h2⟩ := Option.map_eq_some_iff.1 Tryd.infoPS
  simp only [Prod.mk.injEq] at h2
  exact ⟨i, h1, h2.1, h2.2.1, h2.2.2⟩
/-- The spots of a set. -/
def spotsOf (G : AG) (id : Int) : List Spt := match setA G id with
  | none => []
  | some s => spotsA G s s.n
theorem spotsA_succ (G : AG) (s : SetA) (k : Nat) : spotsA G s (k + 1) = spotsA G s k ++ (if s.up (k : Int) = true then [⟨(k : Int), leftA G s (k : Int)⟩] else []) := by
  unfold spotsA
  rw [List.range_succ, List.filter_append, List.map_append, List.filter_cons]
  split <;> simp [*]
theorem spotsA_len (G : AG) (s : SetA) (k : Nat) : (spotsA G s k).length ≤ k := by
  unfold spotsA
  rw [List.length_map]
  have := List.length_filter_le (fun (i : Nat) => s.up (i : Int)) (List.range k)
  simpa using this
section
variable {w : World} {P : Nat → Prop} {q b1 b2 : Nat} {T1 : List (Int × Option (Nat × Nat))} {T2 : List (Tk × SeatR)} {bl : Int → Nat} {G : AG}
set_option maxRecDepth 100000 in
set_option maxHeartbeats 3200000 in
/-- Book.Spots. -/
theorem aspots_c (h : AlP w P q b1 b2 T1 T2 bl G) {id : Int} (hid : i64 id) :
    Calls Tryd.prog 24 #[.pointer (some ⟨q, 0, none⟩), .int .i64 id] w fun e w' => ∃ v, e = .returned v ∧ OwnE encSpt 65 w' w.heap.size v (spotsOf G id) ∧ Below w.heap.size w w' := by
  have HK := Lib.hid (aknown_c q b1 b2 w h.box)
  have hf0 := fieldB0
  have HM : Hid (∀ w', Below w.heap.size w w' → SetsAt w' b1 T1) := Lib.hid fun w' hb => (h.on hb).m1
  cases e : setA G id with
  | none =>
    have hv : slV ((look T1 id).getD none) = .slice none 0 0 := by rw [h.miss e]; rfl
    have hs : spotsOf G id = [] := by unfold spotsOf; rw [e]
    rw [hs]
    clear h e hs
    go_enter Tryd.func24, Tryd.ntmps24
    go_wp2_with fail
    refine HK.out.mono ?_
    rintro e w1 ⟨rfl, bb1⟩
    have hm1 := HM.out w1 bb1
    have HB1 := Lib.hid bb1
    clear bb1
    go_wp2_with (at_lookup; refine wpList_lookG _ kitI rfl _ _ 74 rfl 81 Tryd.underlying74 slV none (Tryd.zeroSl _) b1 T1 rfl hm1 id rfl hid _ hv ?_)
    go_loopw [5, 14] (fun V I wr => V = .slice none 0 0 ∧ I = .int .i64 0 ∧ wr = w1) (fun _ _ _ => 0)
    case atStart => exact ⟨rfl, rfl, rfl⟩
    case round =>
      obtain ⟨rfl, rfl, rfl⟩ := hrel
      go_wp2_with fail
      go_ret
      exact ⟨_, rfl, OwnE.nil _ _ _, HB1.out⟩
  | some sA =>
    obtain ⟨ad, had⟩ : ∃ ad : Addr, (⟨bl id, 0, none⟩ : Addr) = ad := ⟨_, rfl⟩
    have HADD : Hid (∀ k : Nat, ad.add (k * 5) = ⟨bl id, k * 5, none⟩) := Lib.hid fun k => by rw [← had, Addr.add_lit, Nat.zero_add]
    have hv : slV ((look T1 id).getD none) = .slice (some ad) sA.n sA.n := by rw [h.hit e]; simp [slV, had]
    have hs : spotsOf G id = spotsA G sA sA.n := by unfold spotsOf; rw [e]
    have hn8 := h.good.set sA (set_mem h.good e)
    have HN8 : Hid (sA.n ≤ 8) := Lib.hid hn8.2.2.2.1
    have HCE : Hid (∀ W, Below w.heap.size w W → ∀ k : Nat, k < sA.n → W.cell? ⟨bl id, k * 5, none⟩ = some (.bool (sA.up (k : Int))) ∧ W.cell? ⟨bl id, k * 5 + 1, none⟩ = some (.int .i64 (leftA G sA k).a) ∧ W.cell? ⟨bl id, k * 5 + 2, none⟩ = some (.int .i64 (leftA G sA k).b) ∧
      W.cell? ⟨bl id, k * 5 + 3, none⟩ = some (.int .i64 (leftA G sA k).c) ∧ W.cell? ⟨bl id, k * 5 + 4, none⟩ = some (.int .i64 (leftA G sA k).d)) := Lib.hid fun W hb k hk => by
      obtain ⟨a1, a2, a3, a4, a5, _⟩ := (h.on hb).cells e hk
      exact ⟨a1, a2, a3, a4, a5⟩
    rw [hs]
    obtain ⟨gE, hgE⟩ : ∃ gE, bl id = gE := ⟨_, rfl⟩
    rw [hgE] at HADD HCE
    obtain ⟨i0, hi0, hz0, hz1, hz2⟩ := infoPS_parts
    have HI0 := Lib.hid hi0; have HZ0 := Lib.hid hz0; have HZ1 := Lib.hid hz1; have HZ2 := Lib.hid hz2
    clear h e hs had hgE hn8 hi0 hz0 hz1 hz2
    go_enter Tryd.func24, Tryd.ntmps24
    go_wp2_with fail
    refine HK.out.mono ?_
    rintro e w1 ⟨rfl, bb1⟩
    have hm1 := HM.out w1 bb1
    have HB1 := Lib.hid bb1
    clear bb1
    go_wp2_with (at_lookup; refine wpList_lookG _ kitI rfl _ _ 74 rfl 81 Tryd.underlying74 slV none (Tryd.zeroSl _) b1 T1 rfl hm1 id rfl hid _ hv ?_)
    go_loopw [5, 14] (fun V I wr => ∃ k : Nat, k ≤ sA.n ∧ I = .int .i64 (k : Int) ∧ OwnE encSpt 65 wr w.heap.size V (spotsA G sA k) ∧ Below w.heap.size w wr) (fun _ I _ => sA.n - natOf I)
    case atStart => exact ⟨0, Nat.zero_le _, rfl, OwnE.nil _ _ _, HB1.out⟩
    case round =>
      clear hm1 hv
      obtain ⟨k, hk, rfl, ho, hb⟩ := hrel
      obtain ⟨A, c, hv⟩ := ho.form
      subst hv
      obtain ⟨N, hN⟩ : ∃ N, (spotsA G sA k).length = N := ⟨_, rfl⟩
      have HNN : Hid (N ≤ 8) := Lib.hid (by have := spotsA_len G sA k; have := HN8.out; omega)
      have HO := Lib.hid ho; have HB := Lib.hid hb; have HN := Lib.hid hN
      rw [hN]
      clear ho hb hN
      by_cases hkn : k < sA.n
      · have k0 : (0 : Int) ≤ (k : Int) := by omega
        have k1 : (k : Int) < (sA.n : Int) := by omega
        have hw1 : wrap64 ((k : Int) + 1) = ((k + 1 : Nat) : Int) := by have := HN8.out; unfold wrap64; omega
        have had := HADD.out k
        obtain ⟨a0, a1, a2, a3, a4⟩ := HCE.out wr HB.out k hkn
        have HSU := Lib.hid (spotsA_succ G sA k)
        obtain ⟨l, hl⟩ : ∃ l, leftA G sA (k : Int) = l := ⟨_, rfl⟩
        rw [hl] at a1 a2 a3 a4 HSU
        have HK8 : Hid (k < 8) := Lib.hid (by have := HN8.out; omega)
        clear hk hl
        have hcap : (k : Int) ≤ 8 := by have := HK8.out; omega
        cases hu : sA.up (k : Int) with
        | true =>
          rw [hu] at a0
          rw [hu, if_pos rfl] at HSU
          obtain ⟨W5, hW5⟩ : ∃ W5, (wr.alloc (.cells #[.bool true, .int .i64 l.a, .int .i64 l.b, .int .i64 l.c, .int .i64 l.d] 84)).alloc (.cells #[.int .i64 (k : Int), .int .i64 l.a, .int .i64 l.b, .int .i64 l.c, .int .i64 l.d] 65) = W5 := ⟨_, rfl⟩
          have hb5 : Below wr.heap.size wr W5 := by rw [← hW5]; exact ((Below.refl _ _).alloc (Nat.le_refl _) _).alloc (by simp) _
          have A1 : Hid (OwnE encSpt 65 W5 w.heap.size (.slice A N c) (spotsA G sA k)) := Lib.hid (by have := HO.out.on hb5; rwa [HN.out] at this)
          have A2 : Hid (LiesE encSpt W5 (.slice (some ⟨wr.heap.size + 1, 0, none⟩) 1 1) [⟨(k : Int), l⟩]) := Lib.hid (by
            have := lies_lit encSpt (w := W5) (g := wr.heap.size + 1) (t := 65) [⟨(k : Int), l⟩] (by rw [← hW5]; have := heap_alloc_new (wr.alloc (.cells #[.bool true, .int .i64 l.a, .int .i64 l.b, .int .i64 l.c, .int .i64 l.d] 84)) (.cells #[.int .i64 (k : Int), .int .i64 l.a, .int .i64 l.b, .int .i64 l.c, .int .i64 l.d] 65); simp only [World.size_alloc] at this; exact this)
            exact this)
          have A3 : Hid ((spotsA G sA k).length + [(⟨(k : Int), l⟩ : Spt)].length ≤ maxLen) := Lib.hid (by rw [HN.out]; have := HNN.out; simp only [List.length_singleton, maxLen]; omega)
          have A4 : Hid (((spotsA G sA k).length + [(⟨(k : Int), l⟩ : Spt)].length) * 40 ≤ 140737488355328) := Lib.hid (by rw [HN.out]; have := HNN.out; simp only [List.length_singleton]; omega)
          have A5 : Hid (w.heap.size ≤ W5.heap.size) := Lib.hid (Nat.le_trans HB.out.size hb5.size)
          have HB5 := Lib.hid hb5
          have HW5 := Lib.hid hW5
          clear hW5 hb5
          have h0 := HI0.out; have z0 := HZ0.out; have z1 := HZ1.out; have z2 := HZ2.out
          go_wp2_with (at_builtin; rw [HW5.out]; refine wpList_append_E (E := encSpt) rfl _ _ 59 rfl i0 _ 40 Tryd.underlying59 h0 z0 z1 z2 rfl (by decide) rfl A1.out rfl A2.out A3.out A4.out A5.out ?_; intro v' w' hv hgr hown)
          have HV := Lib.hid hv
          have HBW : Hid (Below w.heap.size w w') := Lib.hid ((HB.out.trans (HB5.out.mono HB.out.size)).grown hgr (Nat.le_trans HB.out.size HB5.out.size) (fun j hj => (A1.out.lt j hj).1))
          clear hv hgr hown
          go_wp2_with fail
          go_roundw
          case rel => exact ⟨k + 1, hkn, by rw [← hw1]; first | rfl | (congr 1; omega), by rw [HSU.out]; exact HV.out, HBW.out⟩
          case measure => simp [natOf]; omega
        | false =>
          rw [hu] at a0
          rw [hu, if_neg (by decide), List.append_nil] at HSU
          go_wp2_with fail
          go_roundw
          case rel => exact ⟨k + 1, hkn, by rw [← hw1]; first | rfl | (congr 1; omega), by rw [HSU.out]; have := HO.out.on (w' := wr.alloc (.cells #[.bool false, .int .i64 l.a, .int .i64 l.b, .int .i64 l.c, .int .i64 l.d] 84)) ((Below.refl _ _).alloc (Nat.le_refl _) _); rwa [HN.out] at this, HB.out.alloc HB.out.size _⟩
          case measure => simp [natOf]; omega
      · obtain rfl : k = sA.n := by omega
        go_wp2_with fail
        go_ret
        exact ⟨_, rfl, by have := HO.out; rwa [HN.out] at this, HB.out⟩
end
end Go.Proofs.YtfikkjdkgigikaaDoor
