/- The law VictimFair: only who counts less goes, of no job more than may, nobody where it fits as it is. Condition: the sentinels lie as the program's text lays them. -/
import Derived.Test.YtlckofoabnnlhaaDoorViY
import Derived.Test.YtlckofoabnnlhaaDoorViWm
namespace Go.Proofs.YtlckofoabnnlhaaDoor
open Go Go.RowKit Go.Maps

/-- What the law keeps: the demand's box, Pick's choice, its victims. -/
structure FairSt (w : World) (x : V4) (g5 g14 : Nat) (host : Int) (Bo : Option Addr) (cb : Nat) (O : List Gst) (W : World) : Prop where
  low : Below w.heap.size w W
  need : W.heap[g5]? = some (.cells #[.int .i64 x.a, .int .i64 x.b, .int .i64 x.c, .int .i64 x.d] 24 (0, 0))
  ch : W.heap[g14]? = some (.cells #[.int .i64 host, .slice Bo O.length cb] 38 (0, 0))
  outs : OwnE encTk 33 W w.heap.size (.slice Bo O.length cb) (O.map (·.task))
section
variable {w W W' : World} {x : V4} {g5 g14 : Nat} {host : Int} {Bo : Option Addr} {cb : Nat} {O : List Gst}
theorem FairSt.on (h : FairSt w x g5 g14 host Bo cb O W) (hb : Below W.heap.size W W') : FairSt w x g5 g14 host Bo cb O W' :=
  ⟨h.low.trans (hb.mono h.low.size), (hb.block _ (lt_of_row h.need)).trans h.need, (hb.block _ (lt_of_row h.ch)).trans h.ch, h.outs.on hb⟩
/-- Behind a store into a box of the law's own. -/
theorem FairSt.put (h : FairSt w x g5 g14 host Bo cb O W) {g : Nat} {cs : Array Value} (hg : W.heap[g]? = some (.cells cs 24 (0, 0))) (hl : w.heap.size ≤ g) (hne : g ≠ g5) (i : Nat) (v : Value) : FairSt w x g5 g14 host Bo cb O (W.setCell ⟨g, i, none⟩ v) := by
  have ho : ∀ k, k ≠ g → (W.setCell ⟨g, i, none⟩ v).heap[k]? = W.heap[k]? := fun k hk => heap_setCell_other W ⟨g, i, none⟩ k v hk
  exact ⟨h.low.setCell (p := ⟨g, i, none⟩) hl _, (ho _ (Ne.symm hne)).trans h.need, (ho _ fun e => by have hc := h.ch; rw [e, hg] at hc; simp at hc).trans h.ch, h.outs.same fun k hk => ho k fun e => own_ne h.outs hg (by decide) (e ▸ hk)⟩
theorem FairSt.reads (h : FairSt w x g5 g14 host Bo cb O W) : ReadsE encTk W Bo (O.map (·.task)) := own_reads h.outs
end
theorem nodup_ne {L : List Gst} (hn : (L.map (·.task)).Nodup) {i j : Nat} {p q : Gst} (hi : L[i]? = some p) (hj : L[j]? = some q) (h : i < j) : p.task ≠ q.task := by
  intro e
  obtain ⟨hil, rfl⟩ := List.getElem?_eq_some_iff.1 hi
  obtain ⟨hjl, rfl⟩ := List.getElem?_eq_some_iff.1 hj
  have := (List.getElem_inj (h₀ := by simpa using hil) (h₁ := by simpa using hjl) hn).1 (show (L.map (·.task))[i]'(by simpa using hil) = (L.map (·.task))[j]'(by simpa using hjl) by simpa using e)
  omega
theorem needG_bd {r : Nat} {L : List Gst} (h : ∀ z ∈ L, 0 ≤ comp r z.need ∧ comp r z.need ≤ 1099511627776) : 0 ≤ needG r L ∧ needG r L ≤ L.length * 1099511627776 := by
  induction L with
  | nil => simp [needG]
  | cons a l ih =>
    have h1 := h a (List.mem_cons_self ..)
    have h2 := ih fun z hz => h z (List.mem_cons_of_mem _ hz)
    have h3 : needG r (a :: l) = comp r a.need + needG r l := by simp [needG]
    rw [h3, List.length_cons]
    omega
/-- A vector in the middle of an addition. -/
def addTo (m : Nat) (x y : V4) : V4 := ⟨if 0 < m then x.a + y.a else x.a, if 1 < m then x.b + y.b else x.b, if 2 < m then x.c + y.c else x.c, if 3 < m then x.d + y.d else x.d⟩
theorem addTo_zero (x y : V4) : addTo 0 x y = x := rfl
theorem addTo_four (x y : V4) : addTo 4 x y = ⟨x.a + y.a, x.b + y.b, x.c + y.c, x.d + y.d⟩ := rfl
set_option maxRecDepth 100000 in
set_option maxHeartbeats 12800000 in
theorem victimFair_any (s : Nat → Addr) (A : Option Addr) (c : Nat) (H : List Hst) (x : V4) (band : Int) (As : Option Addr) (cs : Nat) (S : List Spr) (w : World) (hs : Sent s w) (h : HostsIn w A H) (hl : H.length ≤ 9223372036854775807) (hn : ∀ h ∈ H, h.on.length ≤ 9223372036854775807) (hsp : ReadsE encSpr w As S) (hsl : S.length ≤ 9223372036854775807) (hsj : ∀ s ∈ S, i64 s.job) :
    Calls Tryd.prog 3 #[.slice A H.length c, .agg #[.int .i64 x.a, .int .i64 x.b, .int .i64 x.c, .int .i64 x.d], .int .i64 band, .slice As S.length cs] w fun e w' => e = .returned (.bool true) ∧ Below w.heap.size w w' := by
  obtain ⟨g5, hg5⟩ : ∃ g5, w.heap.size = g5 := ⟨_, rfl⟩
  obtain ⟨W1, hW1⟩ : ∃ W1, w.alloc (.cells #[.int .i64 x.a, .int .i64 x.b, .int .i64 x.c, .int .i64 x.d] 24) = W1 := ⟨_, rfl⟩
  have hb1 : Below w.heap.size w W1 := by rw [← hW1]; exact (Below.refl _ _).alloc (Nat.le_refl _) _
  have HX1 : Hid (W1.heap[g5]? = some (.cells #[.int .i64 x.a, .int .i64 x.b, .int .i64 x.c, .int .i64 x.d] 24 (0, 0))) := Lib.hid (by rw [← hW1, ← hg5]; exact heap_alloc_new _ _)
  have HS := Lib.hid hs
  have HH := Lib.hid h
  have HSP := Lib.hid hsp
  have HSJ := Lib.hid hsj
  have HB1 := Lib.hid hb1
  have HAW := Lib.hid (awake20_c s W1 (hs.below hb1 (Nat.le_refl _)))
  have HGR : Hid (∀ W, Below w.heap.size w W → Calls Tryd.prog 6 #[.slice A H.length c] W fun e w' => e = .returned (.bool (greatH H)) ∧ Below W.heap.size W w') := Lib.hid fun W hb => great_c A c H W (h.on hb) hl hn
  have HW1 := Lib.hid hW1
  have HG := Lib.hid hg5
  clear hs h hb1 hW1 hg5 hn hsp hsj
  go_enter Tryd.func3, Tryd.ntmps3
  go_upto_region 1 with fail
  rw [HG.out, HW1.out]
  go_wp2_with fail
  refine HAW.out.mono ?_
  rintro e w2 ⟨rfl, b2⟩
  have HB2 : Hid (Below w.heap.size w w2) := Lib.hid (HB1.out.trans (b2.mono HB1.out.size))
  have HX2 := Lib.hid ((b2.block g5 (lt_of_row HX1.out)).trans HX1.out)
  clear b2
  go_wp2_with fail
  refine (HGR.out _ HB2.out).mono ?_
  rintro e w3 ⟨rfl, b3⟩
  have HB3 : Hid (Below w.heap.size w w3) := Lib.hid (HB2.out.trans (b3.mono HB2.out.size))
  have HX3 := Lib.hid ((b3.block g5 (lt_of_row HX2.out)).trans HX2.out)
  clear b3
  cases hgr : greatH H with
  | true =>
    go_wp2_with fail
    go_ret
    exact ⟨rfl, HB3.out⟩
  | false =>
    have HAT := Lib.hid (HH.out.at hgr)
    clear hgr hl
    have hl10 : H.length ≤ 10 := HAT.out.all
    by_cases hs20 : 20 < S.length
    · have hs20z : (20 : Int) < (S.length : Int) := by omega
      go_wp2_with fail
      go_ret
      exact ⟨rfl, HB3.out⟩
    · have hs20z : ¬ (20 : Int) < (S.length : Int) := by omega
      go_upto_block 0 with fail
      go_cut [9] (fun v wx => v = .bool (freeH x H) ∧ (∀ h ∈ H, (h.on.map (·.task)).Nodup) ∧ Below w.heap.size w wx ∧ wx.heap[g5]? = some (.cells #[.int .i64 x.a, .int .i64 x.b, .int .i64 x.c, .int .i64 x.d] 24 (0, 0)))
      case first =>
        go_upto_region 7 with fail
        go_loopg [9, 10] H.length (fun gk s9 s10 wr => ∃ (i : Nat), s10 = .int .i64 i ∧ s9 = .bool (freeH x (H.take i)) ∧ i ≤ H.length ∧ H.length - i ≤ gk ∧ Aside ((∀ h ∈ H.take i, (h.on.map (·.task)).Nodup) ∧ Below w.heap.size w wr ∧ wr.heap[g5]? = some (.cells #[.int .i64 x.a, .int .i64 x.b, .int .i64 x.c, .int .i64 x.d] 24 (0, 0))))
        case atStart => exact ⟨0, rfl, rfl, Nat.zero_le _, Nat.le_refl _, (fun h hh => absurd hh (by simp)), HB3.out, HX3.out⟩
        case round =>
          obtain ⟨i, rfl, rfl, hi, hgi, IN⟩ := hrel
          clear HB3 HX3
          have HND := Lib.hid IN.out.1
          have HB3 := Lib.hid IN.out.2.1
          have HX3 := Lib.hid IN.out.2.2
          clear IN
          by_cases hlt : i < H.length
          · obtain ⟨y, hy⟩ : ∃ y, H[i]? = some y := ⟨_, List.getElem?_eq_getElem hlt⟩
            obtain ⟨ad, q, rfl, had, hq, hc⟩ := HH.out.row i y hy
            have hym : y ∈ H := List.mem_of_getElem? hy
            have hltz : (i : Int) < (H.length : Int) := by omega
            have hi0 : (0 : Int) ≤ (i : Int) := by omega
            have HTK : Hid (H.take (i + 1) = H.take i ++ [y]) := Lib.hid (by rw [List.take_add_one, hy, Option.toList_some])
            have HLV : Hid (∀ W, Below w.heap.size w W → ∀ r u, (encHst.enc y)[r]? = some u → W.cell? (q.add r) = some u) := Lib.hid fun W hW r u hu => (hW.cell (p := q.add r) (by rw [block_add16]; exact hq)).trans (hc r u hu)
            have HQL : Hid (∀ W, Below w.heap.size w W → q.block < W.heap.size) := Lib.hid fun W hW => Nat.lt_of_lt_of_le hq hW.size
            have hyl := HAT.out.few y hym
            have HEY := Lib.hid (HH.out.each y hym)
            obtain ⟨id, l, on, A', c'⟩ := y
            simp only at hyl HEY
            clear hy hq hc hym
            obtain ⟨f, hf⟩ : ∃ f, freeH x (H.take i) = f := ⟨_, rfl⟩
            rw [hf]
            have HFT : Hid (freeH x (H.take (i + 1)) = (f || fitsV x l)) := Lib.hid (by rw [HTK.out, ← hf]; simp [freeH, List.any_append])
            clear hf
            have hn4 := HX3.out
            have HN9 : Hid (∀ W, Below wr.heap.size wr W → W.cell? ⟨g5, 0, none⟩ = some (.int .i64 x.a) ∧ W.cell? ⟨g5, 1, none⟩ = some (.int .i64 x.b) ∧ W.cell? ⟨g5, 2, none⟩ = some (.int .i64 x.c) ∧ W.cell? ⟨g5, 3, none⟩ = some (.int .i64 x.d)) := Lib.hid fun W hW => by
              have h := (hW.block g5 (lt_of_row hn4)).trans hn4
              exact ⟨cell_of_heap h 0, cell_of_heap h 1, cell_of_heap h 2, cell_of_heap h 3⟩
            have HL9 : Hid (∀ W, Below wr.heap.size wr W → W.cell? ⟨q.block, q.off + 1, none⟩ = some (.int .i64 l.a) ∧ W.cell? ⟨q.block, q.off + 2, none⟩ = some (.int .i64 l.b) ∧ W.cell? ⟨q.block, q.off + 3, none⟩ = some (.int .i64 l.c) ∧ W.cell? ⟨q.block, q.off + 4, none⟩ = some (.int .i64 l.d)) := Lib.hid fun W hW => by
              have hb := HB3.out.trans (hW.mono HB3.out.size)
              exact ⟨HLV.out W hb 1 _ rfl, HLV.out W hb 2 _ rfl, HLV.out W hb 3 _ rfl, HLV.out W hb 4 _ rfl⟩
            clear hn4
            go_upto_region 9 with fail
            go_cut [9] (fun v wx => v = .bool (f || fitsV x l) ∧ Below w.heap.size w wx ∧ wx.heap[g5]? = some (.cells #[.int .i64 x.a, .int .i64 x.b, .int .i64 x.c, .int .i64 x.d] 24 (0, 0)))
            case first =>
              cases f with
              | true =>
                refine wp_region_held_drew (S := fun W => Below wr.heap.size wr W) (by kernel_rfl) ((Below.refl _ _).drew) (fun hHeld => ?_)
                refine rg_take 0 (some 43) _ (by kernel_rfl) (by kernel_rfl) (by kernel_rfl) (fun _ _ _ h => h) (by kernel_rfl) (by kernel_rfl) (by intro w' hSw op_ ho; simp only [List.getElem?_toArray, List.getElem?_cons_zero, Option.some.injEq] at ho; subst ho; go_simp; with_reducible rfl) (by assumption) ?_
                try simp only [Act.put, List.setIfInBounds_toArray, List.set_cons_zero, List.set_cons_succ]
                refine rg_take 1 (some 44) _ (by kernel_rfl) (by kernel_rfl) (by kernel_rfl) (fun _ _ _ h => h) (by kernel_rfl) (by kernel_rfl) (by intro w' hSw op_ ho; simp only [List.getElem?_toArray, List.getElem?_cons_succ, List.getElem?_cons_zero, Option.some.injEq] at ho; subst ho; go_simp; with_reducible rfl) (by assumption) ?_
                try simp only [Act.put, List.setIfInBounds_toArray, List.set_cons_zero, List.set_cons_succ]
                refine rg_skip 2 (some 45) (by kernel_rfl) (by kernel_rfl) (by kernel_rfl) (fun _ _ _ h => h) (by kernel_rfl) (by kernel_rfl) (by assumption) ?_
                try simp only [Act.put, List.setIfInBounds_toArray, List.set_cons_zero, List.set_cons_succ]
                refine rg_skip 3 (some 46) (by kernel_rfl) (by kernel_rfl) (by kernel_rfl) (fun _ _ _ h => h) (by kernel_rfl) (by kernel_rfl) (by assumption) ?_
                try simp only [Act.put, List.setIfInBounds_toArray, List.set_cons_zero, List.set_cons_succ]
                refine rg_skip 4 (some 47) (by kernel_rfl) (by kernel_rfl) (by kernel_rfl) (fun _ _ _ h => h) (by kernel_rfl) (by kernel_rfl) (by assumption) ?_
                try simp only [Act.put, List.setIfInBounds_toArray, List.set_cons_zero, List.set_cons_succ]
                refine rg_skip 5 (some 48) (by kernel_rfl) (by kernel_rfl) (by kernel_rfl) (fun _ _ _ h => h) (by kernel_rfl) (by kernel_rfl) (by assumption) ?_
                try simp only [Act.put, List.setIfInBounds_toArray, List.set_cons_zero, List.set_cons_succ]
                refine rg_skip 6 (some 49) (by kernel_rfl) (by kernel_rfl) (by kernel_rfl) (fun _ _ _ h => h) (by kernel_rfl) (by kernel_rfl) (by assumption) ?_
                try simp only [Act.put, List.setIfInBounds_toArray, List.set_cons_zero, List.set_cons_succ]
                refine rg_skip 7 (some 50) (by kernel_rfl) (by kernel_rfl) (by kernel_rfl) (fun _ _ _ h => h) (by kernel_rfl) (by kernel_rfl) (by assumption) ?_
                try simp only [Act.put, List.setIfInBounds_toArray, List.set_cons_zero, List.set_cons_succ]
                refine rg_skip 8 (some 51) (by kernel_rfl) (by kernel_rfl) (by kernel_rfl) (fun _ _ _ h => h) (by kernel_rfl) (by kernel_rfl) (by assumption) ?_
                try simp only [Act.put, List.setIfInBounds_toArray, List.set_cons_zero, List.set_cons_succ]
                refine rg_take 9 (some 52) _ (by kernel_rfl) (by kernel_rfl) (by kernel_rfl) (fun _ _ _ h => h) (by kernel_rfl) (by kernel_rfl) (by intro w' hSw op_ ho; simp only [List.getElem?_toArray, List.getElem?_cons_succ, List.getElem?_cons_zero, Option.some.injEq] at ho; subst ho; go_simp; with_reducible rfl) (by assumption) ?_
                try simp only [Act.put, List.setIfInBounds_toArray, List.set_cons_zero, List.set_cons_succ]
                refine rg_take 10 (some 9) _ (by kernel_rfl) (by kernel_rfl) (by kernel_rfl) (fun _ _ _ h => h) (by kernel_rfl) (by kernel_rfl) (by intro w' hSw op_ ho; simp only [List.getElem?_toArray, List.getElem?_cons_succ, List.getElem?_cons_zero, Option.some.injEq] at ho; subst ho; go_simp; with_reducible rfl) (by assumption) ?_
                try simp only [Act.put, List.setIfInBounds_toArray, List.set_cons_zero, List.set_cons_succ]
                refine wpAnyH_done (by kernel_rfl) ?_ _
                go_wp2_with fail
                go_meet
                exact ⟨rfl, HB3.out.trans (hHeld.mono HB3.out.size), (hHeld.block g5 (lt_of_row HX3.out)).trans HX3.out⟩
              | false =>
                refine wp_region_held_drew (S := fun W => Below wr.heap.size wr W) (by kernel_rfl) ((Below.refl _ _).drew) (fun hHeld => ?_)
                refine rg_take 0 (some 43) _ (by kernel_rfl) (by kernel_rfl) (by kernel_rfl) (fun _ _ _ h => h) (by kernel_rfl) (by kernel_rfl) (by intro w' hSw op_ ho; simp only [List.getElem?_toArray, List.getElem?_cons_zero, Option.some.injEq] at ho; subst ho; go_simp; with_reducible rfl) (by assumption) ?_
                try simp only [Act.put, List.setIfInBounds_toArray, List.set_cons_zero, List.set_cons_succ]
                refine rg_take 1 (some 44) _ (by kernel_rfl) (by kernel_rfl) (by kernel_rfl) (fun _ _ _ h => h) (by kernel_rfl) (by kernel_rfl) (by intro w' hSw op_ ho; simp only [List.getElem?_toArray, List.getElem?_cons_succ, List.getElem?_cons_zero, Option.some.injEq] at ho; subst ho; go_simp; with_reducible rfl) (by assumption) ?_
                try simp only [Act.put, List.setIfInBounds_toArray, List.set_cons_zero, List.set_cons_succ]
                refine rg_take 2 (some 45) _ (by kernel_rfl) (by kernel_rfl) (by kernel_rfl) (fun _ _ _ h => h) (by kernel_rfl) (by kernel_rfl) (by intro w' hSw op_ ho; simp only [List.getElem?_toArray, List.getElem?_cons_succ, List.getElem?_cons_zero, Option.some.injEq] at ho; subst ho; obtain ⟨n0, n1, n2, n3⟩ := HN9.out _ hSw; go_simp; with_reducible rfl) (by assumption) ?_
                try simp only [Act.put, List.setIfInBounds_toArray, List.set_cons_zero, List.set_cons_succ]
                refine rg_take 3 (some 46) _ (by kernel_rfl) (by kernel_rfl) (by kernel_rfl) (fun _ _ _ h => h) (by kernel_rfl) (by kernel_rfl) (by intro w' hSw op_ ho; simp only [List.getElem?_toArray, List.getElem?_cons_succ, List.getElem?_cons_zero, Option.some.injEq] at ho; subst ho; go_simp; with_reducible rfl) (by assumption) ?_
                try simp only [Act.put, List.setIfInBounds_toArray, List.set_cons_zero, List.set_cons_succ]
                refine rg_take 4 (some 47) _ (by kernel_rfl) (by kernel_rfl) (by kernel_rfl) (fun _ _ _ h => h) (by kernel_rfl) (by kernel_rfl) (by intro w' hSw op_ ho; simp only [List.getElem?_toArray, List.getElem?_cons_succ, List.getElem?_cons_zero, Option.some.injEq] at ho; subst ho; go_simp; with_reducible rfl) (by assumption) ?_
                try simp only [Act.put, List.setIfInBounds_toArray, List.set_cons_zero, List.set_cons_succ]
                refine rg_take 5 (some 48) _ (by kernel_rfl) (by kernel_rfl) (by kernel_rfl) (fun _ _ _ h => h) (by kernel_rfl) (by kernel_rfl) (by intro w' hSw op_ ho; simp only [List.getElem?_toArray, List.getElem?_cons_succ, List.getElem?_cons_zero, Option.some.injEq] at ho; subst ho; go_simp; with_reducible rfl) (by assumption) ?_
                try simp only [Act.put, List.setIfInBounds_toArray, List.set_cons_zero, List.set_cons_succ]
                refine rg_take 6 (some 49) _ (by kernel_rfl) (by kernel_rfl) (by kernel_rfl) (fun _ _ _ h => h) (by kernel_rfl) (by kernel_rfl) (by intro w' hSw op_ ho; simp only [List.getElem?_toArray, List.getElem?_cons_succ, List.getElem?_cons_zero, Option.some.injEq] at ho; subst ho; go_simp; with_reducible rfl) (by assumption) ?_
                try simp only [Act.put, List.setIfInBounds_toArray, List.set_cons_zero, List.set_cons_succ]
                refine rg_take 7 (some 50) _ (by kernel_rfl) (by kernel_rfl) (by kernel_rfl) (fun _ _ _ h => h) (by kernel_rfl) (by kernel_rfl) (by intro w' hSw op_ ho; simp only [List.getElem?_toArray, List.getElem?_cons_succ, List.getElem?_cons_zero, Option.some.injEq] at ho; subst ho; obtain ⟨l1, l2, l3, l4⟩ := HL9.out _ hSw; go_simp; with_reducible rfl) (by assumption) ?_
                try simp only [Act.put, List.setIfInBounds_toArray, List.set_cons_zero, List.set_cons_succ]
                refine rg_one 8 (by kernel_rfl) (by kernel_rfl) (fun op_ ho KK hK => ?_)
                simp only [List.getElem?_toArray, List.getElem?_cons_succ, List.getElem?_cons_zero, Option.some.injEq] at ho
                subst ho
                go_simp
                go_at_call 7
                refine (lfits_c x l _).mono ?_
                rintro e w9 ⟨rfl, b9⟩
                have S9 := Lib.hid (hHeld.trans (b9.mono hHeld.size))
                clear b9
                go_wp2_with fail
                refine hK.out _ _ S9.out (fun hHeld => ?_)
                clear hK
                try simp only [Act.put, List.setIfInBounds_toArray, List.set_cons_zero, List.set_cons_succ]
                refine rg_take 9 (some 52) _ (by kernel_rfl) (by kernel_rfl) (by kernel_rfl) (fun _ _ _ h => h) (by kernel_rfl) (by kernel_rfl) (by intro w' hSw op_ ho; simp only [List.getElem?_toArray, List.getElem?_cons_succ, List.getElem?_cons_zero, Option.some.injEq] at ho; subst ho; go_simp; with_reducible rfl) (by assumption) ?_
                try simp only [Act.put, List.setIfInBounds_toArray, List.set_cons_zero, List.set_cons_succ]
                refine rg_take 10 (some 9) _ (by kernel_rfl) (by kernel_rfl) (by kernel_rfl) (fun _ _ _ h => h) (by kernel_rfl) (by kernel_rfl) (by intro w' hSw op_ ho; simp only [List.getElem?_toArray, List.getElem?_cons_succ, List.getElem?_cons_zero, Option.some.injEq] at ho; subst ho; go_simp; with_reducible rfl) (by assumption) ?_
                try simp only [Act.put, List.setIfInBounds_toArray, List.set_cons_zero, List.set_cons_succ]
                refine wpAnyH_done (by kernel_rfl) ?_ _
                go_wp2_with fail
                go_meet
                exact ⟨by rw [Bool.false_or], HB3.out.trans (hHeld.mono HB3.out.size), (hHeld.block g5 (lt_of_row HX3.out)).trans HX3.out⟩
            case rest =>
            obtain ⟨rfl, hb4, hx4⟩ := hcut
            clear HB3 HX3 HN9 HL9
            have HB3 := Lib.hid hb4
            have HX3 := Lib.hid hx4
            clear hb4 hx4
            go_upto_region 11 with fail
            go_loopg [11] on.length (fun gk s11 wr => ∃ (k : Nat), s11 = .int .i64 k ∧ k ≤ on.length ∧ on.length - k ≤ gk ∧ Aside (((on.take k).map (·.task)).Nodup ∧ Below w.heap.size w wr ∧ wr.heap[g5]? = some (.cells #[.int .i64 x.a, .int .i64 x.b, .int .i64 x.c, .int .i64 x.d] 24 (0, 0))))
            case atStart => exact ⟨0, rfl, Nat.zero_le _, Nat.le_refl _, List.nodup_nil, HB3.out, HX3.out⟩
            case round =>
              obtain ⟨k, rfl, hk, hgk, IN⟩ := hrel
              clear HB3 HX3
              have HNK := Lib.hid IN.out.1
              have HB3 := Lib.hid IN.out.2.1
              have HX3 := Lib.hid IN.out.2.2
              clear IN
              have v5 : wr.cell? ⟨q.block, q.off + 5, none⟩ = some (.slice A' on.length c') := HLV.out wr HB3.out 5 _ rfl
              have hpl := HQL.out wr HB3.out
              by_cases hlt2 : k < on.length
              · obtain ⟨g, hg⟩ : ∃ g, on[k]? = some g := ⟨_, List.getElem?_eq_getElem hlt2⟩
                obtain ⟨ad2, q2, rfl, had2, hq2, hc2⟩ := HEY.out k g hg
                have hltz2 : (k : Int) < (on.length : Int) := by omega
                have hk0 : (0 : Int) ≤ (k : Int) := by omega
                have HTK2 : Hid (on.take (k + 1) = on.take k ++ [g]) := Lib.hid (by rw [List.take_add_one, hg, Option.toList_some])
                have HG2 : Hid (∀ W, Below w.heap.size w W → ∀ r u, (encGst.enc g)[r]? = some u → W.cell? (q2.add r) = some u) := Lib.hid fun W hW r u hu => (hW.cell (p := q2.add r) (by rw [block_add16]; exact hq2)).trans (hc2 r u hu)
                have HQ2 : Hid (∀ W, Below w.heap.size w W → q2.block < W.heap.size) := Lib.hid fun W hW => Nat.lt_of_lt_of_le hq2 hW.size
                have HGK := Lib.hid hg
                clear hg hq2 hc2
                go_upto_block 4 with fail
                go_cut [] (fun wx => Below w.heap.size w wx ∧ wx.heap[g5]? = some (.cells #[.int .i64 x.a, .int .i64 x.b, .int .i64 x.c, .int .i64 x.d] 24 (0, 0)))
                case first =>
                  go_upto_region 14 with fail
                  go_loopg [12] 4 (fun gk s12 wr => ∃ (j : Nat), s12 = .int .i64 j ∧ j ≤ 4 ∧ 4 - j ≤ gk ∧ Aside (Below w.heap.size w wr ∧ wr.heap[g5]? = some (.cells #[.int .i64 x.a, .int .i64 x.b, .int .i64 x.c, .int .i64 x.d] 24 (0, 0))))
                  case atStart => exact ⟨0, rfl, Nat.zero_le _, Nat.le_refl _, HB3.out, HX3.out⟩
                  case round =>
                    obtain ⟨j, rfl, hj, hgj, IN⟩ := hrel
                    clear HB3 HX3 v5 hpl
                    have HB3 := Lib.hid IN.out.1
                    have HX3 := Lib.hid IN.out.2
                    clear IN
                    by_cases hlt3 : j < 4
                    · have hltz3 : (j : Int) < 4 := by omega
                      have hj0 : (0 : Int) ≤ (j : Int) := by omega
                      obtain ⟨nj, hnj⟩ : ∃ n, (encGst.enc g)[4 + j]? = some (.int .i64 n) := by
                        match j, hlt3 with
                        | 0, _ => exact ⟨_, rfl⟩
                        | 1, _ => exact ⟨_, rfl⟩
                        | 2, _ => exact ⟨_, rfl⟩
                        | 3, _ => exact ⟨_, rfl⟩
                      obtain ⟨lj, hlj⟩ : ∃ n, (encHst.enc ⟨id, l, on, some ad2, c'⟩)[1 + j]? = some (.int .i64 n) := by
                        match j, hlt3 with
                        | 0, _ => exact ⟨_, rfl⟩
                        | 1, _ => exact ⟨_, rfl⟩
                        | 2, _ => exact ⟨_, rfl⟩
                        | 3, _ => exact ⟨_, rfl⟩
                      have v5 : wr.cell? ⟨q.block, q.off + 5, none⟩ = some (.slice (some ad2) on.length c') := HLV.out wr HB3.out 5 _ rfl
                      have hpl := HQL.out wr HB3.out
                      have hpl2 := HQ2.out wr HB3.out
                      have e1 : wr.cell? ⟨q2.block, q2.off + 4 + j, none⟩ = some (.int .i64 nj) := by
                        have h := HG2.out wr HB3.out (4 + j) _ hnj
                        rw [show q2.add (4 + j) = ⟨q2.block, q2.off + (4 + j), none⟩ from by unfold Addr.add; rw [if_neg (by omega)], ← Nat.add_assoc] at h
                        exact h
                      have e2 : wr.cell? ⟨q.block, q.off + 1 + j, none⟩ = some (.int .i64 lj) := by
                        have h := HLV.out wr HB3.out (1 + j) _ hlj
                        rw [show q.add (1 + j) = ⟨q.block, q.off + (1 + j), none⟩ from by unfold Addr.add; rw [if_neg (by omega)], ← Nat.add_assoc] at h
                        exact h
                      clear hnj hlj
                      by_cases k1 : 1073741824 < nj
                      · go_wp2_with fail
                        go_ret
                        exact ⟨rfl, HB3.out⟩
                      · by_cases k2 : 1073741824 < lj
                        · go_wp2_with fail
                          go_ret
                          exact ⟨rfl, HB3.out⟩
                        · go_wp2_with fail
                          go_roundg (4 - (j + 1))
                          case measure => omega
                          case rel => exact ⟨j + 1, by go_num, by omega, Nat.le_refl _, HB3.out, HX3.out⟩
                    · obtain rfl : j = 4 := by omega
                      go_wp2_with fail
                      go_meet
                      exact ⟨HB3.out, HX3.out⟩
                case rest =>
                obtain ⟨hb4, hx4⟩ := hcut
                clear HB3 HX3 v5 hpl
                have HB3 := Lib.hid hb4
                have HX3 := Lib.hid hx4
                clear hb4 hx4
                go_upto_region 19 with fail
                go_loopg [13] k (fun gk s13 wr => ∃ (j : Nat), s13 = .int .i64 j ∧ j ≤ k ∧ k - j ≤ gk ∧ Aside ((∀ j' t, j' < j → on[j']? = some t → t.task ≠ g.task) ∧ Below w.heap.size w wr ∧ wr.heap[g5]? = some (.cells #[.int .i64 x.a, .int .i64 x.b, .int .i64 x.c, .int .i64 x.d] 24 (0, 0))))
                case atStart => exact ⟨0, rfl, Nat.zero_le _, Nat.le_refl _, (fun j t h => absurd h (Nat.not_lt_zero _)), HB3.out, HX3.out⟩
                case round =>
                  obtain ⟨j, rfl, hj, hgj, IN⟩ := hrel
                  clear HB3 HX3
                  have HNJ := Lib.hid IN.out.1
                  have HB3 := Lib.hid IN.out.2.1
                  have HX3 := Lib.hid IN.out.2.2
                  clear IN
                  by_cases hlt3 : j < k
                  · have hltz3 : (j : Int) < (k : Int) := by omega
                    have hj0 : (0 : Int) ≤ (j : Int) := by omega
                    have hjn : (j : Int) < (on.length : Int) := by omega
                    obtain ⟨t, ht⟩ : ∃ t, on[j]? = some t := ⟨_, List.getElem?_eq_getElem (by omega)⟩
                    obtain ⟨ad3, q3, hA3, had3, hq3, hc3⟩ := HEY.out j t ht
                    obtain rfl := Option.some.inj hA3
                    have v5 : wr.cell? ⟨q.block, q.off + 5, none⟩ = some (.slice (some ad2) on.length c') := HLV.out wr HB3.out 5 _ rfl
                    have hpl := HQL.out wr HB3.out
                    have hpl2 := HQ2.out wr HB3.out
                    have hpl3 : q3.block < wr.heap.size := Nat.lt_of_lt_of_le hq3 HB3.out.size
                    have a0 : wr.cell? q2 = some (.int .i64 g.task.job) := (congrArg wr.cell? (add_zeroE q2).symm).trans (HG2.out wr HB3.out 0 _ rfl)
                    have a1 : wr.cell? ⟨q2.block, q2.off + 1, none⟩ = some (.int .i64 g.task.ix) := HG2.out wr HB3.out 1 _ rfl
                    have b0 : wr.cell? q3 = some (.int .i64 t.task.job) := (HB3.out.cell (p := q3) hq3).trans ((congrArg w.cell? (add_zeroE q3).symm).trans (hc3 0 _ rfl))
                    have b1 : wr.cell? ⟨q3.block, q3.off + 1, none⟩ = some (.int .i64 t.task.ix) := (HB3.out.cell (p := ⟨q3.block, q3.off + 1, none⟩) hq3).trans (hc3 1 _ rfl)
                    have HTJ := Lib.hid ht
                    have hE := eqTk t.task g.task
                    clear ht hq3 hc3
                    by_cases heq : t.task = g.task
                    · rw [decide_eq_true heq] at hE
                      clear heq
                      go_upto_region 21 with fail
                      refine wp_region_held_drew (S := fun W => W = wr.drew) (by kernel_rfl) rfl (fun hHeld => ?_)
                      refine rg_take 0 (some 94) _ (by kernel_rfl) (by kernel_rfl) (by kernel_rfl) (fun _ _ _ h => h) (by kernel_rfl) (by kernel_rfl) (by intro w' hSw op_ ho; simp only [List.getElem?_toArray, List.getElem?_cons_zero, Option.some.injEq] at ho; subst ho; subst hSw; go_simp; with_reducible rfl) (by assumption) ?_
                      try simp only [Act.put, List.setIfInBounds_toArray, List.set_cons_zero, List.set_cons_succ]
                      refine rg_take 1 (some 95) _ (by kernel_rfl) (by kernel_rfl) (by kernel_rfl) (fun _ _ _ h => h) (by kernel_rfl) (by kernel_rfl) (by intro w' hSw op_ ho; simp only [List.getElem?_toArray, List.getElem?_cons_succ, List.getElem?_cons_zero, Option.some.injEq] at ho; subst ho; subst hSw; go_simp; with_reducible rfl) (by assumption) ?_
                      try simp only [Act.put, List.setIfInBounds_toArray, List.set_cons_zero, List.set_cons_succ]
                      refine rg_take 2 (some 96) _ (by kernel_rfl) (by kernel_rfl) (by kernel_rfl) (fun _ _ _ h => h) (by kernel_rfl) (by kernel_rfl) (by intro w' hSw op_ ho; simp only [List.getElem?_toArray, List.getElem?_cons_succ, List.getElem?_cons_zero, Option.some.injEq] at ho; subst ho; subst hSw; go_simp; with_reducible rfl) (by assumption) ?_
                      try simp only [Act.put, List.setIfInBounds_toArray, List.set_cons_zero, List.set_cons_succ]
                      refine rg_take 3 (some 97) _ (by kernel_rfl) (by kernel_rfl) (by kernel_rfl) (fun _ _ _ h => h) (by kernel_rfl) (by kernel_rfl) (by intro w' hSw op_ ho; simp only [List.getElem?_toArray, List.getElem?_cons_succ, List.getElem?_cons_zero, Option.some.injEq] at ho; subst ho; subst hSw; go_simp; with_reducible rfl) (by assumption) ?_
                      try simp only [Act.put, List.setIfInBounds_toArray, List.set_cons_zero, List.set_cons_succ]
                      refine rg_take 4 (some 98) _ (by kernel_rfl) (by kernel_rfl) (by kernel_rfl) (fun _ _ _ h => h) (by kernel_rfl) (by kernel_rfl) (by intro w' hSw op_ ho; simp only [List.getElem?_toArray, List.getElem?_cons_succ, List.getElem?_cons_zero, Option.some.injEq] at ho; subst ho; subst hSw; go_simp; with_reducible rfl) (by assumption) ?_
                      try simp only [Act.put, List.setIfInBounds_toArray, List.set_cons_zero, List.set_cons_succ]
                      refine rg_take 5 (some 99) _ (by kernel_rfl) (by kernel_rfl) (by kernel_rfl) (fun _ _ _ h => h) (by kernel_rfl) (by kernel_rfl) (by intro w' hSw op_ ho; simp only [List.getElem?_toArray, List.getElem?_cons_succ, List.getElem?_cons_zero, Option.some.injEq] at ho; subst ho; subst hSw; go_simp; with_reducible rfl) (by assumption) ?_
                      try simp only [Act.put, List.setIfInBounds_toArray, List.set_cons_zero, List.set_cons_succ]
                      refine rg_take 6 (some 100) _ (by kernel_rfl) (by kernel_rfl) (by kernel_rfl) (fun _ _ _ h => h) (by kernel_rfl) (by kernel_rfl) (by intro w' hSw op_ ho; simp only [List.getElem?_toArray, List.getElem?_cons_succ, List.getElem?_cons_zero, Option.some.injEq] at ho; subst ho; subst hSw; go_simp; with_reducible rfl) (by assumption) ?_
                      try simp only [Act.put, List.setIfInBounds_toArray, List.set_cons_zero, List.set_cons_succ]
                      refine rg_take 7 (some 101) _ (by kernel_rfl) (by kernel_rfl) (by kernel_rfl) (fun _ _ _ h => h) (by kernel_rfl) (by kernel_rfl) (by intro w' hSw op_ ho; simp only [List.getElem?_toArray, List.getElem?_cons_succ, List.getElem?_cons_zero, Option.some.injEq] at ho; subst ho; subst hSw; go_simp; with_reducible rfl) (by assumption) ?_
                      try simp only [Act.put, List.setIfInBounds_toArray, List.set_cons_zero, List.set_cons_succ]
                      refine rg_take 8 (some 102) _ (by kernel_rfl) (by kernel_rfl) (by kernel_rfl) (fun _ _ _ h => h) (by kernel_rfl) (by kernel_rfl) (by intro w' hSw op_ ho; simp only [List.getElem?_toArray, List.getElem?_cons_succ, List.getElem?_cons_zero, Option.some.injEq] at ho; subst ho; subst hSw; go_simp; with_reducible rfl) (by assumption) ?_
                      try simp only [Act.put, List.setIfInBounds_toArray, List.set_cons_zero, List.set_cons_succ]
                      refine rg_take 9 (some 103) _ (by kernel_rfl) (by kernel_rfl) (by kernel_rfl) (fun _ _ _ h => h) (by kernel_rfl) (by kernel_rfl) (by intro w' hSw op_ ho; simp only [List.getElem?_toArray, List.getElem?_cons_succ, List.getElem?_cons_zero, Option.some.injEq] at ho; subst ho; subst hSw; go_simp; with_reducible rfl) (by assumption) ?_
                      try simp only [Act.put, List.setIfInBounds_toArray, List.set_cons_zero, List.set_cons_succ]
                      refine rg_take 10 (some 104) _ (by kernel_rfl) (by kernel_rfl) (by kernel_rfl) (fun _ _ _ h => h) (by kernel_rfl) (by kernel_rfl) (by intro w' hSw op_ ho; simp only [List.getElem?_toArray, List.getElem?_cons_succ, List.getElem?_cons_zero, Option.some.injEq] at ho; subst ho; subst hSw; go_simp; with_reducible rfl) (by assumption) ?_
                      try simp only [Act.put, List.setIfInBounds_toArray, List.set_cons_zero, List.set_cons_succ]
                      refine rg_take 11 (some 105) _ (by kernel_rfl) (by kernel_rfl) (by kernel_rfl) (fun _ _ _ h => h) (by kernel_rfl) (by kernel_rfl) (by intro w' hSw op_ ho; simp only [List.getElem?_toArray, List.getElem?_cons_succ, List.getElem?_cons_zero, Option.some.injEq] at ho; subst ho; subst hSw; go_simp; with_reducible rfl) (by assumption) ?_
                      try simp only [Act.put, List.setIfInBounds_toArray, List.set_cons_zero, List.set_cons_succ]
                      refine rg_take 12 (some 106) _ (by kernel_rfl) (by kernel_rfl) (by kernel_rfl) (fun _ _ _ h => h) (by kernel_rfl) (by kernel_rfl) (by intro w' hSw op_ ho; simp only [List.getElem?_toArray, List.getElem?_cons_succ, List.getElem?_cons_zero, Option.some.injEq] at ho; subst ho; subst hSw; go_simp; with_reducible rfl) (by assumption) ?_
                      try simp only [Act.put, List.setIfInBounds_toArray, List.set_cons_zero, List.set_cons_succ]
                      refine rg_take 13 (some 107) _ (by kernel_rfl) (by kernel_rfl) (by kernel_rfl) (fun _ _ _ h => h) (by kernel_rfl) (by kernel_rfl) (by intro w' hSw op_ ho; simp only [List.getElem?_toArray, List.getElem?_cons_succ, List.getElem?_cons_zero, Option.some.injEq] at ho; subst ho; subst hSw; go_simp; with_reducible rfl) (by assumption) ?_
                      try simp only [Act.put, List.setIfInBounds_toArray, List.set_cons_zero, List.set_cons_succ]
                      refine rg_take 14 (some 108) _ (by kernel_rfl) (by kernel_rfl) (by kernel_rfl) (fun _ _ _ h => h) (by kernel_rfl) (by kernel_rfl) (by intro w' hSw op_ ho; simp only [List.getElem?_toArray, List.getElem?_cons_succ, List.getElem?_cons_zero, Option.some.injEq] at ho; subst ho; subst hSw; go_simp; with_reducible rfl) (by assumption) ?_
                      try simp only [Act.put, List.setIfInBounds_toArray, List.set_cons_zero, List.set_cons_succ]
                      refine rg_take 15 (some 109) _ (by kernel_rfl) (by kernel_rfl) (by kernel_rfl) (fun _ _ _ h => h) (by kernel_rfl) (by kernel_rfl) (by intro w' hSw op_ ho; simp only [List.getElem?_toArray, List.getElem?_cons_succ, List.getElem?_cons_zero, Option.some.injEq] at ho; subst ho; subst hSw; go_simp; with_reducible rfl) (by assumption) ?_
                      try simp only [Act.put, List.setIfInBounds_toArray, List.set_cons_zero, List.set_cons_succ]
                      refine rg_take 16 (some 110) _ (by kernel_rfl) (by kernel_rfl) (by kernel_rfl) (fun _ _ _ h => h) (by kernel_rfl) (by kernel_rfl) (by intro w' hSw op_ ho; simp only [List.getElem?_toArray, List.getElem?_cons_succ, List.getElem?_cons_zero, Option.some.injEq] at ho; subst ho; subst hSw; go_simp; with_reducible rfl) (by assumption) ?_
                      try simp only [Act.put, List.setIfInBounds_toArray, List.set_cons_zero, List.set_cons_succ]
                      refine rg_take 17 (some 111) _ (by kernel_rfl) (by kernel_rfl) (by kernel_rfl) (fun _ _ _ h => h) (by kernel_rfl) (by kernel_rfl) (by intro w' hSw op_ ho; simp only [List.getElem?_toArray, List.getElem?_cons_succ, List.getElem?_cons_zero, Option.some.injEq] at ho; subst ho; subst hSw; go_simp; with_reducible rfl) (by assumption) ?_
                      try simp only [Act.put, List.setIfInBounds_toArray, List.set_cons_zero, List.set_cons_succ]
                      refine rg_take 18 (some 112) _ (by kernel_rfl) (by kernel_rfl) (by kernel_rfl) (fun _ _ _ h => h) (by kernel_rfl) (by kernel_rfl) (by intro w' hSw op_ ho; simp only [List.getElem?_toArray, List.getElem?_cons_succ, List.getElem?_cons_zero, Option.some.injEq] at ho; subst ho; subst hSw; go_simp; with_reducible rfl) (by assumption) ?_
                      try simp only [Act.put, List.setIfInBounds_toArray, List.set_cons_zero, List.set_cons_succ]
                      refine wpAnyH_done (by kernel_rfl) ?_ _
                      clear hHeld
                      go_wp2_with fail
                      go_ret
                      exact ⟨rfl, HB3.out.drew⟩
                    · have HEQ := Lib.hid heq
                      rw [decide_eq_false heq] at hE
                      clear heq
                      go_upto_region 21 with fail
                      refine wp_region_held_drew (S := fun W => W = wr.drew) (by kernel_rfl) rfl (fun hHeld => ?_)
                      refine rg_take 0 (some 94) _ (by kernel_rfl) (by kernel_rfl) (by kernel_rfl) (fun _ _ _ h => h) (by kernel_rfl) (by kernel_rfl) (by intro w' hSw op_ ho; simp only [List.getElem?_toArray, List.getElem?_cons_zero, Option.some.injEq] at ho; subst ho; subst hSw; go_simp; with_reducible rfl) (by assumption) ?_
                      try simp only [Act.put, List.setIfInBounds_toArray, List.set_cons_zero, List.set_cons_succ]
                      refine rg_take 1 (some 95) _ (by kernel_rfl) (by kernel_rfl) (by kernel_rfl) (fun _ _ _ h => h) (by kernel_rfl) (by kernel_rfl) (by intro w' hSw op_ ho; simp only [List.getElem?_toArray, List.getElem?_cons_succ, List.getElem?_cons_zero, Option.some.injEq] at ho; subst ho; subst hSw; go_simp; with_reducible rfl) (by assumption) ?_
                      try simp only [Act.put, List.setIfInBounds_toArray, List.set_cons_zero, List.set_cons_succ]
                      refine rg_take 2 (some 96) _ (by kernel_rfl) (by kernel_rfl) (by kernel_rfl) (fun _ _ _ h => h) (by kernel_rfl) (by kernel_rfl) (by intro w' hSw op_ ho; simp only [List.getElem?_toArray, List.getElem?_cons_succ, List.getElem?_cons_zero, Option.some.injEq] at ho; subst ho; subst hSw; go_simp; with_reducible rfl) (by assumption) ?_
                      try simp only [Act.put, List.setIfInBounds_toArray, List.set_cons_zero, List.set_cons_succ]
                      refine rg_take 3 (some 97) _ (by kernel_rfl) (by kernel_rfl) (by kernel_rfl) (fun _ _ _ h => h) (by kernel_rfl) (by kernel_rfl) (by intro w' hSw op_ ho; simp only [List.getElem?_toArray, List.getElem?_cons_succ, List.getElem?_cons_zero, Option.some.injEq] at ho; subst ho; subst hSw; go_simp; with_reducible rfl) (by assumption) ?_
                      try simp only [Act.put, List.setIfInBounds_toArray, List.set_cons_zero, List.set_cons_succ]
                      refine rg_take 4 (some 98) _ (by kernel_rfl) (by kernel_rfl) (by kernel_rfl) (fun _ _ _ h => h) (by kernel_rfl) (by kernel_rfl) (by intro w' hSw op_ ho; simp only [List.getElem?_toArray, List.getElem?_cons_succ, List.getElem?_cons_zero, Option.some.injEq] at ho; subst ho; subst hSw; go_simp; with_reducible rfl) (by assumption) ?_
                      try simp only [Act.put, List.setIfInBounds_toArray, List.set_cons_zero, List.set_cons_succ]
                      refine rg_take 5 (some 99) _ (by kernel_rfl) (by kernel_rfl) (by kernel_rfl) (fun _ _ _ h => h) (by kernel_rfl) (by kernel_rfl) (by intro w' hSw op_ ho; simp only [List.getElem?_toArray, List.getElem?_cons_succ, List.getElem?_cons_zero, Option.some.injEq] at ho; subst ho; subst hSw; go_simp; with_reducible rfl) (by assumption) ?_
                      try simp only [Act.put, List.setIfInBounds_toArray, List.set_cons_zero, List.set_cons_succ]
                      refine rg_take 6 (some 100) _ (by kernel_rfl) (by kernel_rfl) (by kernel_rfl) (fun _ _ _ h => h) (by kernel_rfl) (by kernel_rfl) (by intro w' hSw op_ ho; simp only [List.getElem?_toArray, List.getElem?_cons_succ, List.getElem?_cons_zero, Option.some.injEq] at ho; subst ho; subst hSw; go_simp; with_reducible rfl) (by assumption) ?_
                      try simp only [Act.put, List.setIfInBounds_toArray, List.set_cons_zero, List.set_cons_succ]
                      refine rg_take 7 (some 101) _ (by kernel_rfl) (by kernel_rfl) (by kernel_rfl) (fun _ _ _ h => h) (by kernel_rfl) (by kernel_rfl) (by intro w' hSw op_ ho; simp only [List.getElem?_toArray, List.getElem?_cons_succ, List.getElem?_cons_zero, Option.some.injEq] at ho; subst ho; subst hSw; go_simp; with_reducible rfl) (by assumption) ?_
                      try simp only [Act.put, List.setIfInBounds_toArray, List.set_cons_zero, List.set_cons_succ]
                      refine rg_take 8 (some 102) _ (by kernel_rfl) (by kernel_rfl) (by kernel_rfl) (fun _ _ _ h => h) (by kernel_rfl) (by kernel_rfl) (by intro w' hSw op_ ho; simp only [List.getElem?_toArray, List.getElem?_cons_succ, List.getElem?_cons_zero, Option.some.injEq] at ho; subst ho; subst hSw; go_simp; with_reducible rfl) (by assumption) ?_
                      try simp only [Act.put, List.setIfInBounds_toArray, List.set_cons_zero, List.set_cons_succ]
                      refine rg_take 9 (some 103) _ (by kernel_rfl) (by kernel_rfl) (by kernel_rfl) (fun _ _ _ h => h) (by kernel_rfl) (by kernel_rfl) (by intro w' hSw op_ ho; simp only [List.getElem?_toArray, List.getElem?_cons_succ, List.getElem?_cons_zero, Option.some.injEq] at ho; subst ho; subst hSw; go_simp; with_reducible rfl) (by assumption) ?_
                      try simp only [Act.put, List.setIfInBounds_toArray, List.set_cons_zero, List.set_cons_succ]
                      refine rg_take 10 (some 104) _ (by kernel_rfl) (by kernel_rfl) (by kernel_rfl) (fun _ _ _ h => h) (by kernel_rfl) (by kernel_rfl) (by intro w' hSw op_ ho; simp only [List.getElem?_toArray, List.getElem?_cons_succ, List.getElem?_cons_zero, Option.some.injEq] at ho; subst ho; subst hSw; go_simp; with_reducible rfl) (by assumption) ?_
                      try simp only [Act.put, List.setIfInBounds_toArray, List.set_cons_zero, List.set_cons_succ]
                      refine rg_take 11 (some 105) _ (by kernel_rfl) (by kernel_rfl) (by kernel_rfl) (fun _ _ _ h => h) (by kernel_rfl) (by kernel_rfl) (by intro w' hSw op_ ho; simp only [List.getElem?_toArray, List.getElem?_cons_succ, List.getElem?_cons_zero, Option.some.injEq] at ho; subst ho; subst hSw; go_simp; with_reducible rfl) (by assumption) ?_
                      try simp only [Act.put, List.setIfInBounds_toArray, List.set_cons_zero, List.set_cons_succ]
                      refine rg_take 12 (some 106) _ (by kernel_rfl) (by kernel_rfl) (by kernel_rfl) (fun _ _ _ h => h) (by kernel_rfl) (by kernel_rfl) (by intro w' hSw op_ ho; simp only [List.getElem?_toArray, List.getElem?_cons_succ, List.getElem?_cons_zero, Option.some.injEq] at ho; subst ho; subst hSw; go_simp; with_reducible rfl) (by assumption) ?_
                      try simp only [Act.put, List.setIfInBounds_toArray, List.set_cons_zero, List.set_cons_succ]
                      refine rg_take 13 (some 107) _ (by kernel_rfl) (by kernel_rfl) (by kernel_rfl) (fun _ _ _ h => h) (by kernel_rfl) (by kernel_rfl) (by intro w' hSw op_ ho; simp only [List.getElem?_toArray, List.getElem?_cons_succ, List.getElem?_cons_zero, Option.some.injEq] at ho; subst ho; subst hSw; go_simp; with_reducible rfl) (by assumption) ?_
                      try simp only [Act.put, List.setIfInBounds_toArray, List.set_cons_zero, List.set_cons_succ]
                      refine rg_take 14 (some 108) _ (by kernel_rfl) (by kernel_rfl) (by kernel_rfl) (fun _ _ _ h => h) (by kernel_rfl) (by kernel_rfl) (by intro w' hSw op_ ho; simp only [List.getElem?_toArray, List.getElem?_cons_succ, List.getElem?_cons_zero, Option.some.injEq] at ho; subst ho; subst hSw; go_simp; with_reducible rfl) (by assumption) ?_
                      try simp only [Act.put, List.setIfInBounds_toArray, List.set_cons_zero, List.set_cons_succ]
                      refine rg_take 15 (some 109) _ (by kernel_rfl) (by kernel_rfl) (by kernel_rfl) (fun _ _ _ h => h) (by kernel_rfl) (by kernel_rfl) (by intro w' hSw op_ ho; simp only [List.getElem?_toArray, List.getElem?_cons_succ, List.getElem?_cons_zero, Option.some.injEq] at ho; subst ho; subst hSw; go_simp; with_reducible rfl) (by assumption) ?_
                      try simp only [Act.put, List.setIfInBounds_toArray, List.set_cons_zero, List.set_cons_succ]
                      refine rg_take 16 (some 110) _ (by kernel_rfl) (by kernel_rfl) (by kernel_rfl) (fun _ _ _ h => h) (by kernel_rfl) (by kernel_rfl) (by intro w' hSw op_ ho; simp only [List.getElem?_toArray, List.getElem?_cons_succ, List.getElem?_cons_zero, Option.some.injEq] at ho; subst ho; subst hSw; go_simp; with_reducible rfl) (by assumption) ?_
                      try simp only [Act.put, List.setIfInBounds_toArray, List.set_cons_zero, List.set_cons_succ]
                      refine rg_take 17 (some 111) _ (by kernel_rfl) (by kernel_rfl) (by kernel_rfl) (fun _ _ _ h => h) (by kernel_rfl) (by kernel_rfl) (by intro w' hSw op_ ho; simp only [List.getElem?_toArray, List.getElem?_cons_succ, List.getElem?_cons_zero, Option.some.injEq] at ho; subst ho; subst hSw; go_simp; with_reducible rfl) (by assumption) ?_
                      try simp only [Act.put, List.setIfInBounds_toArray, List.set_cons_zero, List.set_cons_succ]
                      refine rg_take 18 (some 112) _ (by kernel_rfl) (by kernel_rfl) (by kernel_rfl) (fun _ _ _ h => h) (by kernel_rfl) (by kernel_rfl) (by intro w' hSw op_ ho; simp only [List.getElem?_toArray, List.getElem?_cons_succ, List.getElem?_cons_zero, Option.some.injEq] at ho; subst ho; subst hSw; go_simp; with_reducible rfl) (by assumption) ?_
                      try simp only [Act.put, List.setIfInBounds_toArray, List.set_cons_zero, List.set_cons_succ]
                      refine wpAnyH_done (by kernel_rfl) ?_ _
                      clear hHeld
                      go_wp2_with fail
                      go_roundg (k - (j + 1))
                      case measure => omega
                      case rel =>
                        refine ⟨j + 1, by go_num, by omega, Nat.le_refl _, fun j' t' hj' ht' => ?_, HB3.out.drew, HX3.out⟩
                        by_cases e : j' = j
                        · subst e
                          rw [HTJ.out] at ht'
                          cases ht'
                          exact HEQ.out
                        · exact HNJ.out j' t' (by omega) ht'
                  · obtain rfl : j = k := by omega
                    have HNE := Lib.hid HNJ.out
                    have hltz4 : ¬ (j : Int) < (j : Int) := by omega
                    go_wp2_with fail
                    go_roundg (on.length - (j + 1))
                    case measure => omega
                    case rel =>
                      refine ⟨j + 1, by go_num, by omega, Nat.le_refl _, ?_, HB3.out, HX3.out⟩
                      rw [HTK2.out, List.map_append]
                      refine List.nodup_append.2 ⟨HNK.out, by simp, fun a ha b hb => ?_⟩
                      simp only [List.map_cons, List.map_nil, List.mem_singleton] at hb
                      subst hb
                      obtain ⟨t, ht, rfl⟩ := List.mem_map.1 ha
                      obtain ⟨j2, hj⟩ := List.getElem?_of_mem ht
                      rw [List.getElem?_take] at hj
                      split at hj
                      · exact HNE.out j2 t (by assumption) hj
                      · cases hj
              · obtain rfl : k = on.length := by omega
                have hz1 : ¬ (on.length : Int) < (on.length : Int) := by omega
                rw [List.take_length] at HNK
                go_wp2_with fail
                go_roundg (H.length - (i + 1))
                case measure => omega
                case rel =>
                  refine ⟨i + 1, by go_num, by rw [HFT.out], by omega, Nat.le_refl _, fun z hz => ?_, HB3.out, HX3.out⟩
                  rw [HTK.out] at hz
                  rcases List.mem_append.1 hz with h1 | h1
                  · exact HND.out z h1
                  · rw [List.mem_singleton] at h1; subst h1; exact HNK.out
          · obtain rfl : i = H.length := by omega
            have hz1 : ¬ (H.length : Int) < (H.length : Int) := by omega
            rw [List.take_length] at HND ⊢
            go_wp2_with fail
            go_meet
            exact ⟨rfl, HND.out, HB3.out, HX3.out⟩
      case rest =>
      obtain ⟨rfl, hnd, hb4, hx4⟩ := hcut
      clear HB3 HX3
      have HND := Lib.hid hnd
      have HB3 := Lib.hid hb4
      have HX3 := Lib.hid hx4
      clear hnd hb4 hx4
      have HPK : Hid (∀ W, Below w.heap.size w W → Calls Tryd.prog 8 #[.slice A H.length c, .agg #[.int .i64 x.a, .int .i64 x.b, .int .i64 x.c, .int .i64 x.d], .int .i64 band, .slice As S.length cs] W fun e w' => ∃ (host : Int) (out : List Gst) (er : Nat) (Bo : Option Addr) (cb : Nat), e = .returned (.tuple #[.agg #[.int .i64 host, .slice Bo out.length cb], errV s er]) ∧ PickR H x band S host out er ∧ OwnE encTk 33 w' W.heap.size (.slice Bo out.length cb) (out.map (·.task)) ∧ Below W.heap.size W w') := Lib.hid fun W hb => pick_c s A c H x band As cs S W (HS.out.below hb (Nat.le_refl _)) (HAT.out.on hb) (HSP.out.on hb) (by omega) HSJ.out
      have n0 := cell_of_heap HX3.out 0
      have n1 := cell_of_heap HX3.out 1
      have n2 := cell_of_heap HX3.out 2
      have n3 := cell_of_heap HX3.out 3
      simp at n0 n1 n2 n3
      have nl := lt_of_row HX3.out
      obtain ⟨fr, hfr⟩ : ∃ fr, freeH x H = fr := ⟨_, rfl⟩
      rw [hfr]
      have HFR := Lib.hid hfr
      clear hfr
      go_upto_region 23 with fail
      go_wp2_with fail
      refine (HPK.out _ HB3.out).mono ?_
      rintro e w5 ⟨host, out, er, Bo, cb, rfl, hp, ho, b5⟩
      have HF := Lib.hid (fair_pick HAT.out.few hp)
      clear n0 n1 n2 n3 nl hp
      obtain ⟨g14, hg14⟩ : ∃ g, w5.heap.size = g := ⟨_, rfl⟩
      obtain ⟨W6, hW6⟩ : ∃ W, w5.alloc (.cells #[.int .i64 host, .slice Bo out.length cb] 38) = W := ⟨_, rfl⟩
      have HT6 : Hid (FairSt w x g5 g14 host Bo cb out W6) := Lib.hid (by
        rw [← hW6, ← hg14]
        refine ⟨?_, ?_, heap_alloc_new _ _, ?_⟩
        · exact (HB3.out.trans (b5.mono HB3.out.size)).alloc (HB3.out.trans (b5.mono HB3.out.size)).size _
        · exact (Below.heap_alloc _ _ _ (Nat.lt_of_lt_of_le (lt_of_row HX3.out) b5.size)).trans ((b5.block _ (lt_of_row HX3.out)).trans HX3.out)
        · exact (ho.base HB3.out.size).on ((Below.refl _ _).alloc (Nat.le_refl _) _))
      have HG5 : Hid (g5 < g14) := Lib.hid (by rw [← hg14]; exact Nat.lt_of_lt_of_le (lt_of_row HX3.out) b5.size)
      have HG6 := Lib.hid (And.intro hg14 hW6)
      clear hg14 hW6 ho b5 HB3 HX3 HPK
      have c0 := cell_of_heap HT6.out.ch 0
      have c1 := cell_of_heap HT6.out.ch 1
      simp at c0 c1
      have cl := lt_of_row HT6.out.ch
      by_cases her : er = 0
      · subst her
        rw [show errV s 0 = .nilIface from rfl]
        have hfo : freeH x H = decide (out = []) := HF.out.free rfl
        have hle : ((out.length : Int) == 0) = fr := by
          rw [← HFR.out, hfo]
          cases out with
          | nil => rfl
          | cons a l => simp; omega
        clear hfo
        have hol : out.length ≤ 10 := by
          rcases HF.out.few rfl with h | h
          · exact h
          · rw [h]; simp
        go_upto_region 24 with fail
        rw [HG6.out.1, HG6.out.2]
        go_upto_region 26 with fail
        go_upto_block 8 with fail
        clear c0 c1 cl
        go_cut [] (fun wx => FairSt w x g5 g14 host Bo cb out wx)
        case first =>
          go_upto_region 29 with fail
          go_loopg [16] H.length (fun gk s16 wr => ∃ (i : Nat), s16 = .int .i64 i ∧ i ≤ H.length ∧ H.length - i ≤ gk ∧ Aside (FairSt w x g5 g14 host Bo cb out wr))
          case atStart => exact ⟨0, rfl, Nat.zero_le _, Nat.le_refl _, HT6.out⟩
          case round =>
            obtain ⟨i, rfl, hi, hgi, IN⟩ := hrel
            clear HT6
            have HT6 := Lib.hid IN.out
            clear IN
            by_cases hlt : i < H.length
            · obtain ⟨y, hy⟩ : ∃ y, H[i]? = some y := ⟨_, List.getElem?_eq_getElem hlt⟩
              obtain ⟨ad, q, rfl, had, hq, hc⟩ := HH.out.row i y hy
              have hym : y ∈ H := List.mem_of_getElem? hy
              have hltz : (i : Int) < (H.length : Int) := by omega
              have hi0 : (0 : Int) ≤ (i : Int) := by omega
              have HLV : Hid (∀ W, Below w.heap.size w W → ∀ r u, (encHst.enc y)[r]? = some u → W.cell? (q.add r) = some u) := Lib.hid fun W hW r u hu => (hW.cell (p := q.add r) (by rw [block_add16]; exact hq)).trans (hc r u hu)
              have HQL : Hid (∀ W, Below w.heap.size w W → q.block < W.heap.size) := Lib.hid fun W hW => Nat.lt_of_lt_of_le hq hW.size
              have hyl := HAT.out.few y hym
              have HEY := Lib.hid (HH.out.each y hym)
              have HNY := Lib.hid (HND.out y hym)
              have HWH : Hid (y.id = host → goodV y.left = true ∧ (∀ g ∈ y.on, goodV g.need = true) ∧ (∀ g ∈ out, g ∈ y.on ∧ band < g.band ∧ g.env = false) ∧ ∀ r, comp r x ≤ comp r y.left + needG r out) := Lib.hid fun h => HF.out.who rfl y hym h
              obtain ⟨id, l, on, A', c'⟩ := y
              simp only at hyl HEY HNY HWH
              clear hy hq hc hym
              have v0 : wr.cell? q = some (.int .i64 id) := (congrArg wr.cell? (add_zeroE q).symm).trans (HLV.out wr HT6.out.low 0 _ rfl)
              have hpl := HQL.out wr HT6.out.low
              have c0 := cell_of_heap HT6.out.ch 0
              simp at c0
              have cl := lt_of_row HT6.out.ch
              by_cases hid : id = host
              · have hide : (id != host) = false := by simp [hid]
                obtain ⟨hgl, hgn, hgo, hgx⟩ := HWH.out hid
                have HGL := Lib.hid hgl; have HGN := Lib.hid hgn; have HGO := Lib.hid hgo; have HGX := Lib.hid hgx
                clear hid hgl hgn hgo hgx
                go_upto_region 31 with fail
                refine wp_region_held_drew (S := fun W => W = wr.drew) (by kernel_rfl) rfl (fun hHeld => ?_)
                refine rg_take 0 (some 153) _ (by kernel_rfl) (by kernel_rfl) (by kernel_rfl) (fun _ _ _ h => h) (by kernel_rfl) (by kernel_rfl) (by intro w' hSw op_ ho; simp only [List.getElem?_toArray, List.getElem?_cons_zero, Option.some.injEq] at ho; subst ho; subst hSw; go_simp; with_reducible rfl) (by assumption) ?_
                try simp only [Act.put, List.setIfInBounds_toArray, List.set_cons_zero, List.set_cons_succ]
                refine rg_take 1 (some 154) _ (by kernel_rfl) (by kernel_rfl) (by kernel_rfl) (fun _ _ _ h => h) (by kernel_rfl) (by kernel_rfl) (by intro w' hSw op_ ho; simp only [List.getElem?_toArray, List.getElem?_cons_succ, List.getElem?_cons_zero, Option.some.injEq] at ho; subst ho; subst hSw; go_simp; with_reducible rfl) (by assumption) ?_
                try simp only [Act.put, List.setIfInBounds_toArray, List.set_cons_zero, List.set_cons_succ]
                refine rg_take 2 (some 155) _ (by kernel_rfl) (by kernel_rfl) (by kernel_rfl) (fun _ _ _ h => h) (by kernel_rfl) (by kernel_rfl) (by intro w' hSw op_ ho; simp only [List.getElem?_toArray, List.getElem?_cons_succ, List.getElem?_cons_zero, Option.some.injEq] at ho; subst ho; subst hSw; go_simp; with_reducible rfl) (by assumption) ?_
                try simp only [Act.put, List.setIfInBounds_toArray, List.set_cons_zero, List.set_cons_succ]
                refine rg_take 3 (some 156) _ (by kernel_rfl) (by kernel_rfl) (by kernel_rfl) (fun _ _ _ h => h) (by kernel_rfl) (by kernel_rfl) (by intro w' hSw op_ ho; simp only [List.getElem?_toArray, List.getElem?_cons_succ, List.getElem?_cons_zero, Option.some.injEq] at ho; subst ho; subst hSw; go_simp; with_reducible rfl) (by assumption) ?_
                try simp only [Act.put, List.setIfInBounds_toArray, List.set_cons_zero, List.set_cons_succ]
                refine rg_take 4 (some 157) _ (by kernel_rfl) (by kernel_rfl) (by kernel_rfl) (fun _ _ _ h => h) (by kernel_rfl) (by kernel_rfl) (by intro w' hSw op_ ho; simp only [List.getElem?_toArray, List.getElem?_cons_succ, List.getElem?_cons_zero, Option.some.injEq] at ho; subst ho; subst hSw; go_simp; with_reducible rfl) (by assumption) ?_
                try simp only [Act.put, List.setIfInBounds_toArray, List.set_cons_zero, List.set_cons_succ]
                refine rg_take 5 (some 158) _ (by kernel_rfl) (by kernel_rfl) (by kernel_rfl) (fun _ _ _ h => h) (by kernel_rfl) (by kernel_rfl) (by intro w' hSw op_ ho; simp only [List.getElem?_toArray, List.getElem?_cons_succ, List.getElem?_cons_zero, Option.some.injEq] at ho; subst ho; subst hSw; go_simp; with_reducible rfl) (by assumption) ?_
                try simp only [Act.put, List.setIfInBounds_toArray, List.set_cons_zero, List.set_cons_succ]
                refine rg_take 6 (some 159) _ (by kernel_rfl) (by kernel_rfl) (by kernel_rfl) (fun _ _ _ h => h) (by kernel_rfl) (by kernel_rfl) (by intro w' hSw op_ ho; simp only [List.getElem?_toArray, List.getElem?_cons_succ, List.getElem?_cons_zero, Option.some.injEq] at ho; subst ho; subst hSw; go_simp; with_reducible rfl) (by assumption) ?_
                try simp only [Act.put, List.setIfInBounds_toArray, List.set_cons_zero, List.set_cons_succ]
                refine rg_take 7 (some 160) _ (by kernel_rfl) (by kernel_rfl) (by kernel_rfl) (fun _ _ _ h => h) (by kernel_rfl) (by kernel_rfl) (by intro w' hSw op_ ho; simp only [List.getElem?_toArray, List.getElem?_cons_succ, List.getElem?_cons_zero, Option.some.injEq] at ho; subst ho; subst hSw; go_simp; with_reducible rfl) (by assumption) ?_
                try simp only [Act.put, List.setIfInBounds_toArray, List.set_cons_zero, List.set_cons_succ]
                refine wpAnyH_done (by kernel_rfl) ?_ _
                clear hHeld
                have v1 : wr.drew.cell? ⟨q.block, q.off + 1, none⟩ = some (.int .i64 l.a) := HLV.out wr HT6.out.low 1 _ rfl
                have v2 : wr.drew.cell? ⟨q.block, q.off + 2, none⟩ = some (.int .i64 l.b) := HLV.out wr HT6.out.low 2 _ rfl
                have v3 : wr.drew.cell? ⟨q.block, q.off + 3, none⟩ = some (.int .i64 l.c) := HLV.out wr HT6.out.low 3 _ rfl
                have v4 : wr.drew.cell? ⟨q.block, q.off + 4, none⟩ = some (.int .i64 l.d) := HLV.out wr HT6.out.low 4 _ rfl
                have hpd : q.block < wr.drew.heap.size := hpl
                clear v0 c0 cl hpl
                obtain ⟨wd, hwd⟩ : ∃ wd, wr.drew = wd := ⟨_, rfl⟩
                have HTd : Hid (FairSt w x g5 g14 host Bo cb out wd) := Lib.hid (by rw [← hwd]; exact HT6.out.on ((Below.refl _ _).drew))
                clear HT6
                rw [hwd] at v1 v2 v3 v4 hpd
                rw [hwd]
                clear hwd
                obtain ⟨g17, hg17⟩ : ∃ g, wd.heap.size = g := ⟨_, rfl⟩
                obtain ⟨W7, hW7⟩ : ∃ W, wd.alloc (.cells #[.int .i64 l.a, .int .i64 l.b, .int .i64 l.c, .int .i64 l.d] 24) = W := ⟨_, rfl⟩
                have HT7 : Hid (FairSt w x g5 g14 host Bo cb out W7) := Lib.hid (by rw [← hW7]; exact HTd.out.on ((Below.refl _ _).alloc (Nat.le_refl _) _))
                have HV7 : Hid (W7.heap[g17]? = some (.cells #[.int .i64 l.a, .int .i64 l.b, .int .i64 l.c, .int .i64 l.d] 24 (0, 0))) := Lib.hid (by rw [← hW7, ← hg17]; exact heap_alloc_new _ _)
                have HG17 : Hid (w.heap.size ≤ g17 ∧ g17 ≠ g5) := Lib.hid (by
                  have h1 := lt_of_row HTd.out.need
                  have h2 := HTd.out.low.size
                  omega)
                have HG7 := Lib.hid (And.intro hg17 hW7)
                clear HTd hg17 hW7
                go_upto_region 33 with fail
                rw [HG7.out.1, HG7.out.2]
                clear v1 v2 v3 v4 hpd
                go_upto_region 34 with fail
                go_loopg [18] out.length (fun gk s18 wr => ∃ (k : Nat), s18 = .int .i64 k ∧ k ≤ out.length ∧ out.length - k ≤ gk ∧ Aside (FairSt w x g5 g14 host Bo cb out wr ∧ ∃ rm : V4, (∀ r, comp r rm = comp r l + needG r (out.take k)) ∧ wr.heap[g17]? = some (.cells #[.int .i64 rm.a, .int .i64 rm.b, .int .i64 rm.c, .int .i64 rm.d] 24 (0, 0))))
                case atStart => exact ⟨0, rfl, Nat.zero_le _, Nat.le_refl _, HT7.out, l, (fun r => by simp [needG]), HV7.out⟩
                case round =>
                  obtain ⟨k, rfl, hk, hgk, IN⟩ := hrel
                  clear HT7 HV7
                  have HT7 := Lib.hid IN.out.1
                  obtain ⟨rm, hrm, hv7⟩ := IN.out.2
                  have HRM := Lib.hid hrm
                  have HV7 := Lib.hid hv7
                  clear IN hrm hv7
                  have c1 := cell_of_heap HT7.out.ch 1
                  simp at c1
                  have cl := lt_of_row HT7.out.ch
                  by_cases hlt2 : k < out.length
                  · obtain ⟨t, ht⟩ : ∃ t, out[k]? = some t := ⟨_, List.getElem?_eq_getElem hlt2⟩
                    have htm := List.mem_of_getElem? ht
                    have HTO := Lib.hid (HGO.out t htm)
                    have hltz2 : (k : Int) < (out.length : Int) := by omega
                    have hk0 : (0 : Int) ≤ (k : Int) := by omega
                    have HTK2 : Hid (out.take (k + 1) = out.take k ++ [t]) := Lib.hid (by rw [List.take_add_one, ht, Option.toList_some])
                    have HTN := Lib.hid (HGN.out t (HGO.out t htm).1)
                    have HOR : Hid (∀ W, FairSt w x g5 g14 host Bo cb out W → ∃ ado p, Bo = some ado ∧ ado.add (k * 2) = p ∧ p.block < W.heap.size ∧ W.cell? p = some (.int .i64 t.task.job) ∧ W.cell? ⟨p.block, p.off + 1, none⟩ = some (.int .i64 t.task.ix)) := Lib.hid fun W hW => by
                      obtain ⟨ado, p, h1, h2, h3, h4⟩ := hW.reads k t.task (by rw [List.getElem?_map, ht]; rfl)
                      exact ⟨ado, p, h1, h2, h3, (congrArg W.cell? (add_zeroE p).symm).trans (h4 0 _ rfl), h4 1 _ rfl⟩
                    clear ht htm
                    go_upto_region 38 with fail
                    go_loopg [19, 20] on.length (fun gk s19 s20 wr => ∃ (j : Nat), s20 = .int .i64 j ∧ s19 = .bool ((on.take j).any fun g => decide (g.task = t.task)) ∧ j ≤ on.length ∧ on.length - j ≤ gk ∧ Aside (FairSt w x g5 g14 host Bo cb out wr ∧ ∃ rj : V4, (∀ r, comp r rj = comp r rm + if ((on.take j).any fun g => decide (g.task = t.task)) = true then comp r t.need else 0) ∧ wr.heap[g17]? = some (.cells #[.int .i64 rj.a, .int .i64 rj.b, .int .i64 rj.c, .int .i64 rj.d] 24 (0, 0))))
                    case atStart => exact ⟨0, rfl, rfl, Nat.zero_le _, Nat.le_refl _, HT7.out, rm, (fun r => by simp), HV7.out⟩
                    case round =>
                      obtain ⟨j, rfl, rfl, hj, hgj, IN⟩ := hrel
                      clear HT7 HV7 c1 cl
                      have HT7 := Lib.hid IN.out.1
                      obtain ⟨rj, hrj, hv7⟩ := IN.out.2
                      have HRJ := Lib.hid hrj
                      have HV7 := Lib.hid hv7
                      clear IN hrj hv7
                      obtain ⟨fd, hfd⟩ : ∃ fd, ((on.take j).any fun g => decide (g.task = t.task)) = fd := ⟨_, rfl⟩
                      rw [hfd] at HRJ
                      rw [hfd]
                      have HFD := Lib.hid hfd
                      clear hfd
                      have v5 : wr.cell? ⟨q.block, q.off + 5, none⟩ = some (.slice A' on.length c') := HLV.out wr HT7.out.low 5 _ rfl
                      have hpl := HQL.out wr HT7.out.low
                      by_cases hlt3 : j < on.length
                      · obtain ⟨g, hg⟩ : ∃ g, on[j]? = some g := ⟨_, List.getElem?_eq_getElem hlt3⟩
                        obtain ⟨ad2, q2, rfl, had2, hq2, hc2⟩ := HEY.out j g hg
                        have hltz3 : (j : Int) < (on.length : Int) := by omega
                        have hj0 : (0 : Int) ≤ (j : Int) := by omega
                        have HTK3 : Hid (on.take (j + 1) = on.take j ++ [g]) := Lib.hid (by rw [List.take_add_one, hg, Option.toList_some])
                        have HGJ := Lib.hid hg
                        have HB7 := Lib.hid HT7.out.low
                        have v0 := (HB7.out.cell (p := q2) hq2).trans ((congrArg w.cell? (add_zeroE q2).symm).trans (hc2 0 _ rfl))
                        have v1 := (HB7.out.cell (p := ⟨q2.block, q2.off + 1, none⟩) hq2).trans (hc2 1 _ rfl)
                        have v2 := (HB7.out.cell (p := ⟨q2.block, q2.off + 2, none⟩) hq2).trans (hc2 2 _ rfl)
                        have v3 := (HB7.out.cell (p := ⟨q2.block, q2.off + 3, none⟩) hq2).trans (hc2 3 _ rfl)
                        have v4 := (HB7.out.cell (p := ⟨q2.block, q2.off + 4, none⟩) hq2).trans (hc2 4 _ rfl)
                        have v6 := (HB7.out.cell (p := ⟨q2.block, q2.off + 5, none⟩) hq2).trans (hc2 5 _ rfl)
                        have v7 := (HB7.out.cell (p := ⟨q2.block, q2.off + 6, none⟩) hq2).trans (hc2 6 _ rfl)
                        have v8 := (HB7.out.cell (p := ⟨q2.block, q2.off + 7, none⟩) hq2).trans (hc2 7 _ rfl)
                        have hpl2 : q2.block < wr.heap.size := Nat.lt_of_lt_of_le hq2 HB7.out.size
                        obtain ⟨g21, hg21⟩ : ∃ g, wr.heap.size = g := ⟨_, rfl⟩
                        obtain ⟨W8, hW8⟩ : ∃ W, wr.alloc (.cells #[.int .i64 g.task.job, .int .i64 g.task.ix, .int .i64 g.band, .bool g.env, .int .i64 g.need.a, .int .i64 g.need.b, .int .i64 g.need.c, .int .i64 g.need.d] 35) = W := ⟨_, rfl⟩
                        have hb8 : Below wr.heap.size wr W8 := by rw [← hW8]; exact (Below.refl _ _).alloc (Nat.le_refl _) _
                        have HX8 : Hid (W8.heap[g21]? = some (.cells #[.int .i64 g.task.job, .int .i64 g.task.ix, .int .i64 g.band, .bool g.env, .int .i64 g.need.a, .int .i64 g.need.b, .int .i64 g.need.c, .int .i64 g.need.d] 35 (0, 0))) := Lib.hid (by rw [← hW8, ← hg21]; exact heap_alloc_new _ _)
                        have HT8 := Lib.hid (HT7.out.on hb8)
                        have HV8 := Lib.hid ((hb8.block _ (lt_of_row HV7.out)).trans HV7.out)
                        have HG8 := Lib.hid (And.intro hg21 hW8)
                        clear hg hq2 hc2 hg21 hW8 hb8
                        go_upto_region 41 with fail
                        rw [HG8.out.1, HG8.out.2]
                        clear v0 v1 v2 v3 v4 v5 v6 v7 v8 hpl hpl2
                        obtain ⟨ado, po, rfl, hado, hpo, o0, o1⟩ := HOR.out W8 HT8.out
                        have c1 := cell_of_heap HT8.out.ch 1
                        have x0 := cell_of_heap HX8.out 0
                        have x1 := cell_of_heap HX8.out 1
                        simp at c1 x0 x1
                        have cl := lt_of_row HT8.out.ch
                        have xl := lt_of_row HX8.out
                        have hE := eqTk g.task t.task
                        by_cases heq : g.task = t.task
                        · rw [decide_eq_true heq] at hE
                          have hgt : g = t := by
                            obtain ⟨a, ha⟩ := List.getElem?_of_mem HTO.out.1
                            have hn := HNY.out
                            rcases Nat.lt_trichotomy j a with h | h | h
                            · have := nodup_ne hn HGJ.out ha h; exact absurd heq this
                            · subst h; have h2 := HGJ.out; rw [ha] at h2; exact (Option.some.inj h2).symm
                            · have := nodup_ne hn ha HGJ.out h; exact absurd heq.symm this
                          have hfd : fd = false := by
                            rw [← HFD.out, List.any_eq_false]
                            intro z hz
                            obtain ⟨a, ha⟩ := List.getElem?_of_mem hz
                            rw [List.getElem?_take] at ha
                            split at ha
                            · have := nodup_ne HNY.out ha HGJ.out (by assumption)
                              rw [← heq]; simpa using this
                            · cases ha
                          have HFF : Hid (((on.take (j + 1)).any fun g => decide (g.task = t.task)) = true) := Lib.hid (by rw [HTK3.out, List.any_append]; simp [heq])
                          have hgb : band < g.band := by rw [hgt]; exact HTO.out.2.1
                          have hge : g.env = false := by rw [hgt]; exact HTO.out.2.2
                          have HNE4 : Hid (g.need = t.need) := Lib.hid (by rw [hgt])
                          subst hfd
                          clear heq hgt
                          go_upto_region 41 with fail
                          refine wp_region_held_drew (S := fun W => W = W8.drew) (by kernel_rfl) rfl (fun hHeld => ?_)
                          refine rg_take 0 (some 191) _ (by kernel_rfl) (by kernel_rfl) (by kernel_rfl) (fun _ _ _ h => h) (by kernel_rfl) (by kernel_rfl) (by intro w' hSw op_ ho; simp only [List.getElem?_toArray, List.getElem?_cons_zero, Option.some.injEq] at ho; subst ho; subst hSw; go_simp; with_reducible rfl) (by assumption) ?_
                          try simp only [Act.put, List.setIfInBounds_toArray, List.set_cons_zero, List.set_cons_succ]
                          refine rg_take 1 (some 192) _ (by kernel_rfl) (by kernel_rfl) (by kernel_rfl) (fun _ _ _ h => h) (by kernel_rfl) (by kernel_rfl) (by intro w' hSw op_ ho; simp only [List.getElem?_toArray, List.getElem?_cons_succ, List.getElem?_cons_zero, Option.some.injEq] at ho; subst ho; subst hSw; go_simp; with_reducible rfl) (by assumption) ?_
                          try simp only [Act.put, List.setIfInBounds_toArray, List.set_cons_zero, List.set_cons_succ]
                          refine rg_take 2 (some 193) _ (by kernel_rfl) (by kernel_rfl) (by kernel_rfl) (fun _ _ _ h => h) (by kernel_rfl) (by kernel_rfl) (by intro w' hSw op_ ho; simp only [List.getElem?_toArray, List.getElem?_cons_succ, List.getElem?_cons_zero, Option.some.injEq] at ho; subst ho; subst hSw; go_simp; with_reducible rfl) (by assumption) ?_
                          try simp only [Act.put, List.setIfInBounds_toArray, List.set_cons_zero, List.set_cons_succ]
                          refine rg_take 3 (some 194) _ (by kernel_rfl) (by kernel_rfl) (by kernel_rfl) (fun _ _ _ h => h) (by kernel_rfl) (by kernel_rfl) (by intro w' hSw op_ ho; simp only [List.getElem?_toArray, List.getElem?_cons_succ, List.getElem?_cons_zero, Option.some.injEq] at ho; subst ho; subst hSw; go_simp; with_reducible rfl) (by assumption) ?_
                          try simp only [Act.put, List.setIfInBounds_toArray, List.set_cons_zero, List.set_cons_succ]
                          refine rg_take 4 (some 195) _ (by kernel_rfl) (by kernel_rfl) (by kernel_rfl) (fun _ _ _ h => h) (by kernel_rfl) (by kernel_rfl) (by intro w' hSw op_ ho; simp only [List.getElem?_toArray, List.getElem?_cons_succ, List.getElem?_cons_zero, Option.some.injEq] at ho; subst ho; subst hSw; go_simp; with_reducible rfl) (by assumption) ?_
                          try simp only [Act.put, List.setIfInBounds_toArray, List.set_cons_zero, List.set_cons_succ]
                          refine rg_take 5 (some 196) _ (by kernel_rfl) (by kernel_rfl) (by kernel_rfl) (fun _ _ _ h => h) (by kernel_rfl) (by kernel_rfl) (by intro w' hSw op_ ho; simp only [List.getElem?_toArray, List.getElem?_cons_succ, List.getElem?_cons_zero, Option.some.injEq] at ho; subst ho; subst hSw; go_simp; with_reducible rfl) (by assumption) ?_
                          try simp only [Act.put, List.setIfInBounds_toArray, List.set_cons_zero, List.set_cons_succ]
                          refine rg_take 6 (some 197) _ (by kernel_rfl) (by kernel_rfl) (by kernel_rfl) (fun _ _ _ h => h) (by kernel_rfl) (by kernel_rfl) (by intro w' hSw op_ ho; simp only [List.getElem?_toArray, List.getElem?_cons_succ, List.getElem?_cons_zero, Option.some.injEq] at ho; subst ho; subst hSw; go_simp; with_reducible rfl) (by assumption) ?_
                          try simp only [Act.put, List.setIfInBounds_toArray, List.set_cons_zero, List.set_cons_succ]
                          refine rg_take 7 (some 198) _ (by kernel_rfl) (by kernel_rfl) (by kernel_rfl) (fun _ _ _ h => h) (by kernel_rfl) (by kernel_rfl) (by intro w' hSw op_ ho; simp only [List.getElem?_toArray, List.getElem?_cons_succ, List.getElem?_cons_zero, Option.some.injEq] at ho; subst ho; subst hSw; go_simp; with_reducible rfl) (by assumption) ?_
                          try simp only [Act.put, List.setIfInBounds_toArray, List.set_cons_zero, List.set_cons_succ]
                          refine wpAnyH_done (by kernel_rfl) ?_ _
                          clear hHeld
                          obtain ⟨wd, hwd⟩ : ∃ wd, W8.drew = wd := ⟨_, rfl⟩
                          have HTD : Hid (FairSt w x g5 g14 host (some ado) cb out wd) := Lib.hid (by rw [← hwd]; exact HT8.out.on ((Below.refl _ _).drew))
                          have HXD : Hid (wd.heap[g21]? = some (.cells #[.int .i64 g.task.job, .int .i64 g.task.ix, .int .i64 g.band, .bool g.env, .int .i64 g.need.a, .int .i64 g.need.b, .int .i64 g.need.c, .int .i64 g.need.d] 35 (0, 0))) := Lib.hid (by rw [← hwd]; exact HX8.out)
                          have HVD : Hid (wd.heap[g17]? = some (.cells #[.int .i64 rj.a, .int .i64 rj.b, .int .i64 rj.c, .int .i64 rj.d] 24 (0, 0))) := Lib.hid (by rw [← hwd]; exact HV8.out)
                          rw [hwd]
                          clear hwd HT8 HX8 HV8 c1 x0 x1 cl xl o0 o1 hado hpo hE
                          have x2 := cell_of_heap HXD.out 2
                          have x3 := cell_of_heap HXD.out 3
                          simp at x2 x3
                          rw [hge] at x3
                          have xl := lt_of_row HXD.out
                          have hgb' : ¬ g.band ≤ band := by omega
                          have HBND : Hid (∀ r, 0 ≤ comp r rj ∧ comp r rj ≤ 13194139533312) := Lib.hid fun r => by
                            have h1 := HRJ.out r
                            simp only [Bool.false_eq_true, if_false, Int.add_zero] at h1
                            have h2 := HRM.out r
                            have h3 := (good_comp.1 HGL.out) r
                            have h4 := needG_bd (r := r) (L := out.take k) (fun z hz => (good_comp.1 (HGN.out z (HGO.out z (List.mem_of_mem_take hz)).1)) r)
                            have h5 : (out.take k).length ≤ 10 := by rw [List.length_take]; omega
                            omega
                          have HGNB : Hid (∀ r, 0 ≤ comp r g.need ∧ comp r g.need ≤ 1099511627776) := Lib.hid (by rw [HNE4.out]; exact good_comp.1 HTN.out)
                          go_upto_region 46 with fail
                          clear x2 x3 xl
                          go_loopg [22] 4 (fun gk s22 wr => ∃ (m : Nat), s22 = .int .i64 m ∧ m ≤ 4 ∧ 4 - m ≤ gk ∧ Aside (FairSt w x g5 g14 host (some ado) cb out wr ∧ wr.heap[g21]? = some (.cells #[.int .i64 g.task.job, .int .i64 g.task.ix, .int .i64 g.band, .bool g.env, .int .i64 g.need.a, .int .i64 g.need.b, .int .i64 g.need.c, .int .i64 g.need.d] 35 (0, 0)) ∧ wr.heap[g17]? = some (.cells #[.int .i64 (addTo m rj g.need).a, .int .i64 (addTo m rj g.need).b, .int .i64 (addTo m rj g.need).c, .int .i64 (addTo m rj g.need).d] 24 (0, 0))))
                          case atStart => exact ⟨0, rfl, Nat.zero_le _, Nat.le_refl _, HTD.out, HXD.out, HVD.out⟩
                          case round =>
                            obtain ⟨m, rfl, hm, hgm, IN⟩ := hrel
                            clear HTD HXD HVD
                            have HTD := Lib.hid IN.out.1
                            have HXD := Lib.hid IN.out.2.1
                            have HVD := Lib.hid IN.out.2.2
                            clear IN
                            by_cases hlt4 : m < 4
                            · have hltz4 : (m : Int) < 4 := by omega
                              have hm0 : (0 : Int) ≤ (m : Int) := by omega
                              obtain ⟨cm, hcm, hbm1, hbm2, hst⟩ : ∃ cm : Int, wr.cell? ⟨g17, m, none⟩ = some (.int .i64 cm) ∧ 0 ≤ cm ∧ cm ≤ 13194139533312 ∧ ∀ nm : Int, wr.cell? ⟨g21, 4 + m, none⟩ = some (.int .i64 nm) → (wr.setCell ⟨g17, m, none⟩ (.int .i64 (cm + nm))).heap[g17]? = some (.cells #[.int .i64 (addTo (m + 1) rj g.need).a, .int .i64 (addTo (m + 1) rj g.need).b, .int .i64 (addTo (m + 1) rj g.need).c, .int .i64 (addTo (m + 1) rj g.need).d] 24 (0, 0)) := by
                                have hb := HBND.out
                                have hv := HVD.out
                                have hx := HXD.out
                                match m, hlt4 with
                                | 0, _ => exact ⟨rj.a, cell_of_heap hv 0, (hb 0).1, (hb 0).2, fun nm h => by have h2 := cell_of_heap hx 4; simp at h h2; rw [h2] at h; cases h; rw [heap_setCell_same _ _ _ _ _ _ hv]; rfl⟩
                                | 1, _ => exact ⟨rj.b, cell_of_heap hv 1, (hb 1).1, (hb 1).2, fun nm h => by have h2 := cell_of_heap hx 5; simp at h h2; rw [h2] at h; cases h; rw [heap_setCell_same _ _ _ _ _ _ hv]; rfl⟩
                                | 2, _ => exact ⟨rj.c, cell_of_heap hv 2, (hb 2).1, (hb 2).2, fun nm h => by have h2 := cell_of_heap hx 6; simp at h h2; rw [h2] at h; cases h; rw [heap_setCell_same _ _ _ _ _ _ hv]; rfl⟩
                                | 3, _ => exact ⟨rj.d, cell_of_heap hv 3, (hb 3).1, (hb 3).2, fun nm h => by have h2 := cell_of_heap hx 7; simp at h h2; rw [h2] at h; cases h; rw [heap_setCell_same _ _ _ _ _ _ hv]; rfl⟩
                              obtain ⟨nm, hnm, hbn1, hbn2⟩ : ∃ nm : Int, wr.cell? ⟨g21, 4 + m, none⟩ = some (.int .i64 nm) ∧ 0 ≤ nm ∧ nm ≤ 1099511627776 := by
                                have hb := HGNB.out
                                have hx := HXD.out
                                match m, hlt4 with
                                | 0, _ => exact ⟨g.need.a, cell_of_heap hx 4, hb 0⟩
                                | 1, _ => exact ⟨g.need.b, cell_of_heap hx 5, hb 1⟩
                                | 2, _ => exact ⟨g.need.c, cell_of_heap hx 6, hb 2⟩
                                | 3, _ => exact ⟨g.need.d, cell_of_heap hx 7, hb 3⟩
                              have HST := Lib.hid (hst nm hnm)
                              have gl17 := lt_of_row HVD.out
                              have gl21 := lt_of_row HXD.out
                              have gf17 : ∀ j, wr.frozen? ⟨g17, j, none⟩ = false := fun _ => frozen_of_row _ _ _ _ _ HVD.out
                              clear hst
                              go_upto_region 48 with fail
                              refine wp_region_last (S := fun W => W = wr.drew) (z := 10) (by kernel_rfl) rfl (fun hHeld => ?_)
                              refine rgl_take 0 (some 211) _ (by kernel_rfl) (by kernel_rfl) (by kernel_rfl) (by kernel_rfl) (fun _ _ _ h => h) (by kernel_rfl) (by kernel_rfl) (by intro w' hSw op_ ho; simp only [List.getElem?_toArray, List.getElem?_cons_zero, Option.some.injEq] at ho; subst ho; subst hSw; go_simp; with_reducible rfl) (by assumption) ?_
                              try simp only [Act.put, List.setIfInBounds_toArray, List.set_cons_zero, List.set_cons_succ]
                              refine rgl_take 1 (some 212) _ (by kernel_rfl) (by kernel_rfl) (by kernel_rfl) (by kernel_rfl) (fun _ _ _ h => h) (by kernel_rfl) (by kernel_rfl) (by intro w' hSw op_ ho; simp only [List.getElem?_toArray, List.getElem?_cons_succ, List.getElem?_cons_zero, Option.some.injEq] at ho; subst ho; subst hSw; go_simp; with_reducible rfl) (by assumption) ?_
                              try simp only [Act.put, List.setIfInBounds_toArray, List.set_cons_zero, List.set_cons_succ]
                              refine rgl_take 2 (some 213) _ (by kernel_rfl) (by kernel_rfl) (by kernel_rfl) (by kernel_rfl) (fun _ _ _ h => h) (by kernel_rfl) (by kernel_rfl) (by intro w' hSw op_ ho; simp only [List.getElem?_toArray, List.getElem?_cons_succ, List.getElem?_cons_zero, Option.some.injEq] at ho; subst ho; subst hSw; go_simp; with_reducible rfl) (by assumption) ?_
                              try simp only [Act.put, List.setIfInBounds_toArray, List.set_cons_zero, List.set_cons_succ]
                              refine rgl_take 3 (some 214) _ (by kernel_rfl) (by kernel_rfl) (by kernel_rfl) (by kernel_rfl) (fun _ _ _ h => h) (by kernel_rfl) (by kernel_rfl) (by intro w' hSw op_ ho; simp only [List.getElem?_toArray, List.getElem?_cons_succ, List.getElem?_cons_zero, Option.some.injEq] at ho; subst ho; subst hSw; go_simp; with_reducible rfl) (by assumption) ?_
                              try simp only [Act.put, List.setIfInBounds_toArray, List.set_cons_zero, List.set_cons_succ]
                              refine rgl_take 4 (some 215) _ (by kernel_rfl) (by kernel_rfl) (by kernel_rfl) (by kernel_rfl) (fun _ _ _ h => h) (by kernel_rfl) (by kernel_rfl) (by intro w' hSw op_ ho; simp only [List.getElem?_toArray, List.getElem?_cons_succ, List.getElem?_cons_zero, Option.some.injEq] at ho; subst ho; subst hSw; go_simp; with_reducible rfl) (by assumption) ?_
                              try simp only [Act.put, List.setIfInBounds_toArray, List.set_cons_zero, List.set_cons_succ]
                              refine rgl_take 5 (some 216) _ (by kernel_rfl) (by kernel_rfl) (by kernel_rfl) (by kernel_rfl) (fun _ _ _ h => h) (by kernel_rfl) (by kernel_rfl) (by intro w' hSw op_ ho; simp only [List.getElem?_toArray, List.getElem?_cons_succ, List.getElem?_cons_zero, Option.some.injEq] at ho; subst ho; subst hSw; go_simp; with_reducible rfl) (by assumption) ?_
                              try simp only [Act.put, List.setIfInBounds_toArray, List.set_cons_zero, List.set_cons_succ]
                              refine rgl_take 6 (some 217) _ (by kernel_rfl) (by kernel_rfl) (by kernel_rfl) (by kernel_rfl) (fun _ _ _ h => h) (by kernel_rfl) (by kernel_rfl) (by intro w' hSw op_ ho; simp only [List.getElem?_toArray, List.getElem?_cons_succ, List.getElem?_cons_zero, Option.some.injEq] at ho; subst ho; subst hSw; go_simp; with_reducible rfl) (by assumption) ?_
                              try simp only [Act.put, List.setIfInBounds_toArray, List.set_cons_zero, List.set_cons_succ]
                              refine rgl_take 7 (some 218) _ (by kernel_rfl) (by kernel_rfl) (by kernel_rfl) (by kernel_rfl) (fun _ _ _ h => h) (by kernel_rfl) (by kernel_rfl) (by intro w' hSw op_ ho; simp only [List.getElem?_toArray, List.getElem?_cons_succ, List.getElem?_cons_zero, Option.some.injEq] at ho; subst ho; subst hSw; go_simp; with_reducible rfl) (by assumption) ?_
                              try simp only [Act.put, List.setIfInBounds_toArray, List.set_cons_zero, List.set_cons_succ]
                              refine rgl_take 8 (some 219) _ (by kernel_rfl) (by kernel_rfl) (by kernel_rfl) (by kernel_rfl) (fun _ _ _ h => h) (by kernel_rfl) (by kernel_rfl) (by intro w' hSw op_ ho; simp only [List.getElem?_toArray, List.getElem?_cons_succ, List.getElem?_cons_zero, Option.some.injEq] at ho; subst ho; subst hSw; go_simp; with_reducible rfl) (by assumption) ?_
                              try simp only [Act.put, List.setIfInBounds_toArray, List.set_cons_zero, List.set_cons_succ]
                              refine rgl_take 9 (some 220) _ (by kernel_rfl) (by kernel_rfl) (by kernel_rfl) (by kernel_rfl) (fun _ _ _ h => h) (by kernel_rfl) (by kernel_rfl) (by intro w' hSw op_ ho; simp only [List.getElem?_toArray, List.getElem?_cons_succ, List.getElem?_cons_zero, Option.some.injEq] at ho; subst ho; subst hSw; go_simp; with_reducible rfl) (by assumption) ?_
                              try simp only [Act.put, List.setIfInBounds_toArray, List.set_cons_zero, List.set_cons_succ]
                              refine rgl_last (by kernel_rfl) (by kernel_rfl) (by kernel_rfl) (fun op_ ho KK hK => ?_)
                              simp only [List.getElem?_toArray, List.getElem?_cons_succ, List.getElem?_cons_zero, Option.some.injEq] at ho
                              subst ho
                              go_simp
                              refine hK.out _ _ ?_
                              clear hK
                              try simp only [Act.put, List.setIfInBounds_toArray, List.set_cons_zero, List.set_cons_succ]
                              clear hHeld hcm hnm gl17 gl21 gf17
                              go_wp2_with fail
                              go_roundg (4 - (m + 1))
                              case measure => omega
                              case rel =>
                                refine ⟨m + 1, by go_num, by omega, Nat.le_refl _, (HTD.out.put HVD.out HG17.out.1 HG17.out.2 _ _).on ((Below.refl _ _).drew), ?_, HST.out⟩
                                exact (heap_setCell_other _ ⟨g17, m, none⟩ g21 _ fun (e : g21 = g17) => by have h := HXD.out; rw [e, HVD.out] at h; simp at h).trans HXD.out
                            · obtain rfl : m = 4 := by omega
                              go_wp2_with fail
                              go_roundg (on.length - (j + 1))
                              case measure => omega
                              case rel =>
                                refine ⟨j + 1, by go_num, by rw [HFF.out], by omega, Nat.le_refl _, HTD.out, addTo 4 rj g.need, fun r => ?_, HVD.out⟩
                                rw [HFF.out, if_pos rfl, ← HNE4.out]
                                have h1 := HRJ.out r
                                simp only [Bool.false_eq_true, if_false, Int.add_zero] at h1
                                rw [← h1, addTo_four]
                                rcases r with _ | _ | _ | r <;> rfl
                        · rw [decide_eq_false heq] at hE
                          have HFF : Hid (((on.take (j + 1)).any fun g => decide (g.task = t.task)) = fd) := Lib.hid (by rw [HTK3.out, List.any_append, HFD.out]; simp [heq])
                          clear heq
                          go_upto_region 41 with fail
                          refine wp_region_held_drew (S := fun W => W = W8.drew) (by kernel_rfl) rfl (fun hHeld => ?_)
                          refine rg_take 0 (some 191) _ (by kernel_rfl) (by kernel_rfl) (by kernel_rfl) (fun _ _ _ h => h) (by kernel_rfl) (by kernel_rfl) (by intro w' hSw op_ ho; simp only [List.getElem?_toArray, List.getElem?_cons_zero, Option.some.injEq] at ho; subst ho; subst hSw; go_simp; with_reducible rfl) (by assumption) ?_
                          try simp only [Act.put, List.setIfInBounds_toArray, List.set_cons_zero, List.set_cons_succ]
                          refine rg_take 1 (some 192) _ (by kernel_rfl) (by kernel_rfl) (by kernel_rfl) (fun _ _ _ h => h) (by kernel_rfl) (by kernel_rfl) (by intro w' hSw op_ ho; simp only [List.getElem?_toArray, List.getElem?_cons_succ, List.getElem?_cons_zero, Option.some.injEq] at ho; subst ho; subst hSw; go_simp; with_reducible rfl) (by assumption) ?_
                          try simp only [Act.put, List.setIfInBounds_toArray, List.set_cons_zero, List.set_cons_succ]
                          refine rg_take 2 (some 193) _ (by kernel_rfl) (by kernel_rfl) (by kernel_rfl) (fun _ _ _ h => h) (by kernel_rfl) (by kernel_rfl) (by intro w' hSw op_ ho; simp only [List.getElem?_toArray, List.getElem?_cons_succ, List.getElem?_cons_zero, Option.some.injEq] at ho; subst ho; subst hSw; go_simp; with_reducible rfl) (by assumption) ?_
                          try simp only [Act.put, List.setIfInBounds_toArray, List.set_cons_zero, List.set_cons_succ]
                          refine rg_take 3 (some 194) _ (by kernel_rfl) (by kernel_rfl) (by kernel_rfl) (fun _ _ _ h => h) (by kernel_rfl) (by kernel_rfl) (by intro w' hSw op_ ho; simp only [List.getElem?_toArray, List.getElem?_cons_succ, List.getElem?_cons_zero, Option.some.injEq] at ho; subst ho; subst hSw; go_simp; with_reducible rfl) (by assumption) ?_
                          try simp only [Act.put, List.setIfInBounds_toArray, List.set_cons_zero, List.set_cons_succ]
                          refine rg_take 4 (some 195) _ (by kernel_rfl) (by kernel_rfl) (by kernel_rfl) (fun _ _ _ h => h) (by kernel_rfl) (by kernel_rfl) (by intro w' hSw op_ ho; simp only [List.getElem?_toArray, List.getElem?_cons_succ, List.getElem?_cons_zero, Option.some.injEq] at ho; subst ho; subst hSw; go_simp; with_reducible rfl) (by assumption) ?_
                          try simp only [Act.put, List.setIfInBounds_toArray, List.set_cons_zero, List.set_cons_succ]
                          refine rg_take 5 (some 196) _ (by kernel_rfl) (by kernel_rfl) (by kernel_rfl) (fun _ _ _ h => h) (by kernel_rfl) (by kernel_rfl) (by intro w' hSw op_ ho; simp only [List.getElem?_toArray, List.getElem?_cons_succ, List.getElem?_cons_zero, Option.some.injEq] at ho; subst ho; subst hSw; go_simp; with_reducible rfl) (by assumption) ?_
                          try simp only [Act.put, List.setIfInBounds_toArray, List.set_cons_zero, List.set_cons_succ]
                          refine rg_take 6 (some 197) _ (by kernel_rfl) (by kernel_rfl) (by kernel_rfl) (fun _ _ _ h => h) (by kernel_rfl) (by kernel_rfl) (by intro w' hSw op_ ho; simp only [List.getElem?_toArray, List.getElem?_cons_succ, List.getElem?_cons_zero, Option.some.injEq] at ho; subst ho; subst hSw; go_simp; with_reducible rfl) (by assumption) ?_
                          try simp only [Act.put, List.setIfInBounds_toArray, List.set_cons_zero, List.set_cons_succ]
                          refine rg_take 7 (some 198) _ (by kernel_rfl) (by kernel_rfl) (by kernel_rfl) (fun _ _ _ h => h) (by kernel_rfl) (by kernel_rfl) (by intro w' hSw op_ ho; simp only [List.getElem?_toArray, List.getElem?_cons_succ, List.getElem?_cons_zero, Option.some.injEq] at ho; subst ho; subst hSw; go_simp; with_reducible rfl) (by assumption) ?_
                          try simp only [Act.put, List.setIfInBounds_toArray, List.set_cons_zero, List.set_cons_succ]
                          refine wpAnyH_done (by kernel_rfl) ?_ _
                          clear hHeld
                          clear c1 x0 x1 cl xl o0 o1 hado hpo hE
                          go_wp2_with fail
                          go_roundg (on.length - (j + 1))
                          case measure => omega
                          case rel => exact ⟨j + 1, by go_num, by rw [HFF.out], by omega, Nat.le_refl _, HT8.out.on ((Below.refl _ _).drew), rj, (fun r => by rw [HFF.out]; exact HRJ.out r), HV8.out⟩
                      · obtain rfl : j = on.length := by omega
                        have hz3 : ¬ (on.length : Int) < (on.length : Int) := by omega
                        rw [List.take_length] at HFD
                        have hfd : fd = true := by
                          rw [← HFD.out]
                          exact List.any_eq_true.2 ⟨t, HTO.out.1, by simp⟩
                        subst hfd
                        go_wp2_with fail
                        go_roundg (out.length - (k + 1))
                        case measure => omega
                        case rel =>
                          refine ⟨k + 1, by go_num, by omega, Nat.le_refl _, HT7.out, rj, fun r => ?_, HV7.out⟩
                          rw [HRJ.out r, HRM.out r, HTK2.out, needG_snoc, Int.add_assoc]
                          simp
                  · obtain rfl : k = out.length := by omega
                    have hz1 : ¬ (out.length : Int) < (out.length : Int) := by omega
                    rw [List.take_length] at HRM
                    have hfit : fitsV x rm = true := fits_comp.2 fun r => by rw [HRM.out r]; exact HGX.out r
                    have HFI := Lib.hid (lfits_c x rm wr)
                    rw [hfit] at HFI
                    have n0 := cell_of_heap HT7.out.need 0
                    have n1 := cell_of_heap HT7.out.need 1
                    have n2 := cell_of_heap HT7.out.need 2
                    have n3 := cell_of_heap HT7.out.need 3
                    have r0 := cell_of_heap HV7.out 0
                    have r1 := cell_of_heap HV7.out 1
                    have r2 := cell_of_heap HV7.out 2
                    have r3 := cell_of_heap HV7.out 3
                    simp at n0 n1 n2 n3 r0 r1 r2 r3
                    have nl := lt_of_row HT7.out.need
                    have rl := lt_of_row HV7.out
                    clear hfit
                    go_wp2_with fail
                    refine HFI.out.mono ?_
                    rintro e w9 ⟨rfl, b9⟩
                    have HT9 := Lib.hid (HT7.out.on b9)
                    clear b9 n0 n1 n2 n3 r0 r1 r2 r3 nl rl c1 cl
                    go_wp2_with fail
                    go_roundg (H.length - (i + 1))
                    case measure => omega
                    case rel => exact ⟨i + 1, by go_num, by omega, Nat.le_refl _, HT9.out⟩
              · have hide : (id != host) = true := by simp [hid]
                clear hid
                go_upto_region 31 with fail
                refine wp_region_held_drew (S := fun W => W = wr.drew) (by kernel_rfl) rfl (fun hHeld => ?_)
                refine rg_take 0 (some 153) _ (by kernel_rfl) (by kernel_rfl) (by kernel_rfl) (fun _ _ _ h => h) (by kernel_rfl) (by kernel_rfl) (by intro w' hSw op_ ho; simp only [List.getElem?_toArray, List.getElem?_cons_zero, Option.some.injEq] at ho; subst ho; subst hSw; go_simp; with_reducible rfl) (by assumption) ?_
                try simp only [Act.put, List.setIfInBounds_toArray, List.set_cons_zero, List.set_cons_succ]
                refine rg_take 1 (some 154) _ (by kernel_rfl) (by kernel_rfl) (by kernel_rfl) (fun _ _ _ h => h) (by kernel_rfl) (by kernel_rfl) (by intro w' hSw op_ ho; simp only [List.getElem?_toArray, List.getElem?_cons_succ, List.getElem?_cons_zero, Option.some.injEq] at ho; subst ho; subst hSw; go_simp; with_reducible rfl) (by assumption) ?_
                try simp only [Act.put, List.setIfInBounds_toArray, List.set_cons_zero, List.set_cons_succ]
                refine rg_take 2 (some 155) _ (by kernel_rfl) (by kernel_rfl) (by kernel_rfl) (fun _ _ _ h => h) (by kernel_rfl) (by kernel_rfl) (by intro w' hSw op_ ho; simp only [List.getElem?_toArray, List.getElem?_cons_succ, List.getElem?_cons_zero, Option.some.injEq] at ho; subst ho; subst hSw; go_simp; with_reducible rfl) (by assumption) ?_
                try simp only [Act.put, List.setIfInBounds_toArray, List.set_cons_zero, List.set_cons_succ]
                refine rg_take 3 (some 156) _ (by kernel_rfl) (by kernel_rfl) (by kernel_rfl) (fun _ _ _ h => h) (by kernel_rfl) (by kernel_rfl) (by intro w' hSw op_ ho; simp only [List.getElem?_toArray, List.getElem?_cons_succ, List.getElem?_cons_zero, Option.some.injEq] at ho; subst ho; subst hSw; go_simp; with_reducible rfl) (by assumption) ?_
                try simp only [Act.put, List.setIfInBounds_toArray, List.set_cons_zero, List.set_cons_succ]
                refine rg_take 4 (some 157) _ (by kernel_rfl) (by kernel_rfl) (by kernel_rfl) (fun _ _ _ h => h) (by kernel_rfl) (by kernel_rfl) (by intro w' hSw op_ ho; simp only [List.getElem?_toArray, List.getElem?_cons_succ, List.getElem?_cons_zero, Option.some.injEq] at ho; subst ho; subst hSw; go_simp; with_reducible rfl) (by assumption) ?_
                try simp only [Act.put, List.setIfInBounds_toArray, List.set_cons_zero, List.set_cons_succ]
                refine rg_take 5 (some 158) _ (by kernel_rfl) (by kernel_rfl) (by kernel_rfl) (fun _ _ _ h => h) (by kernel_rfl) (by kernel_rfl) (by intro w' hSw op_ ho; simp only [List.getElem?_toArray, List.getElem?_cons_succ, List.getElem?_cons_zero, Option.some.injEq] at ho; subst ho; subst hSw; go_simp; with_reducible rfl) (by assumption) ?_
                try simp only [Act.put, List.setIfInBounds_toArray, List.set_cons_zero, List.set_cons_succ]
                refine rg_take 6 (some 159) _ (by kernel_rfl) (by kernel_rfl) (by kernel_rfl) (fun _ _ _ h => h) (by kernel_rfl) (by kernel_rfl) (by intro w' hSw op_ ho; simp only [List.getElem?_toArray, List.getElem?_cons_succ, List.getElem?_cons_zero, Option.some.injEq] at ho; subst ho; subst hSw; go_simp; with_reducible rfl) (by assumption) ?_
                try simp only [Act.put, List.setIfInBounds_toArray, List.set_cons_zero, List.set_cons_succ]
                refine rg_take 7 (some 160) _ (by kernel_rfl) (by kernel_rfl) (by kernel_rfl) (fun _ _ _ h => h) (by kernel_rfl) (by kernel_rfl) (by intro w' hSw op_ ho; simp only [List.getElem?_toArray, List.getElem?_cons_succ, List.getElem?_cons_zero, Option.some.injEq] at ho; subst ho; subst hSw; go_simp; with_reducible rfl) (by assumption) ?_
                try simp only [Act.put, List.setIfInBounds_toArray, List.set_cons_zero, List.set_cons_succ]
                refine wpAnyH_done (by kernel_rfl) ?_ _
                clear hHeld
                clear v0 c0 cl hpl
                go_wp2_with fail
                go_roundg (H.length - (i + 1))
                case measure => omega
                case rel => exact ⟨i + 1, by go_num, by omega, Nat.le_refl _, HT6.out.on ((Below.refl _ _).drew)⟩
            · obtain rfl : i = H.length := by omega
              have hz1 : ¬ (H.length : Int) < (H.length : Int) := by omega
              go_wp2_with fail
              go_meet
              exact HT6.out
        case rest =>
        clear HT6
        have HT6 := Lib.hid hcut
        clear hcut
        go_upto_region 54 with fail
        go_loopg [23] out.length (fun gk s23 wr => ∃ (i : Nat), s23 = .int .i64 i ∧ i ≤ out.length ∧ out.length - i ≤ gk ∧ Aside (FairSt w x g5 g14 host Bo cb out wr))
        case atStart => exact ⟨0, rfl, Nat.zero_le _, Nat.le_refl _, HT6.out⟩
        case round =>
          obtain ⟨i, rfl, hi, hgi, IN⟩ := hrel
          clear HT6
          have HT6 := Lib.hid IN.out
          clear IN
          have c1 := cell_of_heap HT6.out.ch 1
          simp at c1
          have cl := lt_of_row HT6.out.ch
          by_cases hlt : i < out.length
          · obtain ⟨t, ht⟩ : ∃ t, out[i]? = some t := ⟨_, List.getElem?_eq_getElem hlt⟩
            have hltz : (i : Int) < (out.length : Int) := by omega
            have hi0 : (0 : Int) ≤ (i : Int) := by omega
            have HMY : Hid ((cntJ t.task.job out : Int) ≤ alS S t.task.job) := Lib.hid (HF.out.many rfl t (List.mem_of_getElem? ht))
            have HPO : Hid (0 < cntJ t.task.job out) := Lib.hid (List.countP_pos_iff.2 ⟨t, List.mem_of_getElem? ht, by simp⟩)
            have HOI : Hid (∀ W, FairSt w x g5 g14 host Bo cb out W → ∃ ado p, Bo = some ado ∧ ado.add (i * 2) = p ∧ p.block < W.heap.size ∧ W.cell? p = some (.int .i64 t.task.job)) := Lib.hid fun W hW => by
              obtain ⟨ado, p, h1, h2, h3, h4⟩ := hW.reads i t.task (by rw [List.getElem?_map, ht]; rfl)
              exact ⟨ado, p, h1, h2, h3, (congrArg W.cell? (add_zeroE p).symm).trans (h4 0 _ rfl)⟩
            obtain ⟨job, hjob⟩ : ∃ j, t.task.job = j := ⟨_, rfl⟩
            rw [hjob] at HMY HOI HPO
            clear ht hjob
            go_upto_region 58 with fail
            go_loopg [24, 25] out.length (fun gk s24 s25 wr => ∃ (k n : Nat), s25 = .int .i64 k ∧ s24 = .int .i64 n ∧ n = cntJ job (out.take k) ∧ k ≤ out.length ∧ out.length - k ≤ gk ∧ Aside (FairSt w x g5 g14 host Bo cb out wr))
            case atStart => exact ⟨0, 0, rfl, rfl, rfl, Nat.zero_le _, Nat.le_refl _, HT6.out⟩
            case round =>
              obtain ⟨k, n, rfl, rfl, hn, hk, hgk, IN⟩ := hrel
              clear HT6 c1 cl
              have HT6 := Lib.hid IN.out
              clear IN
              have HN := Lib.hid hn
              have hnk : n ≤ k := by
                rw [hn]
                exact Nat.le_trans List.countP_le_length (by rw [List.length_take]; omega)
              clear hn
              have c1 := cell_of_heap HT6.out.ch 1
              simp at c1
              have cl := lt_of_row HT6.out.ch
              by_cases hlt2 : k < out.length
              · obtain ⟨u, hu⟩ : ∃ u, out[k]? = some u := ⟨_, List.getElem?_eq_getElem hlt2⟩
                have hltz2 : (k : Int) < (out.length : Int) := by omega
                have hk0 : (0 : Int) ≤ (k : Int) := by omega
                have HTK2 : Hid (out.take (k + 1) = out.take k ++ [u]) := Lib.hid (by rw [List.take_add_one, hu, Option.toList_some])
                obtain ⟨ado, p, rfl, hap, hpl, p0⟩ := HOI.out wr HT6.out
                obtain ⟨ado', p', ho', hap', hpl', h4'⟩ := HT6.out.reads k u.task (by rw [List.getElem?_map, hu]; rfl)
                obtain rfl := Option.some.inj ho'
                have q0 : wr.cell? p' = some (.int .i64 u.task.job) := (congrArg wr.cell? (add_zeroE p').symm).trans (h4' 0 _ rfl)
                clear hu h4' ho'
                by_cases hj : u.task.job = job
                · have HC : Hid (n + 1 = cntJ job (out.take (k + 1))) := Lib.hid (by rw [HTK2.out, HN.out]; unfold cntJ; rw [List.countP_append, List.countP_singleton]; simp [hj])
                  rw [hj] at q0
                  clear hj
                  go_upto_region 60 with fail
                  refine wp_region_held_drew (S := fun W => W = wr.drew) (by kernel_rfl) rfl (fun hHeld => ?_)
                  refine rg_take 0 (some 241) _ (by kernel_rfl) (by kernel_rfl) (by kernel_rfl) (fun _ _ _ h => h) (by kernel_rfl) (by kernel_rfl) (by intro w' hSw op_ ho; simp only [List.getElem?_toArray, List.getElem?_cons_zero, Option.some.injEq] at ho; subst ho; subst hSw; go_simp; with_reducible rfl) (by assumption) ?_
                  try simp only [Act.put, List.setIfInBounds_toArray, List.set_cons_zero, List.set_cons_succ]
                  refine rg_take 1 (some 242) _ (by kernel_rfl) (by kernel_rfl) (by kernel_rfl) (fun _ _ _ h => h) (by kernel_rfl) (by kernel_rfl) (by intro w' hSw op_ ho; simp only [List.getElem?_toArray, List.getElem?_cons_succ, List.getElem?_cons_zero, Option.some.injEq] at ho; subst ho; subst hSw; go_simp; with_reducible rfl) (by assumption) ?_
                  try simp only [Act.put, List.setIfInBounds_toArray, List.set_cons_zero, List.set_cons_succ]
                  refine rg_take 2 (some 243) _ (by kernel_rfl) (by kernel_rfl) (by kernel_rfl) (fun _ _ _ h => h) (by kernel_rfl) (by kernel_rfl) (by intro w' hSw op_ ho; simp only [List.getElem?_toArray, List.getElem?_cons_succ, List.getElem?_cons_zero, Option.some.injEq] at ho; subst ho; subst hSw; go_simp; with_reducible rfl) (by assumption) ?_
                  try simp only [Act.put, List.setIfInBounds_toArray, List.set_cons_zero, List.set_cons_succ]
                  refine rg_take 3 (some 244) _ (by kernel_rfl) (by kernel_rfl) (by kernel_rfl) (fun _ _ _ h => h) (by kernel_rfl) (by kernel_rfl) (by intro w' hSw op_ ho; simp only [List.getElem?_toArray, List.getElem?_cons_succ, List.getElem?_cons_zero, Option.some.injEq] at ho; subst ho; subst hSw; go_simp; with_reducible rfl) (by assumption) ?_
                  try simp only [Act.put, List.setIfInBounds_toArray, List.set_cons_zero, List.set_cons_succ]
                  refine rg_take 4 (some 245) _ (by kernel_rfl) (by kernel_rfl) (by kernel_rfl) (fun _ _ _ h => h) (by kernel_rfl) (by kernel_rfl) (by intro w' hSw op_ ho; simp only [List.getElem?_toArray, List.getElem?_cons_succ, List.getElem?_cons_zero, Option.some.injEq] at ho; subst ho; subst hSw; go_simp; with_reducible rfl) (by assumption) ?_
                  try simp only [Act.put, List.setIfInBounds_toArray, List.set_cons_zero, List.set_cons_succ]
                  refine rg_take 5 (some 246) _ (by kernel_rfl) (by kernel_rfl) (by kernel_rfl) (fun _ _ _ h => h) (by kernel_rfl) (by kernel_rfl) (by intro w' hSw op_ ho; simp only [List.getElem?_toArray, List.getElem?_cons_succ, List.getElem?_cons_zero, Option.some.injEq] at ho; subst ho; subst hSw; go_simp; with_reducible rfl) (by assumption) ?_
                  try simp only [Act.put, List.setIfInBounds_toArray, List.set_cons_zero, List.set_cons_succ]
                  refine rg_take 6 (some 247) _ (by kernel_rfl) (by kernel_rfl) (by kernel_rfl) (fun _ _ _ h => h) (by kernel_rfl) (by kernel_rfl) (by intro w' hSw op_ ho; simp only [List.getElem?_toArray, List.getElem?_cons_succ, List.getElem?_cons_zero, Option.some.injEq] at ho; subst ho; subst hSw; go_simp; with_reducible rfl) (by assumption) ?_
                  try simp only [Act.put, List.setIfInBounds_toArray, List.set_cons_zero, List.set_cons_succ]
                  refine rg_take 7 (some 248) _ (by kernel_rfl) (by kernel_rfl) (by kernel_rfl) (fun _ _ _ h => h) (by kernel_rfl) (by kernel_rfl) (by intro w' hSw op_ ho; simp only [List.getElem?_toArray, List.getElem?_cons_succ, List.getElem?_cons_zero, Option.some.injEq] at ho; subst ho; subst hSw; go_simp; with_reducible rfl) (by assumption) ?_
                  try simp only [Act.put, List.setIfInBounds_toArray, List.set_cons_zero, List.set_cons_succ]
                  refine rg_take 8 (some 249) _ (by kernel_rfl) (by kernel_rfl) (by kernel_rfl) (fun _ _ _ h => h) (by kernel_rfl) (by kernel_rfl) (by intro w' hSw op_ ho; simp only [List.getElem?_toArray, List.getElem?_cons_succ, List.getElem?_cons_zero, Option.some.injEq] at ho; subst ho; subst hSw; go_simp; with_reducible rfl) (by assumption) ?_
                  try simp only [Act.put, List.setIfInBounds_toArray, List.set_cons_zero, List.set_cons_succ]
                  refine rg_take 9 (some 250) _ (by kernel_rfl) (by kernel_rfl) (by kernel_rfl) (fun _ _ _ h => h) (by kernel_rfl) (by kernel_rfl) (by intro w' hSw op_ ho; simp only [List.getElem?_toArray, List.getElem?_cons_succ, List.getElem?_cons_zero, Option.some.injEq] at ho; subst ho; subst hSw; go_simp; with_reducible rfl) (by assumption) ?_
                  try simp only [Act.put, List.setIfInBounds_toArray, List.set_cons_zero, List.set_cons_succ]
                  refine rg_take 10 (some 251) _ (by kernel_rfl) (by kernel_rfl) (by kernel_rfl) (fun _ _ _ h => h) (by kernel_rfl) (by kernel_rfl) (by intro w' hSw op_ ho; simp only [List.getElem?_toArray, List.getElem?_cons_succ, List.getElem?_cons_zero, Option.some.injEq] at ho; subst ho; subst hSw; go_simp; with_reducible rfl) (by assumption) ?_
                  try simp only [Act.put, List.setIfInBounds_toArray, List.set_cons_zero, List.set_cons_succ]
                  refine rg_take 11 (some 252) _ (by kernel_rfl) (by kernel_rfl) (by kernel_rfl) (fun _ _ _ h => h) (by kernel_rfl) (by kernel_rfl) (by intro w' hSw op_ ho; simp only [List.getElem?_toArray, List.getElem?_cons_succ, List.getElem?_cons_zero, Option.some.injEq] at ho; subst ho; subst hSw; go_simp; with_reducible rfl) (by assumption) ?_
                  try simp only [Act.put, List.setIfInBounds_toArray, List.set_cons_zero, List.set_cons_succ]
                  refine rg_take 12 (some 253) _ (by kernel_rfl) (by kernel_rfl) (by kernel_rfl) (fun _ _ _ h => h) (by kernel_rfl) (by kernel_rfl) (by intro w' hSw op_ ho; simp only [List.getElem?_toArray, List.getElem?_cons_succ, List.getElem?_cons_zero, Option.some.injEq] at ho; subst ho; subst hSw; go_simp; with_reducible rfl) (by assumption) ?_
                  try simp only [Act.put, List.setIfInBounds_toArray, List.set_cons_zero, List.set_cons_succ]
                  refine wpAnyH_done (by kernel_rfl) ?_ _
                  clear hHeld
                  clear c1 cl hap hap' hpl hpl' p0 q0
                  go_wp2_with fail
                  go_roundg (out.length - (k + 1))
                  case measure => omega
                  case rel => exact ⟨k + 1, n + 1, by go_num, by go_num, HC.out, by omega, Nat.le_refl _, HT6.out.on ((Below.refl _ _).drew)⟩
                · have HC : Hid (n = cntJ job (out.take (k + 1))) := Lib.hid (by rw [HTK2.out, HN.out]; unfold cntJ; rw [List.countP_append, List.countP_singleton]; simp [hj])
                  have hjf : (u.task.job == job) = false := beq_eq_false_iff_ne.2 hj
                  go_upto_region 60 with fail
                  refine wp_region_held_drew (S := fun W => W = wr.drew) (by kernel_rfl) rfl (fun hHeld => ?_)
                  refine rg_take 0 (some 241) _ (by kernel_rfl) (by kernel_rfl) (by kernel_rfl) (fun _ _ _ h => h) (by kernel_rfl) (by kernel_rfl) (by intro w' hSw op_ ho; simp only [List.getElem?_toArray, List.getElem?_cons_zero, Option.some.injEq] at ho; subst ho; subst hSw; go_simp; with_reducible rfl) (by assumption) ?_
                  try simp only [Act.put, List.setIfInBounds_toArray, List.set_cons_zero, List.set_cons_succ]
                  refine rg_take 1 (some 242) _ (by kernel_rfl) (by kernel_rfl) (by kernel_rfl) (fun _ _ _ h => h) (by kernel_rfl) (by kernel_rfl) (by intro w' hSw op_ ho; simp only [List.getElem?_toArray, List.getElem?_cons_succ, List.getElem?_cons_zero, Option.some.injEq] at ho; subst ho; subst hSw; go_simp; with_reducible rfl) (by assumption) ?_
                  try simp only [Act.put, List.setIfInBounds_toArray, List.set_cons_zero, List.set_cons_succ]
                  refine rg_take 2 (some 243) _ (by kernel_rfl) (by kernel_rfl) (by kernel_rfl) (fun _ _ _ h => h) (by kernel_rfl) (by kernel_rfl) (by intro w' hSw op_ ho; simp only [List.getElem?_toArray, List.getElem?_cons_succ, List.getElem?_cons_zero, Option.some.injEq] at ho; subst ho; subst hSw; go_simp; with_reducible rfl) (by assumption) ?_
                  try simp only [Act.put, List.setIfInBounds_toArray, List.set_cons_zero, List.set_cons_succ]
                  refine rg_take 3 (some 244) _ (by kernel_rfl) (by kernel_rfl) (by kernel_rfl) (fun _ _ _ h => h) (by kernel_rfl) (by kernel_rfl) (by intro w' hSw op_ ho; simp only [List.getElem?_toArray, List.getElem?_cons_succ, List.getElem?_cons_zero, Option.some.injEq] at ho; subst ho; subst hSw; go_simp; with_reducible rfl) (by assumption) ?_
                  try simp only [Act.put, List.setIfInBounds_toArray, List.set_cons_zero, List.set_cons_succ]
                  refine rg_take 4 (some 245) _ (by kernel_rfl) (by kernel_rfl) (by kernel_rfl) (fun _ _ _ h => h) (by kernel_rfl) (by kernel_rfl) (by intro w' hSw op_ ho; simp only [List.getElem?_toArray, List.getElem?_cons_succ, List.getElem?_cons_zero, Option.some.injEq] at ho; subst ho; subst hSw; go_simp; with_reducible rfl) (by assumption) ?_
                  try simp only [Act.put, List.setIfInBounds_toArray, List.set_cons_zero, List.set_cons_succ]
                  refine rg_take 5 (some 246) _ (by kernel_rfl) (by kernel_rfl) (by kernel_rfl) (fun _ _ _ h => h) (by kernel_rfl) (by kernel_rfl) (by intro w' hSw op_ ho; simp only [List.getElem?_toArray, List.getElem?_cons_succ, List.getElem?_cons_zero, Option.some.injEq] at ho; subst ho; subst hSw; go_simp; with_reducible rfl) (by assumption) ?_
                  try simp only [Act.put, List.setIfInBounds_toArray, List.set_cons_zero, List.set_cons_succ]
                  refine rg_take 6 (some 247) _ (by kernel_rfl) (by kernel_rfl) (by kernel_rfl) (fun _ _ _ h => h) (by kernel_rfl) (by kernel_rfl) (by intro w' hSw op_ ho; simp only [List.getElem?_toArray, List.getElem?_cons_succ, List.getElem?_cons_zero, Option.some.injEq] at ho; subst ho; subst hSw; go_simp; with_reducible rfl) (by assumption) ?_
                  try simp only [Act.put, List.setIfInBounds_toArray, List.set_cons_zero, List.set_cons_succ]
                  refine rg_take 7 (some 248) _ (by kernel_rfl) (by kernel_rfl) (by kernel_rfl) (fun _ _ _ h => h) (by kernel_rfl) (by kernel_rfl) (by intro w' hSw op_ ho; simp only [List.getElem?_toArray, List.getElem?_cons_succ, List.getElem?_cons_zero, Option.some.injEq] at ho; subst ho; subst hSw; go_simp; with_reducible rfl) (by assumption) ?_
                  try simp only [Act.put, List.setIfInBounds_toArray, List.set_cons_zero, List.set_cons_succ]
                  refine rg_take 8 (some 249) _ (by kernel_rfl) (by kernel_rfl) (by kernel_rfl) (fun _ _ _ h => h) (by kernel_rfl) (by kernel_rfl) (by intro w' hSw op_ ho; simp only [List.getElem?_toArray, List.getElem?_cons_succ, List.getElem?_cons_zero, Option.some.injEq] at ho; subst ho; subst hSw; go_simp; with_reducible rfl) (by assumption) ?_
                  try simp only [Act.put, List.setIfInBounds_toArray, List.set_cons_zero, List.set_cons_succ]
                  refine rg_take 9 (some 250) _ (by kernel_rfl) (by kernel_rfl) (by kernel_rfl) (fun _ _ _ h => h) (by kernel_rfl) (by kernel_rfl) (by intro w' hSw op_ ho; simp only [List.getElem?_toArray, List.getElem?_cons_succ, List.getElem?_cons_zero, Option.some.injEq] at ho; subst ho; subst hSw; go_simp; with_reducible rfl) (by assumption) ?_
                  try simp only [Act.put, List.setIfInBounds_toArray, List.set_cons_zero, List.set_cons_succ]
                  refine rg_take 10 (some 251) _ (by kernel_rfl) (by kernel_rfl) (by kernel_rfl) (fun _ _ _ h => h) (by kernel_rfl) (by kernel_rfl) (by intro w' hSw op_ ho; simp only [List.getElem?_toArray, List.getElem?_cons_succ, List.getElem?_cons_zero, Option.some.injEq] at ho; subst ho; subst hSw; go_simp; with_reducible rfl) (by assumption) ?_
                  try simp only [Act.put, List.setIfInBounds_toArray, List.set_cons_zero, List.set_cons_succ]
                  refine rg_take 11 (some 252) _ (by kernel_rfl) (by kernel_rfl) (by kernel_rfl) (fun _ _ _ h => h) (by kernel_rfl) (by kernel_rfl) (by intro w' hSw op_ ho; simp only [List.getElem?_toArray, List.getElem?_cons_succ, List.getElem?_cons_zero, Option.some.injEq] at ho; subst ho; subst hSw; go_simp; with_reducible rfl) (by assumption) ?_
                  try simp only [Act.put, List.setIfInBounds_toArray, List.set_cons_zero, List.set_cons_succ]
                  refine rg_take 12 (some 253) _ (by kernel_rfl) (by kernel_rfl) (by kernel_rfl) (fun _ _ _ h => h) (by kernel_rfl) (by kernel_rfl) (by intro w' hSw op_ ho; simp only [List.getElem?_toArray, List.getElem?_cons_succ, List.getElem?_cons_zero, Option.some.injEq] at ho; subst ho; subst hSw; go_simp; with_reducible rfl) (by assumption) ?_
                  try simp only [Act.put, List.setIfInBounds_toArray, List.set_cons_zero, List.set_cons_succ]
                  refine wpAnyH_done (by kernel_rfl) ?_ _
                  clear hHeld
                  clear c1 cl hap hap' hpl hpl' p0 q0
                  go_wp2_with fail
                  go_roundg (out.length - (k + 1))
                  case measure => omega
                  case rel => exact ⟨k + 1, n, by go_num, rfl, HC.out, by omega, Nat.le_refl _, HT6.out.on ((Below.refl _ _).drew)⟩
              · obtain rfl : k = out.length := by omega
                have hz1 : ¬ (out.length : Int) < (out.length : Int) := by omega
                rw [List.take_length] at HN
                go_upto_region 64 with fail
                clear c1 cl
                go_loopg [26, 27] S.length (fun gk s26 s27 wr => ∃ (m : Nat) (v : Int), s27 = .int .i64 ((m : Int) - 1) ∧ s26 = .int .i64 v ∧ v = mayS (S.drop m) job ∧ m ≤ S.length ∧ m ≤ gk ∧ Aside (FairSt w x g5 g14 host Bo cb out wr))
                case atStart => exact ⟨S.length, 0, by go_num, rfl, by rw [List.drop_length]; rfl, Nat.le_refl _, Nat.le_refl _, HT6.out⟩
                case round =>
                  obtain ⟨m, v, rfl, rfl, hv, hm, hgm, IN⟩ := hrel
                  clear HT6
                  have HT6 := Lib.hid IN.out
                  clear IN
                  have HVM := Lib.hid hv
                  clear hv
                  by_cases hm0 : m = 0
                  · subst hm0
                    have hge : ¬ (0 : Int) ≤ ((0 : Nat) : Int) - 1 := by omega
                    have hnv : ¬ v < (n : Int) := by
                      have h1 := HMY.out
                      have h2 := may_al S job
                      have h3 := HVM.out
                      rw [List.drop_zero] at h3
                      have h4 := HPO.out
                      rw [← HN.out] at h1 h4
                      rw [h2, ← h3] at h1
                      omega
                    go_wp2_with fail
                    go_roundg (out.length - (i + 1))
                    case measure => omega
                    case rel => exact ⟨i + 1, by go_num, by omega, Nat.le_refl _, HT6.out⟩
                  · obtain ⟨a, rfl⟩ : ∃ a, m = a + 1 := ⟨m - 1, by omega⟩
                    have hma : ((a + 1 : Nat) : Int) - 1 = (a : Int) := by omega
                    rw [hma]
                    have ha0 : (0 : Int) ≤ (a : Int) := by omega
                    have has : (a : Int) < (S.length : Int) := by omega
                    obtain ⟨u, hu⟩ : ∃ u, S[a]? = some u := ⟨_, List.getElem?_eq_getElem (by omega)⟩
                    obtain ⟨ads, ps, rfl, hps, hpsl, hsc⟩ := HSP.out a u hu
                    have HSC : Hid (∀ W, Below w.heap.size w W → ps.block < W.heap.size ∧ W.cell? ps = some (.int .i64 u.job) ∧ W.cell? ⟨ps.block, ps.off + 1, none⟩ = some (.int .i64 u.left)) := Lib.hid fun W hW => ⟨Nat.lt_of_lt_of_le hpsl hW.size, (hW.cell (p := ps) hpsl).trans ((congrArg w.cell? (add_zeroE ps).symm).trans (hsc 0 _ rfl)), (hW.cell (p := ⟨ps.block, ps.off + 1, none⟩) hpsl).trans (hsc 1 _ rfl)⟩
                    have HMD := Lib.hid (mayS_drop hu job)
                    obtain ⟨ado, p, rfl, hap, hpl, p0⟩ := HOI.out wr HT6.out
                    obtain ⟨hpl', q0, q1⟩ := HSC.out wr HT6.out.low
                    have c1 := cell_of_heap HT6.out.ch 1
                    simp at c1
                    have cl := lt_of_row HT6.out.ch
                    clear hu hpsl hsc
                    by_cases hj : u.job = job
                    · have HV2 : Hid (u.left = mayS (S.drop a) job) := Lib.hid (by rw [HMD.out, if_pos hj])
                      rw [hj] at q0
                      clear hj
                      go_upto_region 66 with fail
                      refine wp_region_held_drew (S := fun W => W = wr.drew) (by kernel_rfl) rfl (fun hHeld => ?_)
                      refine rg_take 0 (some 263) _ (by kernel_rfl) (by kernel_rfl) (by kernel_rfl) (fun _ _ _ h => h) (by kernel_rfl) (by kernel_rfl) (by intro w' hSw op_ ho; simp only [List.getElem?_toArray, List.getElem?_cons_zero, Option.some.injEq] at ho; subst ho; subst hSw; go_simp; with_reducible rfl) (by assumption) ?_
                      try simp only [Act.put, List.setIfInBounds_toArray, List.set_cons_zero, List.set_cons_succ]
                      refine rg_take 1 (some 264) _ (by kernel_rfl) (by kernel_rfl) (by kernel_rfl) (fun _ _ _ h => h) (by kernel_rfl) (by kernel_rfl) (by intro w' hSw op_ ho; simp only [List.getElem?_toArray, List.getElem?_cons_succ, List.getElem?_cons_zero, Option.some.injEq] at ho; subst ho; subst hSw; go_simp; with_reducible rfl) (by assumption) ?_
                      try simp only [Act.put, List.setIfInBounds_toArray, List.set_cons_zero, List.set_cons_succ]
                      refine rg_take 2 (some 265) _ (by kernel_rfl) (by kernel_rfl) (by kernel_rfl) (fun _ _ _ h => h) (by kernel_rfl) (by kernel_rfl) (by intro w' hSw op_ ho; simp only [List.getElem?_toArray, List.getElem?_cons_succ, List.getElem?_cons_zero, Option.some.injEq] at ho; subst ho; subst hSw; go_simp; with_reducible rfl) (by assumption) ?_
                      try simp only [Act.put, List.setIfInBounds_toArray, List.set_cons_zero, List.set_cons_succ]
                      refine rg_take 3 (some 266) _ (by kernel_rfl) (by kernel_rfl) (by kernel_rfl) (fun _ _ _ h => h) (by kernel_rfl) (by kernel_rfl) (by intro w' hSw op_ ho; simp only [List.getElem?_toArray, List.getElem?_cons_succ, List.getElem?_cons_zero, Option.some.injEq] at ho; subst ho; subst hSw; go_simp; with_reducible rfl) (by assumption) ?_
                      try simp only [Act.put, List.setIfInBounds_toArray, List.set_cons_zero, List.set_cons_succ]
                      refine rg_take 4 (some 267) _ (by kernel_rfl) (by kernel_rfl) (by kernel_rfl) (fun _ _ _ h => h) (by kernel_rfl) (by kernel_rfl) (by intro w' hSw op_ ho; simp only [List.getElem?_toArray, List.getElem?_cons_succ, List.getElem?_cons_zero, Option.some.injEq] at ho; subst ho; subst hSw; go_simp; with_reducible rfl) (by assumption) ?_
                      try simp only [Act.put, List.setIfInBounds_toArray, List.set_cons_zero, List.set_cons_succ]
                      refine rg_take 5 (some 268) _ (by kernel_rfl) (by kernel_rfl) (by kernel_rfl) (fun _ _ _ h => h) (by kernel_rfl) (by kernel_rfl) (by intro w' hSw op_ ho; simp only [List.getElem?_toArray, List.getElem?_cons_succ, List.getElem?_cons_zero, Option.some.injEq] at ho; subst ho; subst hSw; go_simp; with_reducible rfl) (by assumption) ?_
                      try simp only [Act.put, List.setIfInBounds_toArray, List.set_cons_zero, List.set_cons_succ]
                      refine rg_take 6 (some 269) _ (by kernel_rfl) (by kernel_rfl) (by kernel_rfl) (fun _ _ _ h => h) (by kernel_rfl) (by kernel_rfl) (by intro w' hSw op_ ho; simp only [List.getElem?_toArray, List.getElem?_cons_succ, List.getElem?_cons_zero, Option.some.injEq] at ho; subst ho; subst hSw; go_simp; with_reducible rfl) (by assumption) ?_
                      try simp only [Act.put, List.setIfInBounds_toArray, List.set_cons_zero, List.set_cons_succ]
                      refine rg_take 7 (some 270) _ (by kernel_rfl) (by kernel_rfl) (by kernel_rfl) (fun _ _ _ h => h) (by kernel_rfl) (by kernel_rfl) (by intro w' hSw op_ ho; simp only [List.getElem?_toArray, List.getElem?_cons_succ, List.getElem?_cons_zero, Option.some.injEq] at ho; subst ho; subst hSw; go_simp; with_reducible rfl) (by assumption) ?_
                      try simp only [Act.put, List.setIfInBounds_toArray, List.set_cons_zero, List.set_cons_succ]
                      refine rg_take 8 (some 271) _ (by kernel_rfl) (by kernel_rfl) (by kernel_rfl) (fun _ _ _ h => h) (by kernel_rfl) (by kernel_rfl) (by intro w' hSw op_ ho; simp only [List.getElem?_toArray, List.getElem?_cons_succ, List.getElem?_cons_zero, Option.some.injEq] at ho; subst ho; subst hSw; go_simp; with_reducible rfl) (by assumption) ?_
                      try simp only [Act.put, List.setIfInBounds_toArray, List.set_cons_zero, List.set_cons_succ]
                      refine rg_take 9 (some 272) _ (by kernel_rfl) (by kernel_rfl) (by kernel_rfl) (fun _ _ _ h => h) (by kernel_rfl) (by kernel_rfl) (by intro w' hSw op_ ho; simp only [List.getElem?_toArray, List.getElem?_cons_succ, List.getElem?_cons_zero, Option.some.injEq] at ho; subst ho; subst hSw; go_simp; with_reducible rfl) (by assumption) ?_
                      try simp only [Act.put, List.setIfInBounds_toArray, List.set_cons_zero, List.set_cons_succ]
                      refine rg_take 10 (some 273) _ (by kernel_rfl) (by kernel_rfl) (by kernel_rfl) (fun _ _ _ h => h) (by kernel_rfl) (by kernel_rfl) (by intro w' hSw op_ ho; simp only [List.getElem?_toArray, List.getElem?_cons_succ, List.getElem?_cons_zero, Option.some.injEq] at ho; subst ho; subst hSw; go_simp; with_reducible rfl) (by assumption) ?_
                      try simp only [Act.put, List.setIfInBounds_toArray, List.set_cons_zero, List.set_cons_succ]
                      refine rg_take 11 (some 274) _ (by kernel_rfl) (by kernel_rfl) (by kernel_rfl) (fun _ _ _ h => h) (by kernel_rfl) (by kernel_rfl) (by intro w' hSw op_ ho; simp only [List.getElem?_toArray, List.getElem?_cons_succ, List.getElem?_cons_zero, Option.some.injEq] at ho; subst ho; subst hSw; go_simp; with_reducible rfl) (by assumption) ?_
                      try simp only [Act.put, List.setIfInBounds_toArray, List.set_cons_zero, List.set_cons_succ]
                      refine wpAnyH_done (by kernel_rfl) ?_ _
                      clear hHeld
                      clear c1 cl hap hpl hpl' p0 q0 q1
                      obtain ⟨wd, hwd⟩ : ∃ wd, wr.drew = wd := ⟨_, rfl⟩
                      have HTD : Hid (FairSt w x g5 g14 host (some ado) cb out wd) := Lib.hid (by rw [← hwd]; exact HT6.out.on ((Below.refl _ _).drew))
                      rw [hwd]
                      clear hwd HT6
                      obtain ⟨hpl', q0, q1⟩ := HSC.out wd HTD.out.low
                      go_wp2_with fail
                      go_roundg a
                      case measure => omega
                      case rel => exact ⟨a, u.left, by go_num, rfl, HV2.out, by omega, Nat.le_refl _, HTD.out⟩
                    · have HV2 : Hid (v = mayS (S.drop a) job) := Lib.hid (by rw [HMD.out, if_neg hj]; exact HVM.out)
                      have hjf : (u.job == job) = false := beq_eq_false_iff_ne.2 hj
                      go_upto_region 66 with fail
                      refine wp_region_held_drew (S := fun W => W = wr.drew) (by kernel_rfl) rfl (fun hHeld => ?_)
                      refine rg_take 0 (some 263) _ (by kernel_rfl) (by kernel_rfl) (by kernel_rfl) (fun _ _ _ h => h) (by kernel_rfl) (by kernel_rfl) (by intro w' hSw op_ ho; simp only [List.getElem?_toArray, List.getElem?_cons_zero, Option.some.injEq] at ho; subst ho; subst hSw; go_simp; with_reducible rfl) (by assumption) ?_
                      try simp only [Act.put, List.setIfInBounds_toArray, List.set_cons_zero, List.set_cons_succ]
                      refine rg_take 1 (some 264) _ (by kernel_rfl) (by kernel_rfl) (by kernel_rfl) (fun _ _ _ h => h) (by kernel_rfl) (by kernel_rfl) (by intro w' hSw op_ ho; simp only [List.getElem?_toArray, List.getElem?_cons_succ, List.getElem?_cons_zero, Option.some.injEq] at ho; subst ho; subst hSw; go_simp; with_reducible rfl) (by assumption) ?_
                      try simp only [Act.put, List.setIfInBounds_toArray, List.set_cons_zero, List.set_cons_succ]
                      refine rg_take 2 (some 265) _ (by kernel_rfl) (by kernel_rfl) (by kernel_rfl) (fun _ _ _ h => h) (by kernel_rfl) (by kernel_rfl) (by intro w' hSw op_ ho; simp only [List.getElem?_toArray, List.getElem?_cons_succ, List.getElem?_cons_zero, Option.some.injEq] at ho; subst ho; subst hSw; go_simp; with_reducible rfl) (by assumption) ?_
                      try simp only [Act.put, List.setIfInBounds_toArray, List.set_cons_zero, List.set_cons_succ]
                      refine rg_take 3 (some 266) _ (by kernel_rfl) (by kernel_rfl) (by kernel_rfl) (fun _ _ _ h => h) (by kernel_rfl) (by kernel_rfl) (by intro w' hSw op_ ho; simp only [List.getElem?_toArray, List.getElem?_cons_succ, List.getElem?_cons_zero, Option.some.injEq] at ho; subst ho; subst hSw; go_simp; with_reducible rfl) (by assumption) ?_
                      try simp only [Act.put, List.setIfInBounds_toArray, List.set_cons_zero, List.set_cons_succ]
                      refine rg_take 4 (some 267) _ (by kernel_rfl) (by kernel_rfl) (by kernel_rfl) (fun _ _ _ h => h) (by kernel_rfl) (by kernel_rfl) (by intro w' hSw op_ ho; simp only [List.getElem?_toArray, List.getElem?_cons_succ, List.getElem?_cons_zero, Option.some.injEq] at ho; subst ho; subst hSw; go_simp; with_reducible rfl) (by assumption) ?_
                      try simp only [Act.put, List.setIfInBounds_toArray, List.set_cons_zero, List.set_cons_succ]
                      refine rg_take 5 (some 268) _ (by kernel_rfl) (by kernel_rfl) (by kernel_rfl) (fun _ _ _ h => h) (by kernel_rfl) (by kernel_rfl) (by intro w' hSw op_ ho; simp only [List.getElem?_toArray, List.getElem?_cons_succ, List.getElem?_cons_zero, Option.some.injEq] at ho; subst ho; subst hSw; go_simp; with_reducible rfl) (by assumption) ?_
                      try simp only [Act.put, List.setIfInBounds_toArray, List.set_cons_zero, List.set_cons_succ]
                      refine rg_take 6 (some 269) _ (by kernel_rfl) (by kernel_rfl) (by kernel_rfl) (fun _ _ _ h => h) (by kernel_rfl) (by kernel_rfl) (by intro w' hSw op_ ho; simp only [List.getElem?_toArray, List.getElem?_cons_succ, List.getElem?_cons_zero, Option.some.injEq] at ho; subst ho; subst hSw; go_simp; with_reducible rfl) (by assumption) ?_
                      try simp only [Act.put, List.setIfInBounds_toArray, List.set_cons_zero, List.set_cons_succ]
                      refine rg_take 7 (some 270) _ (by kernel_rfl) (by kernel_rfl) (by kernel_rfl) (fun _ _ _ h => h) (by kernel_rfl) (by kernel_rfl) (by intro w' hSw op_ ho; simp only [List.getElem?_toArray, List.getElem?_cons_succ, List.getElem?_cons_zero, Option.some.injEq] at ho; subst ho; subst hSw; go_simp; with_reducible rfl) (by assumption) ?_
                      try simp only [Act.put, List.setIfInBounds_toArray, List.set_cons_zero, List.set_cons_succ]
                      refine rg_take 8 (some 271) _ (by kernel_rfl) (by kernel_rfl) (by kernel_rfl) (fun _ _ _ h => h) (by kernel_rfl) (by kernel_rfl) (by intro w' hSw op_ ho; simp only [List.getElem?_toArray, List.getElem?_cons_succ, List.getElem?_cons_zero, Option.some.injEq] at ho; subst ho; subst hSw; go_simp; with_reducible rfl) (by assumption) ?_
                      try simp only [Act.put, List.setIfInBounds_toArray, List.set_cons_zero, List.set_cons_succ]
                      refine rg_take 9 (some 272) _ (by kernel_rfl) (by kernel_rfl) (by kernel_rfl) (fun _ _ _ h => h) (by kernel_rfl) (by kernel_rfl) (by intro w' hSw op_ ho; simp only [List.getElem?_toArray, List.getElem?_cons_succ, List.getElem?_cons_zero, Option.some.injEq] at ho; subst ho; subst hSw; go_simp; with_reducible rfl) (by assumption) ?_
                      try simp only [Act.put, List.setIfInBounds_toArray, List.set_cons_zero, List.set_cons_succ]
                      refine rg_take 10 (some 273) _ (by kernel_rfl) (by kernel_rfl) (by kernel_rfl) (fun _ _ _ h => h) (by kernel_rfl) (by kernel_rfl) (by intro w' hSw op_ ho; simp only [List.getElem?_toArray, List.getElem?_cons_succ, List.getElem?_cons_zero, Option.some.injEq] at ho; subst ho; subst hSw; go_simp; with_reducible rfl) (by assumption) ?_
                      try simp only [Act.put, List.setIfInBounds_toArray, List.set_cons_zero, List.set_cons_succ]
                      refine rg_take 11 (some 274) _ (by kernel_rfl) (by kernel_rfl) (by kernel_rfl) (fun _ _ _ h => h) (by kernel_rfl) (by kernel_rfl) (by intro w' hSw op_ ho; simp only [List.getElem?_toArray, List.getElem?_cons_succ, List.getElem?_cons_zero, Option.some.injEq] at ho; subst ho; subst hSw; go_simp; with_reducible rfl) (by assumption) ?_
                      try simp only [Act.put, List.setIfInBounds_toArray, List.set_cons_zero, List.set_cons_succ]
                      refine wpAnyH_done (by kernel_rfl) ?_ _
                      clear hHeld
                      clear c1 cl hap hpl hpl' p0 q0 q1
                      go_wp2_with fail
                      go_roundg a
                      case measure => omega
                      case rel => exact ⟨a, v, by go_num, rfl, HV2.out, by omega, Nat.le_refl _, HT6.out.on ((Below.refl _ _).drew)⟩
          · obtain rfl : i = out.length := by omega
            have hz1 : ¬ (out.length : Int) < (out.length : Int) := by omega
            go_wp2_with fail
            go_ret
            exact ⟨rfl, HT6.out.low⟩
      · obtain ⟨hh0, hout, hor⟩ := HF.out.bad her
        subst hh0
        subst hout
        obtain ⟨v, hv⟩ : ∃ v, errV s er = .iface 113 v := ⟨_, by unfold errV; rw [if_neg her]⟩
        have HKD := Lib.hid (kind_errV s er W6 (HS.out.below HT6.out.low (Nat.le_refl _)) HF.out.le)
        rw [hv] at HKD ⊢
        rw [show (List.length ([] : List Gst)) = 0 from rfl] at *
        have HOR : Hid (er = 1 ∨ fr = false) := Lib.hid (by rw [← HFR.out]; exact hor)
        clear hv her hor
        go_upto_region 24 with fail
        rw [HG6.out.1, HG6.out.2]
        go_upto_region 25 with fail
        go_wp2_with fail
        refine HKD.out.mono ?_
        rintro e w7 ⟨rfl, b7⟩
        have HB7 : Hid (Below w.heap.size w w7) := Lib.hid (HT6.out.low.trans (b7.mono HT6.out.low.size))
        clear b7 c0 c1 cl
        by_cases h1 : er = 1
        · subst h1
          go_wp2_with fail
          go_ret
          exact ⟨rfl, HB7.out⟩
        · have h1e : ((er : Int) == 1) = false := beq_eq_false_iff_ne.2 (by omega)
          have hff : fr = false := HOR.out.resolve_left h1
          subst hff
          go_wp2_with fail
          go_ret
          exact ⟨rfl, HB7.out⟩
end Go.Proofs.YtlckofoabnnlhaaDoor
