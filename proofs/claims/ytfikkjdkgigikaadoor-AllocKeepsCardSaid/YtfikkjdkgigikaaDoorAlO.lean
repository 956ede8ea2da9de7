/- The program's book of envelopes by contracts: Open. Conditions: the book lies in memory as its maps have it; the sentinels lie where the program's text lays them. -/
import Derived.Test.YtfikkjdkgigikaaDoorAlE
import Derived.Test.YtfikkjdkgigikaaDoorAlR
import Derived.Test.YtfikkjdkgigikaaDoorVbs
import Derived.Test.YtfikkjdkgigikaaDoorRgo
import Derived.Deep.DeepCutAuto
import Derived.Deep.CutBlock
namespace Go.Proofs.YtfikkjdkgigikaaDoor
open Go Go.RowKit Go.Maps

/-- An entry of a map: one operation of a region that draws its order. -/
theorem opwp_putG {P : Program} {k : TypeId} {κ α : Type} [DecidableEq κ] {kv : κ → Value} {kl : κ → Lit} {ok : κ → Prop} (K : KeyKit P k kv kl ok) {o : Oper} {a : Act} {w : World} {Q : Exit → Act → World → Prop} {Kc : Act → World → Prop} {ys : Tmp → Option Bool}
    (hg : o.guard = none) (m x v : Operand) (t : TypeId) (hop : o.op = Op.mapUpdate t m x v) (e : TypeId) (ht : P.underlying t = some (.map k e))
    (enc : α → Value) (b : Nat) (T : List (κ × α)) (hm : a.eval m = .map (some b)) (h : MapG P k kl ok enc w b T) (hn : T.length < maxLen) (y : κ) (hx : a.eval x = kv y) (hy : ok y) (u : α) (hv : a.eval v = enc u)
    (hK : ∀ w', MapG P k kl ok enc w' b (enter T y u) → w.grownBy w' (some b) → Kc (a.put o.dst undef) w') : if Region.wanted o ys = true then Oper.wp P o a w Kc Q else Kc (a.put o.dst undef) w := by
  obtain ⟨D, hown, hme⟩ := h
  rw [if_pos (by simp [Region.wanted, hg])]
  obtain ⟨w', hrun, r1, r2⟩ := hown.update K.keyed ht hn (val := enc u) (d := .held (enc u)) (ps := []) (K.of hy) rfl
  unfold Oper.wp
  simp [execOp, hop, hm, hx, hv, hrun, Result.andThen]
  have hme' := hme.put K (hown.tidy K.keyed) hy u
  exact hK w' ⟨_, own_fitG r1 (Nat.le_of_eq hme'.size), hme'⟩ r2
section
variable {w : World} {P : Nat → Prop} {q b1 b2 : Nat} {T1 : List (Int × Option (Nat × Nat))} {T2 : List (Tk × SeatR)} {bl : Int → Nat} {G : AG}
/-- What Open makes of it. -/
def openG (G : AG) (id : Int) (n : Nat) (v : V4) : AG := ⟨G.sets ++ [⟨id, n, v, fun _ => false⟩], G.tasks⟩
theorem setA_open {G : AG} {id : Int} (h : setA G id = none) (n : Nat) (v : V4) (j : Int) : setA (openG G id n v) j = if j = id then some ⟨id, n, v, fun _ => false⟩ else setA G j := by
  unfold setA openG
  simp only [List.find?_append]
  by_cases e : j = id
  · subst e
    rw [if_pos rfl, show G.sets.find? (fun s => decide (s.id = j)) = none from h]
    simp
  · rw [if_neg e]
    have : ¬ id = j := fun k => e k.symm
    simp [this]
/-- A set comes. -/
theorem AlP.opened (h : AlP w P q b1 b2 T1 T2 bl G) {id : Int} {n : Nat} {v : V4} (hno : setA G id = none) (hgd : GA (openG G id n v)) {w6 w9 : World} {g : Nat} (hb : Below w.heap.size w w6) (hgw : w.heap.size ≤ g)
    (ho : OwnE encEnv 84 w6 0 (.slice (some ⟨g, 0, none⟩) n n) (List.replicate n ⟨false, v⟩)) (hm : SetsAt w9 b1 (enter T1 id (some (g, n)))) (hg : w6.grownBy w9 (some b1)) :
    AlP w9 (fun k => P k ∨ k = g) q b1 b2 (enter T1 id (some (g, n))) T2 (fun j => if j = id then g else bl j) (openG G id n v) ∧ ChP P w w9 := by
  have h6 := h.on hb
  have keep : ∀ k, P k → k ≠ b1 → w9.heap[k]? = w6.heap[k]? := fun k hk hne => hg.block k (h6.old k hk) (by simpa using hne)
  have hold : ∀ k, P k → k ≠ g := fun k hk => by have := h.old k hk; omega
  have hg6 : g < w6.heap.size := by obtain ⟨cur, hh, _⟩ := ownE_raw ho; exact lt_of_row hh
  have hg1 : g ≠ b1 := (hold b1 h.p1).symm
  have hid : ∀ j t, setA (openG G id n v) j = some t → j ≠ id → setA G j = some t := fun j t ht hj => by rw [setA_open hno, if_neg hj] at ht; exact ht
  have hle : ∀ (z : SetA) j, leftA (openG G id n v) z j = leftA G z j := fun _ _ => rfl
  refine ⟨⟨(keep q h.pq h.q1).trans h6.box, hm, h6.m2.same (keep b2 h.p2 h.ne.symm), h.ne, fun j => ?_, fun j t ht => ?_, fun i j a b ha hb' hab => ?_, h.seats, hgd, .inl h.pq, .inl h.p1, .inl h.p2, fun j t ht => ?_, fun k hk => ?_⟩, (ChP.of_below hb).grown hg (fun k e => .inl (by cases e; exact h.p1))⟩
  · rw [look_enter, setA_open hno]
    by_cases hj : j = id
    · simp [hj]
    · simp only [if_neg hj]; exact h.sets j
  · by_cases hj : j = id
    · subst hj
      rw [setA_open hno, if_pos rfl] at ht
      obtain rfl := Option.some.inj ht
      simp only [if_true]
      have he : envs (openG G j n v) ⟨j, n, v, fun _ => false⟩ = List.replicate n ⟨false, v⟩ := by
        unfold envs
        apply List.ext_getElem?
        intro i
        simp only [List.getElem?_map, List.getElem?_replicate]
        by_cases hi : i < n
        · rw [List.getElem?_range hi, if_pos hi, Option.map_some]
          rw [hle, left_none]
          intro x hx
          obtain ⟨_, s, hs, _⟩ := h.good.task x hx
          unfold inE
          have : ¬ x.set = j := fun e => by rw [e, hno] at hs; cases hs
          simp [this]
        · rw [if_neg hi, List.getElem?_eq_none (by simpa using hi)]; rfl
      rw [he]
      refine ho.same fun k hk => ?_
      simp [Value.ownBlock] at hk; subst hk
      exact hg.block _ hg6 (by simpa using hg1)
    · have ht' := hid j t ht hj
      simp only [if_neg hj]
      have he : envs (openG G id n v) t = envs G t := envs_ext rfl fun k _ => ⟨rfl, hle t k⟩
      rw [he]
      refine (h6.rows j t ht').same fun k hk => ?_
      simp [Value.ownBlock] at hk; subst hk
      exact keep _ (h.pr j t ht') (h.r1 ht')
  · by_cases hi : i = id
    · by_cases hj : j = id
      · rw [hi, hj]
      · simp only [if_pos hi, if_neg hj] at hab
        exact absurd hab.symm (hold _ (h.pr j b (hid j b hb' hj)))
    · by_cases hj : j = id
      · simp only [if_neg hi, if_pos hj] at hab
        exact absurd hab (hold _ (h.pr i a (hid i a ha hi)))
      · simp only [if_neg hi, if_neg hj] at hab
        exact h.inj i j a b (hid i a ha hi) (hid j b hb' hj) hab
  · by_cases hj : j = id
    · simp only [if_pos hj]; exact .inr trivial
    · simp only [if_neg hj]; exact .inl (h.pr j t (hid j t ht hj))
  · rcases hk with hk | rfl
    · exact Nat.lt_of_lt_of_le (h6.old k hk) hg.size
    · exact Nat.lt_of_lt_of_le hg6 hg.size
set_option maxRecDepth 100000 in
set_option maxHeartbeats 3200000 in
/-- Book.Open: a number is out of range. -/
theorem aopen_arg (s : Nat → Addr) (h : AlP w P q b1 b2 T1 T2 bl G) (hs : SentP s P w) (v : V4) {id N : Int} (hr : id < 1 ∨ 999 < id ∨ N < 1 ∨ 8 < N) :
    Calls Tryd.prog 9 #[.pointer (some ⟨q, 0, none⟩), .int .i64 id, .int .i64 N, .agg #[.int .i64 v.a, .int .i64 v.b, .int .i64 v.c, .int .i64 v.d]] w fun e w' => e = .returned (errV s 1) ∧ Below w.heap.size w w' := by
  obtain ⟨X, hX⟩ : ∃ X, w.heap.size = X := ⟨_, rfl⟩
  obtain ⟨W1, hW1⟩ : ∃ W1, w.alloc (.cells #[.int .i64 v.a, .int .i64 v.b, .int .i64 v.c, .int .i64 v.d] 34) = W1 := ⟨_, rfl⟩
  have hb1 : Below w.heap.size w W1 := by rw [← hW1]; exact (Below.refl _ _).alloc (Nat.le_refl _) _
  have v1 : Vb W1 X v := by rw [← hW1, ← hX]; exact Vb.new w v
  have h1 := h.on hb1
  have hs1 := hs.on hb1
  have HX := Lib.hid hX; have HW1 := Lib.hid hW1; have HB1 := Lib.hid hb1
  have c0 : W1.cell? ⟨q, 0, none⟩ = some (.map (some b1)) := cell_of_heap h1.box 0
  obtain ⟨p0, p1, p2, p3, pf, pl⟩ := v1.facts
  have e0 := hs1.here.cell 0 (by omega)
  simp only [gnum, List.getD_cons_zero] at e0
  rw [errA s 1 (by omega)]
  clear h hs hX hW1 hb1 v1 h1 hs1
  by_cases r1 : id < 1
  · clear hr
    go_enter Tryd.func9, Tryd.ntmps9
    go_upto_region 1 with fail
    rw [HW1.out, HX.out]
    go_wp2_with fail
    go_ret
    exact ⟨rfl, HB1.out⟩
  · by_cases r2 : 999 < id
    · clear hr
      go_enter Tryd.func9, Tryd.ntmps9
      go_upto_region 1 with fail
      rw [HW1.out, HX.out]
      go_wp2_with fail
      go_ret
      exact ⟨rfl, HB1.out⟩
    · by_cases r3 : N < 1
      · clear hr
        go_enter Tryd.func9, Tryd.ntmps9
        go_upto_region 1 with fail
        rw [HW1.out, HX.out]
        go_wp2_with fail
        go_ret
        exact ⟨rfl, HB1.out⟩
      · have r4 : 8 < N := by omega
        clear hr
        go_enter Tryd.func9, Tryd.ntmps9
        go_upto_region 1 with fail
        rw [HW1.out, HX.out]
        go_wp2_with fail
        go_ret
        exact ⟨rfl, HB1.out⟩
set_option maxRecDepth 100000 in
set_option maxHeartbeats 3200000 in
/-- Book.Open: the capacity is not valid. -/
theorem aopen_bad (s : Nat → Addr) (h : AlP w P q b1 b2 T1 T2 bl G) (hs : SentP s P w) (v : V4) {id N : Int} (hr : 1 ≤ id ∧ id ≤ 999 ∧ 1 ≤ N ∧ N ≤ 8) (hg : goodV v = false) :
    Calls Tryd.prog 9 #[.pointer (some ⟨q, 0, none⟩), .int .i64 id, .int .i64 N, .agg #[.int .i64 v.a, .int .i64 v.b, .int .i64 v.c, .int .i64 v.d]] w fun e w' => e = .returned (errV s 1) ∧ Below w.heap.size w w' := by
  obtain ⟨X, hX⟩ : ∃ X, w.heap.size = X := ⟨_, rfl⟩
  obtain ⟨W1, hW1⟩ : ∃ W1, w.alloc (.cells #[.int .i64 v.a, .int .i64 v.b, .int .i64 v.c, .int .i64 v.d] 34) = W1 := ⟨_, rfl⟩
  have hb1 : Below w.heap.size w W1 := by rw [← hW1]; exact (Below.refl _ _).alloc (Nat.le_refl _) _
  have v1 : Vb W1 X v := by rw [← hW1, ← hX]; exact Vb.new w v
  have h1 := h.on hb1
  have hs1 := hs.on hb1
  have HX := Lib.hid hX; have HW1 := Lib.hid hW1; have HB1 := Lib.hid hb1
  have c0 : W1.cell? ⟨q, 0, none⟩ = some (.map (some b1)) := cell_of_heap h1.box 0
  obtain ⟨p0, p1, p2, p3, pf, pl⟩ := v1.facts
  have HGD := Lib.hid (good_c v W1)
  obtain ⟨r1, r2, r3, r4⟩ := hr
  have HE : Hid (∀ W, Below W1.heap.size W1 W → W.cell? ⟨0, 0, none⟩ = some (.iface 161 (.pointer (some (s 0))))) := Lib.hid fun W hb => by
    have := (hs1.on hb).here.cell 0 (by omega)
    simpa only [gnum, List.getD_cons_zero, List.getD_cons_succ] using this
  rw [hg] at HGD
  rw [errA s 1 (by omega)]
  clear h hs hX hW1 hb1 v1 h1 hs1 hg
  go_enter Tryd.func9, Tryd.ntmps9
  go_upto_region 1 with fail
  rw [HW1.out, HX.out]
  go_wp2_with fail
  refine HGD.out.mono ?_
  rintro e w3 ⟨rfl, b3⟩
  have e0 := HE.out w3 b3
  have HB3 : Hid (Below w.heap.size w w3) := Lib.hid (HB1.out.trans (b3.mono HB1.out.size))
  clear b3
  go_wp2_with fail
  go_ret
  exact ⟨rfl, HB3.out⟩
set_option maxRecDepth 100000 in
set_option maxHeartbeats 3200000 in
/-- Book.Open: there is such a set. -/
theorem aopen_dup (s : Nat → Addr) (h : AlP w P q b1 b2 T1 T2 bl G) (hs : SentP s P w) (v : V4) {id N : Int} (hr : 1 ≤ id ∧ id ≤ 999 ∧ 1 ≤ N ∧ N ≤ 8) (hg : goodV v = true) {sA : SetA} (e : setA G id = some sA) :
    Calls Tryd.prog 9 #[.pointer (some ⟨q, 0, none⟩), .int .i64 id, .int .i64 N, .agg #[.int .i64 v.a, .int .i64 v.b, .int .i64 v.c, .int .i64 v.d]] w fun e w' => e = .returned (errV s 6) ∧ Below w.heap.size w w' := by
  obtain ⟨X, hX⟩ : ∃ X, w.heap.size = X := ⟨_, rfl⟩
  obtain ⟨W1, hW1⟩ : ∃ W1, w.alloc (.cells #[.int .i64 v.a, .int .i64 v.b, .int .i64 v.c, .int .i64 v.d] 34) = W1 := ⟨_, rfl⟩
  have hb1 : Below w.heap.size w W1 := by rw [← hW1]; exact (Below.refl _ _).alloc (Nat.le_refl _) _
  have v1 : Vb W1 X v := by rw [← hW1, ← hX]; exact Vb.new w v
  have h1 := h.on hb1
  have hs1 := hs.on hb1
  have HX := Lib.hid hX; have HW1 := Lib.hid hW1; have HB1 := Lib.hid hb1
  have c0 : W1.cell? ⟨q, 0, none⟩ = some (.map (some b1)) := cell_of_heap h1.box 0
  obtain ⟨p0, p1, p2, p3, pf, pl⟩ := v1.facts
  have HGD := Lib.hid (good_c v W1)
  obtain ⟨r1, r2, r3, r4⟩ := hr
  have hid : i64 id := by unfold i64; omega
  have HON : Hid (∀ W, Below W1.heap.size W1 W → W.cell? ⟨5, 0, none⟩ = some (.iface 161 (.pointer (some (s 5)))) ∧ SetsAt W b1 T1 ∧ W.cell? ⟨q, 0, none⟩ = some (.map (some b1))) := Lib.hid fun W hb => by
    have := (hs1.on hb).here.cell 5 (by omega)
    exact ⟨by simpa only [gnum, List.getD_cons_zero, List.getD_cons_succ] using this, (h1.on hb).m1, cell_of_heap (h1.on hb).box 0⟩
  have hE0 := neqS
  rw [hg] at HGD
  have hv : slV ((look T1 id).getD none) = .slice (some ⟨bl id, 0, none⟩) sA.n sA.n := by rw [h.hit e]; simp [slV]
  rw [errA s 6 (by omega)]
  clear h hs hX hW1 hb1 v1 h1 hs1 hg e
  go_enter Tryd.func9, Tryd.ntmps9
  go_upto_region 1 with fail
  rw [HW1.out, HX.out]
  go_wp2_with fail
  refine HGD.out.mono ?_
  rintro e w3 ⟨rfl, b3⟩
  obtain ⟨e5, hm3, c3⟩ := HON.out w3 b3
  have HM3 := Lib.hid hm3
  have HB3 : Hid (Below w.heap.size w w3) := Lib.hid (HB1.out.trans (b3.mono HB1.out.size))
  clear b3 hm3
  go_wp2_with (at_lookup; refine wpList_lookG _ kitI rfl _ _ 74 rfl 81 Tryd.underlying74 slV none (Tryd.zeroSl _) b1 T1 rfl HM3.out id rfl hid _ hv ?_)
  go_ret
  exact ⟨rfl, HB3.out⟩
set_option maxRecDepth 100000 in
set_option maxHeartbeats 3200000 in
/-- Book.Open: there are too many. -/
theorem aopen_full (s : Nat → Addr) (h : AlP w P q b1 b2 T1 T2 bl G) (hs : SentP s P w) (v : V4) {id N : Int} (hr : 1 ≤ id ∧ id ≤ 999 ∧ 1 ≤ N ∧ N ≤ 8) (hg : goodV v = true) (e : setA G id = none) (hf : 8 ≤ G.sets.length) :
    Calls Tryd.prog 9 #[.pointer (some ⟨q, 0, none⟩), .int .i64 id, .int .i64 N, .agg #[.int .i64 v.a, .int .i64 v.b, .int .i64 v.c, .int .i64 v.d]] w fun e w' => e = .returned (errV s 7) ∧ Below w.heap.size w w' := by
  obtain ⟨X, hX⟩ : ∃ X, w.heap.size = X := ⟨_, rfl⟩
  obtain ⟨W1, hW1⟩ : ∃ W1, w.alloc (.cells #[.int .i64 v.a, .int .i64 v.b, .int .i64 v.c, .int .i64 v.d] 34) = W1 := ⟨_, rfl⟩
  have hb1 : Below w.heap.size w W1 := by rw [← hW1]; exact (Below.refl _ _).alloc (Nat.le_refl _) _
  have v1 : Vb W1 X v := by rw [← hW1, ← hX]; exact Vb.new w v
  have h1 := h.on hb1
  have hs1 := hs.on hb1
  have HX := Lib.hid hX; have HW1 := Lib.hid hW1; have HB1 := Lib.hid hb1
  have c0 : W1.cell? ⟨q, 0, none⟩ = some (.map (some b1)) := cell_of_heap h1.box 0
  obtain ⟨p0, p1, p2, p3, pf, pl⟩ := v1.facts
  have HGD := Lib.hid (good_c v W1)
  obtain ⟨r1, r2, r3, r4⟩ := hr
  have hid : i64 id := by unfold i64; omega
  have HON : Hid (∀ W, Below W1.heap.size W1 W → W.cell? ⟨6, 0, none⟩ = some (.iface 161 (.pointer (some (s 6)))) ∧ SetsAt W b1 T1 ∧ W.cell? ⟨q, 0, none⟩ = some (.map (some b1))) := Lib.hid fun W hb => by
    have := (hs1.on hb).here.cell 6 (by omega)
    exact ⟨by simpa only [gnum, List.getD_cons_zero, List.getD_cons_succ] using this, (h1.on hb).m1, cell_of_heap (h1.on hb).box 0⟩
  have hE0 := neqS
  rw [hg] at HGD
  have hv : slV ((look T1 id).getD none) = .slice none 0 0 := by rw [h.miss e]; rfl
  have hl8 : (8 : Int) ≤ (T1.length : Int) := by rw [h.len1]; omega
  rw [errA s 7 (by omega)]
  clear h hs hX hW1 hb1 v1 h1 hs1 hg e hf
  go_enter Tryd.func9, Tryd.ntmps9
  go_upto_region 1 with fail
  rw [HW1.out, HX.out]
  go_wp2_with fail
  refine HGD.out.mono ?_
  rintro e w3 ⟨rfl, b3⟩
  obtain ⟨e5, hm3, c3⟩ := HON.out w3 b3
  have HM3 := Lib.hid hm3
  have HB3 : Hid (Below w.heap.size w w3) := Lib.hid (HB1.out.trans (b3.mono HB1.out.size))
  clear b3 hm3
  go_wp2_with (first | (at_lookup; refine wpList_lookG _ kitI rfl _ _ 74 rfl 81 Tryd.underlying74 slV none (Tryd.zeroSl _) b1 T1 rfl HM3.out id rfl hid _ hv ?_) | (at_len; refine wpList_lenG _ rfl _ 74 rfl 81 Tryd.underlying74 slV b1 T1 rfl HM3.out ?_) | fail)
  go_ret
  exact ⟨rfl, HB3.out⟩
set_option maxRecDepth 100000 in
set_option maxHeartbeats 6400000 in
/-- Book.Open: the set comes. -/
theorem aopen_ok (h : AlP w P q b1 b2 T1 T2 bl G) (v : V4) {id : Int} {n : Nat} (hr : 1 ≤ id ∧ id ≤ 999 ∧ 1 ≤ n ∧ n ≤ 8) (hg : goodV v = true) (e : setA G id = none) (hf : G.sets.length < 8) :
    Calls Tryd.prog 9 #[.pointer (some ⟨q, 0, none⟩), .int .i64 id, .int .i64 (n : Int), .agg #[.int .i64 v.a, .int .i64 v.b, .int .i64 v.c, .int .i64 v.d]] w fun e w' => e = .returned .nilIface ∧ (∃ P', AlW w' P' q (openG G id n v) ∧ ∀ k, P' k → P k ∨ w.heap.size ≤ k) ∧ ChP P w w' := by
  obtain ⟨X, hX⟩ : ∃ X, w.heap.size = X := ⟨_, rfl⟩
  obtain ⟨W1, hW1⟩ : ∃ W1, w.alloc (.cells #[.int .i64 v.a, .int .i64 v.b, .int .i64 v.c, .int .i64 v.d] 34) = W1 := ⟨_, rfl⟩
  have hb1 : Below w.heap.size w W1 := by rw [← hW1]; exact (Below.refl _ _).alloc (Nat.le_refl _) _
  have v1 : Vb W1 X v := by rw [← hW1, ← hX]; exact Vb.new w v
  have h1 := h.on hb1
  have HX := Lib.hid hX; have HW1 := Lib.hid hW1; have HB1 := Lib.hid hb1
  have c0 : W1.cell? ⟨q, 0, none⟩ = some (.map (some b1)) := cell_of_heap h1.box 0
  obtain ⟨p0, p1, p2, p3, pf, pl⟩ := v1.facts
  have HGD := Lib.hid (good_c v W1)
  obtain ⟨r1, r2, r3, r4⟩ := hr
  have hid : i64 id := by unfold i64; omega
  have hgd : GA (openG G id n v) := by
    have := h.good.open id n v
    unfold openA at this
    rw [if_neg (by rw [hg]; simp; omega), if_neg (by rw [e]; simp), if_neg (by omega)] at this
    rw [show ((n : Int)).toNat = n from Int.toNat_natCast n] at this
    exact this
  have HON : Hid (∀ W, Below W1.heap.size W1 W → SetsAt W b1 T1 ∧ W.cell? ⟨q, 0, none⟩ = some (.map (some b1))) := Lib.hid fun W hb => ⟨(h1.on hb).m1, cell_of_heap (h1.on hb).box 0⟩
  have HVB : Hid (∀ W, Below W1.heap.size W1 W → Vb W X v) := Lib.hid fun W hb => v1.below hb (lt_of_row v1)
  have HRP : Hid (∀ gx W, W.heap[gx]? = some (.cells #[.bool false, .int .i64 v.a, .int .i64 v.b, .int .i64 v.c, .int .i64 v.d] 84 (0, 0)) → Calls Tryd.prog 31 #[.slice (some ⟨gx, 0, none⟩) 1 1, .int .i64 (n : Int)] W fun e w' => ∃ g, e = .returned (.slice (some ⟨g, 0, none⟩) n n) ∧ OwnE encEnv 84 w' W.heap.size (.slice (some ⟨g, 0, none⟩) n n) (List.replicate n ⟨false, v⟩) ∧ Below W.heap.size W w') := Lib.hid fun gx W hx => arep_c n (by omega) (by omega) ⟨false, v⟩ gx W hx
  have hv : slV ((look T1 id).getD none) = .slice none 0 0 := by rw [h.miss e]; rfl
  have hl8 : (T1.length : Int) < 8 := by rw [h.len1]; omega
  have hml : T1.length < maxLen := by unfold maxLen; omega
  have HFIN : Hid (∀ (w6 w9 : World) (g : Nat), Below w.heap.size w w6 → w.heap.size ≤ g → OwnE encEnv 84 w6 0 (.slice (some ⟨g, 0, none⟩) n n) (List.replicate n ⟨false, v⟩) → SetsAt w9 b1 (enter T1 id (some (g, n))) → w6.grownBy w9 (some b1) →
      (∃ P', AlW w9 P' q (openG G id n v) ∧ ∀ k, P' k → P k ∨ w.heap.size ≤ k) ∧ ChP P w w9) := Lib.hid fun w6 w9 g hb hgw ho hm hgr => by
    obtain ⟨k1, k2⟩ := h.opened e hgd hb hgw ho hm hgr
    exact ⟨⟨_, k1.any, fun k hk => by rcases hk with hk | rfl; exact .inl hk; exact .inr hgw⟩, k2⟩
  have hE0 := neqS
  have HID := Lib.hid hid
  have HML := Lib.hid hml
  rw [hg] at HGD
  clear h hX hW1 hb1 v1 h1 hg e hf hgd hml
  go_enter Tryd.func9, Tryd.ntmps9
  go_upto_region 1 with fail
  rw [HW1.out, HX.out]
  go_wp2_with fail
  refine HGD.out.mono ?_
  rintro e w3 ⟨rfl, b3⟩
  obtain ⟨hm3, c3⟩ := HON.out w3 b3
  have HM3 := Lib.hid hm3
  have HB3 : Hid (Below W1.heap.size W1 w3) := Lib.hid b3
  clear b3 hm3
  go_wp2_with (first | (at_lookup; refine wpList_lookG _ kitI rfl _ _ 74 rfl 81 Tryd.underlying74 slV none (Tryd.zeroSl _) b1 T1 rfl HM3.out id rfl hid _ hv ?_) | (at_len; refine wpList_lenG _ rfl _ 74 rfl 81 Tryd.underlying74 slV b1 T1 rfl HM3.out ?_) | fail)
  have HSS : Hid (∀ W, Below w3.heap.size w3 W → Below w3.heap.size w3 W ∧ W.cell? ⟨q, 0, none⟩ = some (.map (some b1)) ∧ W.cell? ⟨X, 0, none⟩ = some (.int .i64 v.a) ∧ W.cell? ⟨X, 1, none⟩ = some (.int .i64 v.b) ∧ W.cell? ⟨X, 2, none⟩ = some (.int .i64 v.c) ∧ W.cell? ⟨X, 3, none⟩ = some (.int .i64 v.d)) := Lib.hid fun W hb => by
    have hb' := HB3.out.trans (hb.mono HB3.out.size)
    obtain ⟨p0, p1, p2, p3, _, _⟩ := (HVB.out W hb').facts
    exact ⟨hb, (HON.out W hb').2, p0, p1, p2, p3⟩
  have HMM : Hid (∀ W, Below w3.heap.size w3 W → SetsAt W b1 T1 ∧ Below w.heap.size w W) := Lib.hid fun W hb => by
    have hb' := HB3.out.trans (hb.mono HB3.out.size)
    exact ⟨(HON.out W hb').1, HB1.out.trans (hb'.mono HB1.out.size)⟩
  clear c3 c0 p0 p1 p2 p3 pf pl
  refine wp_region_last (z := 10) (S := fun W => Below w3.heap.size w3 W ∧ W.cell? ⟨q, 0, none⟩ = some (.map (some b1)) ∧ W.cell? ⟨X, 0, none⟩ = some (.int .i64 v.a) ∧ W.cell? ⟨X, 1, none⟩ = some (.int .i64 v.b) ∧ W.cell? ⟨X, 2, none⟩ = some (.int .i64 v.c) ∧ W.cell? ⟨X, 3, none⟩ = some (.int .i64 v.d)) (by kernel_rfl) ?_ (fun hHeld => ?_)
  · exact HSS.out _ (Below.refl _ _).drew
  refine rgl_take 0 (some 51) _ (by kernel_rfl) (by kernel_rfl) (by kernel_rfl) (by kernel_rfl) (fun _ _ _ h => h) (by kernel_rfl) (by kernel_rfl) (by intro w' hSw op_ ho; obtain ⟨c0, p0, p1, p2, p3⟩ := hSw.2; simp only [List.getElem?_toArray, List.getElem?_cons_zero, Option.some.injEq] at ho; subst ho; go_simp; with_reducible rfl) (by assumption) ?_
  try simp only [Act.put, List.setIfInBounds_toArray, List.set_cons_zero, List.set_cons_succ]
  refine rgl_take 1 (some 52) _ (by kernel_rfl) (by kernel_rfl) (by kernel_rfl) (by kernel_rfl) (fun _ _ _ h => h) (by kernel_rfl) (by kernel_rfl) (by intro w' hSw op_ ho; obtain ⟨c0, p0, p1, p2, p3⟩ := hSw.2; simp only [List.getElem?_toArray, List.getElem?_cons_succ, List.getElem?_cons_zero, Option.some.injEq] at ho; subst ho; go_simp; with_reducible rfl) (by assumption) ?_
  try simp only [Act.put, List.setIfInBounds_toArray, List.set_cons_zero, List.set_cons_succ]
  refine rgl_take 2 (some 53) _ (by kernel_rfl) (by kernel_rfl) (by kernel_rfl) (by kernel_rfl) (fun _ _ _ h => h) (by kernel_rfl) (by kernel_rfl) (by intro w' hSw op_ ho; obtain ⟨c0, p0, p1, p2, p3⟩ := hSw.2; simp only [List.getElem?_toArray, List.getElem?_cons_succ, List.getElem?_cons_zero, Option.some.injEq] at ho; subst ho; go_simp; with_reducible rfl) (by assumption) ?_
  try simp only [Act.put, List.setIfInBounds_toArray, List.set_cons_zero, List.set_cons_succ]
  refine rgl_take 3 (some 54) _ (by kernel_rfl) (by kernel_rfl) (by kernel_rfl) (by kernel_rfl) (fun _ _ _ h => h) (by kernel_rfl) (by kernel_rfl) (by intro w' hSw op_ ho; obtain ⟨c0, p0, p1, p2, p3⟩ := hSw.2; simp only [List.getElem?_toArray, List.getElem?_cons_succ, List.getElem?_cons_zero, Option.some.injEq] at ho; subst ho; go_simp; with_reducible rfl) (by assumption) ?_
  try simp only [Act.put, List.setIfInBounds_toArray, List.set_cons_zero, List.set_cons_succ]
  refine rgl_take 4 (some 55) _ (by kernel_rfl) (by kernel_rfl) (by kernel_rfl) (by kernel_rfl) (fun _ _ _ h => h) (by kernel_rfl) (by kernel_rfl) (by intro w' hSw op_ ho; obtain ⟨c0, p0, p1, p2, p3⟩ := hSw.2; simp only [List.getElem?_toArray, List.getElem?_cons_succ, List.getElem?_cons_zero, Option.some.injEq] at ho; subst ho; go_simp; with_reducible rfl) (by assumption) ?_
  try simp only [Act.put, List.setIfInBounds_toArray, List.set_cons_zero, List.set_cons_succ]
  refine rgl_take 5 (some 56) _ (by kernel_rfl) (by kernel_rfl) (by kernel_rfl) (by kernel_rfl) (fun _ _ _ h => h) (by kernel_rfl) (by kernel_rfl) (by intro w' hSw op_ ho; obtain ⟨c0, p0, p1, p2, p3⟩ := hSw.2; simp only [List.getElem?_toArray, List.getElem?_cons_succ, List.getElem?_cons_zero, Option.some.injEq] at ho; subst ho; go_simp; with_reducible rfl) (by assumption) ?_
  try simp only [Act.put, List.setIfInBounds_toArray, List.set_cons_zero, List.set_cons_succ]
  refine rgl_take 6 (some 57) _ (by kernel_rfl) (by kernel_rfl) (by kernel_rfl) (by kernel_rfl) (fun _ _ _ h => h) (by kernel_rfl) (by kernel_rfl) (by intro w' hSw op_ ho; obtain ⟨c0, p0, p1, p2, p3⟩ := hSw.2; simp only [List.getElem?_toArray, List.getElem?_cons_succ, List.getElem?_cons_zero, Option.some.injEq] at ho; subst ho; go_simp; with_reducible rfl) (by assumption) ?_
  try simp only [Act.put, List.setIfInBounds_toArray, List.set_cons_zero, List.set_cons_succ]
  refine rgl_take 8 (some 59) _ (by kernel_rfl) (by kernel_rfl) (by kernel_rfl) (by kernel_rfl) (fun _ _ _ h => h) (by kernel_rfl) (by kernel_rfl) (by intro w' hSw op_ ho; obtain ⟨c0, p0, p1, p2, p3⟩ := hSw.2; simp only [List.getElem?_toArray, List.getElem?_cons_succ, List.getElem?_cons_zero, Option.some.injEq] at ho; subst ho; go_simp; with_reducible rfl) (by assumption) ?_
  try simp only [Act.put, List.setIfInBounds_toArray, List.set_cons_zero, List.set_cons_succ]
  refine rgl_one 7 (by kernel_rfl) (by kernel_rfl) (by decide) (fun op_ ho K hK => ?_)
  simp only [List.getElem?_toArray, List.getElem?_cons_succ, List.getElem?_cons_zero, Option.some.injEq] at ho
  subst ho
  go_simp
  have HS6 := Lib.hid hHeld
  go_wp2_with fail
  refine hK.out _ _ (by first | exact hHeld | exact HSS.out _ (HS6.out.1.alloc HS6.out.1.size _) | exact HSS.out _ (HS7.out.1.trans (b5.mono HS7.out.1.size))) (fun hHeld => ?_)
  clear hK
  try simp only [Act.put, List.setIfInBounds_toArray, List.set_cons_zero, List.set_cons_succ]
  refine rgl_one 9 (by kernel_rfl) (by kernel_rfl) (by decide) (fun op_ ho K hK => ?_)
  simp only [List.getElem?_toArray, List.getElem?_cons_succ, List.getElem?_cons_zero, Option.some.injEq] at ho
  subst ho
  go_simp
  go_at_call 31
  refine (HRP.out _ _ (by first | exact heap_alloc_new w3 _ | exact heap_alloc_new w3.drew _)).mono ?_
  rintro e w5 ⟨g, rfl, ho5, b5⟩
  have HO5 := Lib.hid ho5
  have HB5 := Lib.hid b5
  have HS7 := Lib.hid hHeld
  go_wp2_with fail
  refine hK.out _ _ (by first | exact hHeld | exact HSS.out _ (HS6.out.1.alloc HS6.out.1.size _) | exact HSS.out _ (HS7.out.1.trans (b5.mono HS7.out.1.size))) (fun hHeld => ?_)
  clear hK
  try simp only [Act.put, List.setIfInBounds_toArray, List.set_cons_zero, List.set_cons_succ]
  refine rgl_last (by kernel_rfl) (by kernel_rfl) (by kernel_rfl) (fun op_ ho K hK => ?_)
  simp only [List.getElem?_toArray, List.getElem?_cons_succ, List.getElem?_cons_zero, Option.some.injEq] at ho
  subst ho
  have HS9 := Lib.hid hHeld
  obtain ⟨hm9, hb9⟩ := HMM.out _ HS9.out.1
  refine opwp_putG kitI rfl _ _ _ 74 rfl 81 Tryd.underlying74 slV b1 T1 rfl hm9 HML.out id rfl HID.out (some (g, n)) rfl ?_
  intro w9 hm10 hg10
  have HM9 := Lib.hid hm10
  have HG9 := Lib.hid hg10
  clear hm9 hb9 hm10 hg10
  refine hK.out _ _ ?_
  clear hK
  try simp only [Act.put]
  go_wp2_with fail
  go_ret
  have hb9 := HMM.out _ HS9.out.1
  exact ⟨rfl, HFIN.out _ _ g hb9.2 (by have := (HMM.out _ HS7.out.1).2.size; have := (HO5.out.lt g rfl).1; omega) (HO5.out.base (Nat.zero_le _)) HM9.out HG9.out⟩
end
/-- .. of no book. -/
theorem aopen_nil (s : Nat → Addr) (w : World) (hs : Sent s w) (id N : Int) (v : V4) :
    Calls Tryd.prog 9 #[.pointer none, .int .i64 id, .int .i64 N, .agg #[.int .i64 v.a, .int .i64 v.b, .int .i64 v.c, .int .i64 v.d]] w fun e w' => e = .returned (errV s 2) ∧ Below w.heap.size w w' := by
  obtain ⟨W1, hW1⟩ : ∃ W1, w.alloc (.cells #[.int .i64 v.a, .int .i64 v.b, .int .i64 v.c, .int .i64 v.d] 34) = W1 := ⟨_, rfl⟩
  have hb1 : Below w.heap.size w W1 := by rw [← hW1]; exact (Below.refl _ _).alloc (Nat.le_refl _) _
  have e1 := (hs.below hb1 (Nat.le_refl _)).cell 1 (by omega)
  simp only [gnum, List.getD_cons_zero, List.getD_cons_succ] at e1
  have HW1 := Lib.hid hW1; have HB1 := Lib.hid hb1
  rw [errA s 2 (by omega)]
  clear hs hW1 hb1
  go_enter Tryd.func9, Tryd.ntmps9
  go_upto_region 2 with fail
  rw [HW1.out]
  go_wp2_with fail
  go_ret
  exact ⟨rfl, HB1.out⟩
end Go.Proofs.YtfikkjdkgigikaaDoor
