/- The program's park by contracts: which machines can be; Add. Conditions: the park is one that the calls have made; the sentinels lie where the program's text lays them. -/
import Derived.Test.YtaenpajmgenjhaaDoorPpD
import Derived.Deep.RegionHeld3
import Derived.Deep.QuietTactic
import Derived.Deep.DeepCutAuto
import Derived.Deep.CutBlock
import Derived.StillTailTactics
import Derived.Lib.Hide
namespace Go.Proofs.YtaenpajmgenjhaaDoor
open Go Go.RowKit Go.Shelf

/-- Which machines can be. -/
def gMc (x : Mc) : Bool := decide (1 ≤ x.id) && (decide (x.id ≤ 999) && (decide (1 ≤ x.cell) && (decide (x.cell ≤ 4) && goodV x.has)))

set_option maxRecDepth 100000 in
set_option maxHeartbeats 1600000 in
theorem gm_c (x : Mc) (w : World) : Calls Tryd.prog 24 #[.agg #[.int .i64 x.id, .int .i64 x.cell, .int .i64 x.has.a, .int .i64 x.has.b, .int .i64 x.has.c, .int .i64 x.has.d, .int .i64 x.st]] w fun e w' => e = .returned (.bool (gMc x)) ∧ Below w.heap.size w w' := by
  obtain ⟨W1, hW1⟩ : ∃ W1, W1 = w.alloc (.cells #[.int .i64 x.id, .int .i64 x.cell, .int .i64 x.has.a, .int .i64 x.has.b, .int .i64 x.has.c, .int .i64 x.has.d, .int .i64 x.st] 45) := ⟨_, rfl⟩
  have hb1 : Below w.heap.size w W1 := by rw [hW1]; exact (Below.refl _ _).alloc (Nat.le_refl _) _
  have HGV := Lib.hid (good_c x.has W1)
  obtain ⟨c0, c1, c2, c3, c4, c5, c6, cf, cl⟩ := McB.facts (show McB W1 w.heap.size x by rw [hW1]; exact McB.new w x)
  have HW1 := Lib.hid hW1
  unfold gMc
  clear hW1
  cases d1 : decide (1 ≤ x.id) with
  | false =>
    go_enter Tryd.func24, Tryd.ntmps24
    go_upto_region 1 with fail
    rw [← HW1.out]
    go_wp2_with fail
    go_ret
    exact ⟨rfl, hb1⟩
  | true =>
    cases d2 : decide (x.id ≤ 999) with
    | false =>
      go_enter Tryd.func24, Tryd.ntmps24
      go_upto_region 1 with fail
      rw [← HW1.out]
      go_wp2_with fail
      go_ret
      exact ⟨rfl, hb1⟩
    | true =>
      cases d3 : decide (1 ≤ x.cell) with
      | false =>
        go_enter Tryd.func24, Tryd.ntmps24
        go_upto_region 1 with fail
        rw [← HW1.out]
        go_wp2_with fail
        go_ret
        exact ⟨rfl, hb1⟩
      | true =>
        cases d4 : decide (x.cell ≤ 4) with
        | false =>
          go_enter Tryd.func24, Tryd.ntmps24
          go_upto_region 1 with fail
          rw [← HW1.out]
          go_wp2_with fail
          go_ret
          exact ⟨rfl, hb1⟩
        | true =>
          go_enter Tryd.func24, Tryd.ntmps24
          go_upto_region 1 with fail
          rw [← HW1.out]
          go_wp2_with (go_at_call 40; refine HGV.out.mono ?_; rintro e w2 ⟨rfl, b2⟩)
          go_ret
          exact ⟨by simp, hb1.trans (b2.mono hb1.size)⟩

theorem addN_nil (s : Nat → Addr) (id cell : Int) (has : V4) (w : World) (hs : Sent s w) :
    Calls Tryd.prog 13 #[.pointer none, .int .i64 id, .int .i64 cell, .agg #[.int .i64 has.a, .int .i64 has.b, .int .i64 has.c, .int .i64 has.d]] w fun e w' => e = .returned (errV s 2) ∧ Below w.heap.size w w' := by
  rw [show errV s 2 = .iface 102 (.pointer (some (s 1))) from rfl]
  have hb1 : Below w.heap.size w (w.alloc (.cells #[.int .i64 has.a, .int .i64 has.b, .int .i64 has.c, .int .i64 has.d] 28)) := (Below.refl _ _).alloc (Nat.le_refl _) _
  have e2 : (w.alloc (.cells #[.int .i64 has.a, .int .i64 has.b, .int .i64 has.c, .int .i64 has.d] 28)).cell? ⟨1, 0, none⟩ = some (.iface 102 (.pointer (some (s 1)))) := (hs.below hb1 (Nat.le_refl _)).cell 1 (by omega)
  have hl := lt_of_cell (hs.cell 1 (by omega))
  have n1 : ¬ w.heap.size = 1 := fun e => by rw [e] at hl; exact Nat.lt_irrefl _ hl
  obtain ⟨W1, hW1⟩ : ∃ W1, W1 = w.alloc (.cells #[.int .i64 has.a, .int .i64 has.b, .int .i64 has.c, .int .i64 has.d] 28) := ⟨_, rfl⟩
  rw [← hW1] at e2 hb1
  have HW1 := Lib.hid hW1
  clear hs hl hW1
  go_enter Tryd.func13, Tryd.ntmps13
  go_upto_region 1 with fail
  rw [← HW1.out]
  go_wp2_with fail
  go_ret
  exact ⟨rfl, hb1⟩

set_option maxRecDepth 100000 in
set_option maxHeartbeats 1600000 in
theorem addN_bad (s : Nat → Addr) (q R : Nat) (P : List Mc) (id cell : Int) (has : V4) (w : World) (hs : Sent s w) (h : PPk w q R P) (hG : GP P) (hbad : gMc ⟨id, cell, has, 0⟩ = false) :
    Calls Tryd.prog 13 #[.pointer (some ⟨q, 0, none⟩), .int .i64 id, .int .i64 cell, .agg #[.int .i64 has.a, .int .i64 has.b, .int .i64 has.c, .int .i64 has.d]] w fun e w' => e = .returned (errV s 1) ∧ Below w.heap.size w w' := by
  rw [show errV s 1 = .iface 102 (.pointer (some (s 0))) from rfl]
  obtain ⟨W1, hW1⟩ : ∃ W1, W1 = (w.alloc (.cells #[.int .i64 has.a, .int .i64 has.b, .int .i64 has.c, .int .i64 has.d] 28)).alloc (.cells #[.int .i64 id, .int .i64 cell, .int .i64 has.a, .int .i64 has.b, .int .i64 has.c, .int .i64 has.d, .int .i64 0] 45) := ⟨_, rfl⟩
  have hb1 : Below w.heap.size w W1 := by rw [hW1]; exact ((Below.refl _ _).alloc (Nat.le_refl _) _).alloc (by simp) _
  have hz1 : W1.heap.size = w.heap.size + 2 := by rw [hW1]; simp
  have hm1 : McB W1 (w.heap.size + 1) ⟨id, cell, has, 0⟩ := by rw [hW1]; have := McB.new (w.alloc (.cells #[.int .i64 has.a, .int .i64 has.b, .int .i64 has.c, .int .i64 has.d] 28)) ⟨id, cell, has, 0⟩; simpa using this
  have HF := Lib.hid (find_c q R P id W1 (h.on hb1) hG)
  have HG1 := Lib.hid (fun W => gm_c ⟨id, cell, has, 0⟩ W)
  have HM1 := Lib.hid hm1
  have HS := Lib.hid hs
  have HB1 := Lib.hid hb1
  have HW1 := Lib.hid hW1
  have HP1 := Lib.hid (h.on hb1)
  rw [hbad] at HG1
  clear hm1 hs hb1 hW1 h hG
  go_enter Tryd.func13, Tryd.ntmps13
  go_upto_region 4 with fail
  rw [← HW1.out]
  go_wp2_with fail
  refine HF.out.mono ?_
  rintro e w2 ⟨rfl, hb2⟩
  have HB2 := Lib.hid (HB1.out.trans (hb2.mono HB1.out.size))
  have HM2 := Lib.hid (HM1.out.below hb2 (by omega))
  have HP2 := Lib.hid (HP1.out.on hb2)
  obtain ⟨c0, c1, c2, c3, c4, c5, c6, cf, cl⟩ := HM2.out.facts
  clear hb2
  go_wp2_with fail
  refine (HG1.out _).mono ?_
  rintro e w3 ⟨rfl, hb3⟩
  have HB3 := HB2.out.trans (hb3.mono HB2.out.size)
  have e9 : w3.cell? ⟨0, 0, none⟩ = some (.iface 102 (.pointer (some (s 0)))) := (HS.out.below HB3 (Nat.le_refl _)).cell 0 (by omega)
  clear c0 c1 c2 c3 c4 c5 c6 cf cl hb3
  go_wp2_with fail
  go_ret
  exact ⟨rfl, HB3⟩

set_option maxRecDepth 100000 in
set_option maxHeartbeats 1600000 in
theorem addN_dup (s : Nat → Addr) (q R : Nat) (P : List Mc) (id cell : Int) (has : V4) (w : World) (hs : Sent s w) (h : PPk w q R P) (hG : GP P) (hgd : gMc ⟨id, cell, has, 0⟩ = true) (ha : (atP P id).isSome = true) :
    Calls Tryd.prog 13 #[.pointer (some ⟨q, 0, none⟩), .int .i64 id, .int .i64 cell, .agg #[.int .i64 has.a, .int .i64 has.b, .int .i64 has.c, .int .i64 has.d]] w fun e w' => e = .returned (errV s 6) ∧ Below w.heap.size w w' := by
  rw [show errV s 6 = .iface 102 (.pointer (some (s 5))) from rfl]
  obtain ⟨W1, hW1⟩ : ∃ W1, W1 = (w.alloc (.cells #[.int .i64 has.a, .int .i64 has.b, .int .i64 has.c, .int .i64 has.d] 28)).alloc (.cells #[.int .i64 id, .int .i64 cell, .int .i64 has.a, .int .i64 has.b, .int .i64 has.c, .int .i64 has.d, .int .i64 0] 45) := ⟨_, rfl⟩
  have hb1 : Below w.heap.size w W1 := by rw [hW1]; exact ((Below.refl _ _).alloc (Nat.le_refl _) _).alloc (by simp) _
  have hz1 : W1.heap.size = w.heap.size + 2 := by rw [hW1]; simp
  have hm1 : McB W1 (w.heap.size + 1) ⟨id, cell, has, 0⟩ := by rw [hW1]; have := McB.new (w.alloc (.cells #[.int .i64 has.a, .int .i64 has.b, .int .i64 has.c, .int .i64 has.d] 28)) ⟨id, cell, has, 0⟩; simpa using this
  have HF := Lib.hid (find_c q R P id W1 (h.on hb1) hG)
  have HG1 := Lib.hid (fun W => gm_c ⟨id, cell, has, 0⟩ W)
  have HM1 := Lib.hid hm1
  have HS := Lib.hid hs
  have HB1 := Lib.hid hb1
  have HW1 := Lib.hid hW1
  have HP1 := Lib.hid (h.on hb1)
  rw [hgd] at HG1
  rw [ha] at HF
  clear hm1 hs hb1 hW1 h hG
  go_enter Tryd.func13, Tryd.ntmps13
  go_upto_region 4 with fail
  rw [← HW1.out]
  go_wp2_with fail
  refine HF.out.mono ?_
  rintro e w2 ⟨rfl, hb2⟩
  have HB2 := Lib.hid (HB1.out.trans (hb2.mono HB1.out.size))
  have HM2 := Lib.hid (HM1.out.below hb2 (by omega))
  have HP2 := Lib.hid (HP1.out.on hb2)
  obtain ⟨c0, c1, c2, c3, c4, c5, c6, cf, cl⟩ := HM2.out.facts
  clear hb2
  go_wp2_with fail
  refine (HG1.out _).mono ?_
  rintro e w3 ⟨rfl, hb3⟩
  have HB3 := HB2.out.trans (hb3.mono HB2.out.size)
  have e9 : w3.cell? ⟨5, 0, none⟩ = some (.iface 102 (.pointer (some (s 5)))) := (HS.out.below HB3 (Nat.le_refl _)).cell 5 (by omega)
  clear c0 c1 c2 c3 c4 c5 c6 cf cl hb3
  go_wp2_with fail
  go_ret
  exact ⟨rfl, HB3⟩

set_option maxRecDepth 100000 in
set_option maxHeartbeats 1600000 in
theorem addN_full (s : Nat → Addr) (q R : Nat) (P : List Mc) (id cell : Int) (has : V4) (w : World) (hs : Sent s w) (h : PPk w q R P) (hG : GP P) (hgd : gMc ⟨id, cell, has, 0⟩ = true) (ha : (atP P id).isSome = false) (hl : 24 ≤ P.length) :
    Calls Tryd.prog 13 #[.pointer (some ⟨q, 0, none⟩), .int .i64 id, .int .i64 cell, .agg #[.int .i64 has.a, .int .i64 has.b, .int .i64 has.c, .int .i64 has.d]] w fun e w' => e = .returned (errV s 7) ∧ Below w.heap.size w w' := by
  rw [show errV s 7 = .iface 102 (.pointer (some (s 6))) from rfl]
  obtain ⟨W1, hW1⟩ : ∃ W1, W1 = (w.alloc (.cells #[.int .i64 has.a, .int .i64 has.b, .int .i64 has.c, .int .i64 has.d] 28)).alloc (.cells #[.int .i64 id, .int .i64 cell, .int .i64 has.a, .int .i64 has.b, .int .i64 has.c, .int .i64 has.d, .int .i64 0] 45) := ⟨_, rfl⟩
  have hb1 : Below w.heap.size w W1 := by rw [hW1]; exact ((Below.refl _ _).alloc (Nat.le_refl _) _).alloc (by simp) _
  have hz1 : W1.heap.size = w.heap.size + 2 := by rw [hW1]; simp
  have hm1 : McB W1 (w.heap.size + 1) ⟨id, cell, has, 0⟩ := by rw [hW1]; have := McB.new (w.alloc (.cells #[.int .i64 has.a, .int .i64 has.b, .int .i64 has.c, .int .i64 has.d] 28)) ⟨id, cell, has, 0⟩; simpa using this
  have HF := Lib.hid (find_c q R P id W1 (h.on hb1) hG)
  have HG1 := Lib.hid (fun W => gm_c ⟨id, cell, has, 0⟩ W)
  have HM1 := Lib.hid hm1
  have HS := Lib.hid hs
  have HB1 := Lib.hid hb1
  have HW1 := Lib.hid hW1
  have HP1 := Lib.hid (h.on hb1)
  rw [hgd] at HG1
  rw [ha] at HF
  have hlz : (24 : Int) ≤ (P.length : Int) := by omega
  clear hm1 hs hb1 hW1 h hG
  go_enter Tryd.func13, Tryd.ntmps13
  go_upto_region 4 with fail
  rw [← HW1.out]
  go_wp2_with fail
  refine HF.out.mono ?_
  rintro e w2 ⟨rfl, hb2⟩
  have HB2 := Lib.hid (HB1.out.trans (hb2.mono HB1.out.size))
  have HM2 := Lib.hid (HM1.out.below hb2 (by omega))
  have HP2 := Lib.hid (HP1.out.on hb2)
  obtain ⟨c0, c1, c2, c3, c4, c5, c6, cf, cl⟩ := HM2.out.facts
  clear hb2
  go_wp2_with fail
  refine (HG1.out _).mono ?_
  rintro e w3 ⟨rfl, hb3⟩
  have HB3 := HB2.out.trans (hb3.mono HB2.out.size)
  have e9 : w3.cell? ⟨6, 0, none⟩ = some (.iface 102 (.pointer (some (s 6)))) := (HS.out.below HB3 (Nat.le_refl _)).cell 6 (by omega)
  obtain ⟨A, c, a0, af, _⟩ := (HP2.out.on hb3).cells
  clear c0 c1 c2 c3 c4 c5 c6 cf cl hb3
  go_wp2_with fail
  go_ret
  exact ⟨rfl, HB3⟩
end Go.Proofs.YtaenpajmgenjhaaDoor
