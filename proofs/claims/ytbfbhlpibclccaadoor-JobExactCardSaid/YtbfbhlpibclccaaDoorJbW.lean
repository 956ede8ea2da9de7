/- The program's table of jobs by contracts: the tasks of whom something holds, in order. Condition: the table lies in memory as its map has it. -/
import Derived.Test.YtbfbhlpibclccaaDoorJbS
import Derived.Test.YtbfbhlpibclccaaDoorRwL
import Derived.Test.YtbfbhlpibclccaaDoorKeyN
import Derived.Laws.OwnMore
namespace Go.Proofs.YtbfbhlpibclccaaDoor
open Go Go.RowKit Go.Maps

theorem add_posJ (p : Addr) {k : Nat} (h : 0 < k) : p.add k = ⟨p.block, p.off + k, none⟩ := by unfold Addr.add; rw [if_neg (by omega)]
def natJ : Value → Nat
  | .int _ z => z.toNat
  | _ => 0
/-- Whether a task waits. -/
theorem jiswait_c (j : JR) (p : Int) (w : World) : Calls Tryd.prog 51 #[.agg #[.int .i64 j.id, .int .i64 j.tenant, .int .i64 j.cell, .int .i64 j.band, .int .i64 j.tasks, .int .i64 j.need.a, .int .i64 j.need.b, .int .i64 j.need.c, .int .i64 j.need.d, .int .i64 j.first, .int .i64 j.windows, .int .i64 j.budget, .bool j.env, .int .i64 j.set], .int .i64 p] w fun e w' => e = .returned (.bool (decide (p = -1))) ∧ Below w.heap.size w w' := by
  have hb : Below w.heap.size w (w.alloc (.cells #[.int .i64 j.id, .int .i64 j.tenant, .int .i64 j.cell, .int .i64 j.band, .int .i64 j.tasks, .int .i64 j.need.a, .int .i64 j.need.b, .int .i64 j.need.c, .int .i64 j.need.d, .int .i64 j.first, .int .i64 j.windows, .int .i64 j.budget, .bool j.env, .int .i64 j.set] 33)) := (Below.refl _ _).alloc (Nat.le_refl _) _
  have HB := Lib.hid hb
  clear hb
  by_cases h : p = -1
  · have e1 : (p == -1) = true := by simpa using h
    rw [decide_eq_true h]
    clear h
    go_enter Tryd.func51, Tryd.ntmps51
    go_wp2_with fail
    go_ret
    exact ⟨rfl, HB.out⟩
  · have e1 : (p == -1) = false := by simpa using h
    rw [decide_eq_false h]
    clear h
    go_enter Tryd.func51, Tryd.ntmps51
    go_wp2_with fail
    go_ret
    exact ⟨rfl, HB.out⟩
set_option maxRecDepth 100000 in
/-- Whether a task is at a place, of a job on machines. -/
theorem jisat_c (j : JR) (p q : Int) (gq : Nat) (w : World) (hq : w.heap[gq]? = some (.cells #[.int .i64 q] 3 (0, 0))) : Calls Tryd.prog 52 #[.agg #[.int .i64 j.id, .int .i64 j.tenant, .int .i64 j.cell, .int .i64 j.band, .int .i64 j.tasks, .int .i64 j.need.a, .int .i64 j.need.b, .int .i64 j.need.c, .int .i64 j.need.d, .int .i64 j.first, .int .i64 j.windows, .int .i64 j.budget, .bool j.env, .int .i64 j.set], .int .i64 p, .pointer (some ⟨gq, 0, none⟩)] w fun e w' => e = .returned (.bool (decide (j.set = 0) && decide (p = q))) ∧ Below w.heap.size w w' := by
  obtain ⟨X, hX⟩ : ∃ X, w.heap.size = X := ⟨_, rfl⟩
  obtain ⟨W1, hW1⟩ : ∃ W1, w.alloc (.cells #[.int .i64 j.id, .int .i64 j.tenant, .int .i64 j.cell, .int .i64 j.band, .int .i64 j.tasks, .int .i64 j.need.a, .int .i64 j.need.b, .int .i64 j.need.c, .int .i64 j.need.d, .int .i64 j.first, .int .i64 j.windows, .int .i64 j.budget, .bool j.env, .int .i64 j.set] 33) = W1 := ⟨_, rfl⟩
  have hb1 : Below w.heap.size w W1 := by rw [← hW1]; exact (Below.refl _ _).alloc (Nat.le_refl _) _
  have hx1 : W1.heap[X]? = some (.cells #[.int .i64 j.id, .int .i64 j.tenant, .int .i64 j.cell, .int .i64 j.band, .int .i64 j.tasks, .int .i64 j.need.a, .int .i64 j.need.b, .int .i64 j.need.c, .int .i64 j.need.d, .int .i64 j.first, .int .i64 j.windows, .int .i64 j.budget, .bool j.env, .int .i64 j.set] 33 (0, 0)) := by rw [← hW1, ← hX]; exact heap_alloc_new _ _
  have z13 := cell_of_heap hx1 13
  have q0 := cell_of_heap ((hb1.block gq (lt_of_row hq)).trans hq) 0
  simp at z13 q0
  have HX := Lib.hid hX; have HW1 := Lib.hid hW1; have HB := Lib.hid hb1
  clear hX hW1 hb1 hx1 hq
  by_cases h : j.set = 0
  · have e0 : (j.set == 0) = true := by simpa using h
    rw [decide_eq_true h, Bool.true_and]
    clear h
    by_cases h : p = q
    · have e1 : (p == q) = true := by simpa using h
      rw [decide_eq_true h]
      clear h
      go_enter Tryd.func52, Tryd.ntmps52
      go_upto_region 1 with fail
      rw [HW1.out, HX.out]
      go_wp2_with fail
      go_ret
      exact ⟨rfl, HB.out⟩
    · have e1 : (p == q) = false := by simpa using h
      rw [decide_eq_false h]
      clear h
      go_enter Tryd.func52, Tryd.ntmps52
      go_upto_region 1 with fail
      rw [HW1.out, HX.out]
      go_wp2_with fail
      go_ret
      exact ⟨rfl, HB.out⟩
  · have e0 : (j.set == 0) = false := by simpa using h
    rw [decide_eq_false h, Bool.false_and]
    clear h
    go_enter Tryd.func52, Tryd.ntmps52
    go_upto_region 1 with fail
    rw [HW1.out, HX.out]
    go_wp2_with fail
    go_ret
    exact ⟨rfl, HB.out⟩
/-- A row's block is not one of another type. -/
theorem own_ne {α : Type} {n : Nat} {E : EncK α n} {e t : TypeId} {W : World} {base gx : Nat} {v : Value} {L : List α} {cs : Array Value} (h : OwnE E e W base v L) (hx : W.heap[gx]? = some (.cells cs t (0, 0))) (hne : t ≠ e) : v.ownBlock ≠ some gx := by
  intro hv
  rcases h.2 with ⟨rfl, _⟩ | ⟨g, cap, cur, rfl, _, hh, _⟩
  · simp [Value.ownBlock] at hv
  · simp [Value.ownBlock] at hv
    subst hv
    rw [hh] at hx
    simp at hx
    exact hne hx.2.symm
theorem infoTk_parts : ∃ i, Tryd.prog.info? 35 = some i ∧ i.zero = some (.agg #[.int .i64 0, .int .i64 0]) ∧ i.size = 2 ∧ i.bytes = 16 := by
  obtain ⟨i, h1, h2⟩ := Option.map_eq_some_iff.1 Tryd.infoTk
  simp only [Prod.mk.injEq] at h2
  exact ⟨i, h1, h2.1, h2.2.1, h2.2.2⟩
set_option maxRecDepth 100000 in
set_option maxHeartbeats 6400000 in
theorem jtasks_w {w : World} {P : Nat → Prop} {q b : Nat} {T : List (Int × Option EN)} {bl : Int → Nat} {L : List JE} (h : JbP w P q b T bl L) :
    Calls Tryd.prog 50 #[.map (some b), .func (.func 51) #[] #[]] w fun e w' => ∃ v, e = .returned v ∧ OwnE encTk 35 w' w.heap.size v (tasksJ selW L) ∧ Below w.heap.size w w' := by
  have HS := Lib.hid h.sorted_c
  have HIS : Hid (∀ W, Below w.heap.size w W → ∀ (e : JE) (p : Int), Calls Tryd.prog 51 #[.agg #[.int .i64 (e.job).id, .int .i64 (e.job).tenant, .int .i64 (e.job).cell, .int .i64 (e.job).band, .int .i64 (e.job).tasks, .int .i64 (e.job).need.a, .int .i64 (e.job).need.b, .int .i64 (e.job).need.c, .int .i64 (e.job).need.d, .int .i64 (e.job).first, .int .i64 (e.job).windows, .int .i64 (e.job).budget, .bool (e.job).env, .int .i64 (e.job).set], .int .i64 p] W fun r w' => r = .returned (.bool (selW e p)) ∧ Below W.heap.size W w') := Lib.hid fun W hb e p => jiswait_c e.job p W
  obtain ⟨N, hN⟩ : ∃ N, L.length = N := ⟨_, rfl⟩
  have HL8 : Hid (∀ e ∈ L, e.pl.length ≤ 8) := Lib.hid fun e he => (h.good.len he).2
  have hN32 : N ≤ 32 := by rw [← hN]; exact h.good.few
  have HPL : Hid (∀ W, Below w.heap.size w W → ∀ e ∈ L, ∀ k, k < e.pl.length → W.cell? ⟨bl e.job.id, k, none⟩ = some (.int .i64 (plAt e k))) := Lib.hid fun W hb e he k hk => ((h.on hb).cell he hk).1
  have HNN := Lib.hid hN
  obtain ⟨i0, hi0, hz0, hz1, hz2⟩ := infoTk_parts
  have HI0 := Lib.hid hi0; have HZ0 := Lib.hid hz0; have HZ1 := Lib.hid hz1; have HZ2 := Lib.hid hz2
  clear h hi0 hz0 hz1 hz2
  go_enter Tryd.func50, Tryd.ntmps50
  go_wp2_with fail
  refine HS.out.mono ?_
  rintro e w2 ⟨v, rfl, hv, hb2⟩
  obtain ⟨A, c, rfl⟩ := hv.form
  have HR : Hid (∀ W, Below w2.heap.size w2 W → ReadsE encEn W A (L.map (enOf bl))) := Lib.hid fun W hb => (own_reads hv).on hb
  have HB2 := Lib.hid hb2
  rw [List.length_map, hN]
  clear hv hb2 HS hN
  go_wp2_with fail
  go_loopw [5, 13] (fun V I wr => ∃ i : Nat, i ≤ N ∧ I = .int .i64 (i : Int) ∧ OwnE encTk 35 wr w2.heap.size V (tasksJ selW (L.take i)) ∧ Below w2.heap.size w2 wr) (fun _ I _ => N - natJ I)
  case atStart => exact ⟨0, Nat.zero_le _, rfl, OwnE.nil _ _ _, Below.refl _ _⟩
  case round =>
    obtain ⟨i, hi, rfl, ho, hb⟩ := hrel
    obtain ⟨VA, vc, hV⟩ := ho.form
    subst hV
    obtain ⟨vn, hvn⟩ : ∃ vn, (tasksJ selW (L.take i)).length = vn := ⟨_, rfl⟩
    have HVN := Lib.hid hvn
    have HO := Lib.hid ho; have HB := Lib.hid hb
    rw [hvn]
    clear ho hb hvn
    have i0' : (0 : Int) ≤ (i : Int) := by omega
    by_cases hiN : i < N
    · have i1' : (i : Int) < (N : Int) := by omega
      have hw1 : wrap64 ((i : Int) + 1) = ((i + 1 : Nat) : Int) := by unfold wrap64; omega
      obtain ⟨e, he⟩ : ∃ e, L[i]? = some e := ⟨_, List.getElem?_eq_getElem (by have := HNN.out; omega)⟩
      have hem : e ∈ L := List.mem_of_getElem? he
      obtain ⟨y, hy⟩ : ∃ y, enOf bl e = y := ⟨_, rfl⟩
      have hyi : (L.map (enOf bl))[i]? = some y := by rw [List.getElem?_map, he, Option.map_some, hy]
      obtain ⟨ad, pa, hA, hadd, -, hcc⟩ := HR.out wr HB.out i y hyi
      subst hA
      obtain ⟨m, hm⟩ : ∃ m, e.pl.length = m := ⟨_, rfl⟩
      have hyn : y.n = m := by rw [← hy, ← hm]; rfl
      have hyj : y.job = e.job := by rw [← hy]; rfl
      have hyg : y.g = bl e.job.id := by rw [← hy]; rfl
      have HM8 : Hid (m ≤ 8) := Lib.hid (by rw [← hm]; exact HL8.out e hem)
      have HCP : Hid (∀ W, Below w2.heap.size w2 W → ∀ k, k < m → W.cell? ⟨y.g, k, none⟩ = some (.int .i64 (plAt e k))) := Lib.hid fun W hb k hk => by rw [hyg]; exact HPL.out W (HB2.out.trans (hb.mono HB2.out.size)) e hem k (by rw [hm]; exact hk)
      have HTS : Hid (tasksJ selW (L.take (i + 1)) = tasksJ selW (L.take i) ++ rowT selW e m) := Lib.hid (by rw [← hm]; exact tasksJ_succ _ he)
      have HC : Hid (∀ W, Below w2.heap.size w2 W → ∀ p : Int, Calls Tryd.prog 51 #[.agg #[.int .i64 (y.job).id, .int .i64 (y.job).tenant, .int .i64 (y.job).cell, .int .i64 (y.job).band, .int .i64 (y.job).tasks, .int .i64 (y.job).need.a, .int .i64 (y.job).need.b, .int .i64 (y.job).need.c, .int .i64 (y.job).need.d, .int .i64 (y.job).first, .int .i64 (y.job).windows, .int .i64 (y.job).budget, .bool (y.job).env, .int .i64 (y.job).set], .int .i64 p] W fun r w' => r = .returned (.bool (selW e p)) ∧ Below W.heap.size W w') := Lib.hid fun W hb p => by
        rw [hyj]
        exact HIS.out W (HB2.out.trans (hb.mono HB2.out.size)) e p
      have HID : Hid (y.job.id = e.job.id) := Lib.hid (by rw [hyj])
      have HTL : Hid (vn ≤ 256) := Lib.hid (by
        rw [← HVN.out]
        have h1 := tasksJ_len selW (L := L.take i) fun e he => HL8.out e (List.mem_of_mem_take he)
        have h2 : (L.take i).length ≤ 32 := by rw [List.length_take]; omega
        omega)
      have d0 := hcc 0 _ rfl
      have d1 := hcc 1 _ rfl
      have d2 := hcc 2 _ rfl
      have d3 := hcc 3 _ rfl
      have d4 := hcc 4 _ rfl
      have d5 := hcc 5 _ rfl
      have d6 := hcc 6 _ rfl
      have d7 := hcc 7 _ rfl
      have d8 := hcc 8 _ rfl
      have d9 := hcc 9 _ rfl
      have d10 := hcc 10 _ rfl
      have d11 := hcc 11 _ rfl
      have d12 := hcc 12 _ rfl
      have d13 := hcc 13 _ rfl
      have d14 := hcc 14 _ rfl
      rw [add_zeroE] at d0
      rw [add_posJ _ (by omega)] at d1 d2 d3 d4 d5 d6 d7 d8 d9 d10 d11 d12 d13 d14
      obtain ⟨gx, hgx⟩ : ∃ gx, wr.heap.size = gx := ⟨_, rfl⟩
      obtain ⟨W3, hW3⟩ : ∃ W3, wr.alloc (.cells #[.int .i64 y.job.id, .int .i64 y.job.tenant, .int .i64 y.job.cell, .int .i64 y.job.band, .int .i64 y.job.tasks, .int .i64 y.job.need.a, .int .i64 y.job.need.b, .int .i64 y.job.need.c, .int .i64 y.job.need.d, .int .i64 y.job.first, .int .i64 y.job.windows, .int .i64 y.job.budget, .bool y.job.env, .int .i64 y.job.set, .slice (some ⟨y.g, 0, none⟩) y.n y.n] 107) = W3 := ⟨_, rfl⟩
      have hb3 : Below wr.heap.size wr W3 := by rw [← hW3]; exact (Below.refl _ _).alloc (Nat.le_refl _) _
      have hx3 : W3.heap[gx]? = some (.cells #[.int .i64 y.job.id, .int .i64 y.job.tenant, .int .i64 y.job.cell, .int .i64 y.job.band, .int .i64 y.job.tasks, .int .i64 y.job.need.a, .int .i64 y.job.need.b, .int .i64 y.job.need.c, .int .i64 y.job.need.d, .int .i64 y.job.first, .int .i64 y.job.windows, .int .i64 y.job.budget, .bool y.job.env, .int .i64 y.job.set, .slice (some ⟨y.g, 0, none⟩) y.n y.n] 107 (0, 0)) := by rw [← hW3, ← hgx]; exact heap_alloc_new _ _
      have HX3 := Lib.hid hx3
      have HB3 := Lib.hid (HB.out.trans (hb3.mono HB.out.size))
      have HO3 : Hid (OwnE encTk 35 W3 w2.heap.size (.slice VA vn vc) (tasksJ selW (L.take i))) := Lib.hid (by have := HO.out.on hb3; rwa [HVN.out] at this)
      have HGX := Lib.hid hgx; have HW3 := Lib.hid hW3
      have HYN := Lib.hid hyn
      clear he hem hyi hcc hy hyj hyg hm hb3 hgx hW3 hyn
      have z14 := cell_of_heap hx3 14
      simp at z14
      rw [HYN.out] at z14
      clear hx3
      go_upto_region 5 with fail
      rw [HW3.out, HGX.out]
      clear hadd d0 d1 d2 d3 d4 d5 d6 d7 d8 d9 d10 d11 d12 d13 d14
      go_wp2_with fail
      clear z14
      obtain ⟨wo, hwo⟩ : ∃ wo, wo = wr := ⟨_, rfl⟩
      subst hwo
      go_loopw [5, 20] (fun V I wi => ∃ k : Nat, k ≤ m ∧ I = .int .i64 (k : Int) ∧ OwnE encTk 35 wi w2.heap.size V (tasksJ selW (L.take i) ++ rowT selW e k) ∧ wi.heap[gx]? = some (.cells #[.int .i64 y.job.id, .int .i64 y.job.tenant, .int .i64 y.job.cell, .int .i64 y.job.band, .int .i64 y.job.tasks, .int .i64 y.job.need.a, .int .i64 y.job.need.b, .int .i64 y.job.need.c, .int .i64 y.job.need.d, .int .i64 y.job.first, .int .i64 y.job.windows, .int .i64 y.job.budget, .bool y.job.env, .int .i64 y.job.set, .slice (some ⟨y.g, 0, none⟩) y.n y.n] 107 (0, 0)) ∧ Below w2.heap.size w2 wi) (fun _ I _ => m - natJ I)
      case atStart => exact ⟨0, Nat.zero_le _, rfl, by rw [rowT_zero, List.append_nil]; exact HO3.out, HX3.out, HB3.out⟩
      case round =>
        obtain ⟨k, hk, rfl, ho, hx, hb⟩ := hrel
        obtain ⟨A2, c2, hV⟩ := ho.form
        subst hV
        obtain ⟨un, hun⟩ : ∃ un, (tasksJ selW (L.take i) ++ rowT selW e k).length = un := ⟨_, rfl⟩
        have HUN := Lib.hid hun
        have HO2 : Hid (OwnE encTk 35 wr w2.heap.size (.slice A2 un c2) (tasksJ selW (L.take i) ++ rowT selW e k)) := Lib.hid (by rw [hun] at ho; exact ho)
        have HX2 := Lib.hid hx; have HBI := Lib.hid hb
        rw [hun]
        have k0 : (0 : Int) ≤ (k : Int) := by omega
        by_cases hkm : k < m
        · have k1 : (k : Int) < (m : Int) := by omega
          have hw2 : wrap64 ((k : Int) + 1) = ((k + 1 : Nat) : Int) := by have := HM8.out; unfold wrap64; omega
          obtain ⟨pk, hpk⟩ : ∃ pk, plAt e k = pk := ⟨_, rfl⟩
          have pc := HCP.out wr hb k hkm
          rw [hpk] at pc
          obtain ⟨sb, hsb⟩ : ∃ sb, selW e pk = sb := ⟨_, rfl⟩
          have HS1 : Hid (sb = true → rowT selW e (k + 1) = rowT selW e k ++ [⟨y.job.id, (k : Int)⟩]) := Lib.hid fun h => by rw [HID.out, rowT_succ, hpk, hsb, if_pos h]
          have HS0 : Hid (sb = false → rowT selW e (k + 1) = rowT selW e k) := Lib.hid fun h => by rw [rowT_succ, hpk, hsb, if_neg (by rw [h]; decide)]
          have hcw := HC.out wr hb pk
          rw [hsb] at hcw
          have HCW := Lib.hid hcw
          have HUL : Hid (un ≤ 300) := Lib.hid (by have h1 := rowT_len selW e k; have h2 := HTL.out; have h3 := HVN.out; have h4 := HM8.out; rw [← hun, List.length_append, h3]; omega)
          have z0 := cell_of_heap hx 0
          have z1 := cell_of_heap hx 1
          have z2 := cell_of_heap hx 2
          have z3 := cell_of_heap hx 3
          have z4 := cell_of_heap hx 4
          have z5 := cell_of_heap hx 5
          have z6 := cell_of_heap hx 6
          have z7 := cell_of_heap hx 7
          have z8 := cell_of_heap hx 8
          have z9 := cell_of_heap hx 9
          have z10 := cell_of_heap hx 10
          have z11 := cell_of_heap hx 11
          have z12 := cell_of_heap hx 12
          have z13 := cell_of_heap hx 13
          simp at z0 z1 z2 z3 z4 z5 z6 z7 z8 z9 z10 z11 z12 z13
          clear ho hx hb hun hpk hcw hsb
          go_wp2_with fail
          refine HCW.out.mono ?_
          rintro r w5 ⟨rfl, b5⟩
          have hx5 := (b5.block gx (lt_of_row HX2.out)).trans HX2.out
          have HX5 := Lib.hid hx5
          have HB5 := Lib.hid b5
          clear b5 HCW pc z0 z1 z2 z3 z4 z5 z6 z7 z8 z9 z10 z11 z12 z13
          have q0 := cell_of_heap hx5 0
          simp at q0
          clear hx5
          cases sb with
          | true =>
            have HSS := Lib.hid (HS1.out rfl)
            clear HS0 HS1
            obtain ⟨W6, hW6⟩ : ∃ W6, w5.alloc (.cells #[.int .i64 y.job.id, .int .i64 (k : Int)] 35) = W6 := ⟨_, rfl⟩
            have hb6 : Below w5.heap.size w5 W6 := by rw [← hW6]; exact (Below.refl _ _).alloc (Nat.le_refl _) _
            have hb06 : Below wr.heap.size wr W6 := HB5.out.trans (hb6.mono HB5.out.size)
            have A1 : Hid (OwnE encTk 35 W6 w2.heap.size (.slice A2 un c2) (tasksJ selW (L.take i) ++ rowT selW e k)) := Lib.hid (HO2.out.on hb06)
            have B2 : Hid (LiesE encTk W6 (.slice (some ⟨w5.heap.size, 0, none⟩) 1 1) [⟨y.job.id, (k : Int)⟩]) := Lib.hid (by
              have := lies_lit encTk (w := W6) (g := w5.heap.size) (t := 35) [⟨y.job.id, (k : Int)⟩] (by rw [← hW6]; exact heap_alloc_new w5 _)
              exact this)
            have A3 : Hid ((tasksJ selW (L.take i) ++ rowT selW e k).length + [(⟨y.job.id, (k : Int)⟩ : Tk)].length ≤ maxLen) := Lib.hid (by rw [HUN.out]; have := HUL.out; simp only [List.length_singleton, maxLen]; omega)
            have A4 : Hid (((tasksJ selW (L.take i) ++ rowT selW e k).length + [(⟨y.job.id, (k : Int)⟩ : Tk)].length) * 16 ≤ 140737488355328) := Lib.hid (by rw [HUN.out]; have := HUL.out; simp only [List.length_singleton]; omega)
            have hb26 : Below w2.heap.size w2 W6 := HBI.out.trans (hb06.mono HBI.out.size)
            have A5 : Hid (w2.heap.size ≤ W6.heap.size) := Lib.hid hb26.size
            have HX6 : Hid (W6.heap[gx]? = some (.cells #[.int .i64 y.job.id, .int .i64 y.job.tenant, .int .i64 y.job.cell, .int .i64 y.job.band, .int .i64 y.job.tasks, .int .i64 y.job.need.a, .int .i64 y.job.need.b, .int .i64 y.job.need.c, .int .i64 y.job.need.d, .int .i64 y.job.first, .int .i64 y.job.windows, .int .i64 y.job.budget, .bool y.job.env, .int .i64 y.job.set, .slice (some ⟨y.g, 0, none⟩) y.n y.n] 107 (0, 0))) := Lib.hid ((hb6.block gx (lt_of_row HX5.out)).trans HX5.out)
            have HB6 := Lib.hid hb26
            have HW6 := Lib.hid hW6
            clear hW6 hb6 hb06 hb26
            have f0 := HI0.out; have f1 := HZ0.out; have f2 := HZ1.out; have f3 := HZ2.out
            go_wp2_with (at_builtin; rw [HW6.out]; refine wpList_append_E (E := encTk) rfl _ _ 63 rfl i0 _ 16 Tryd.underlying63 f0 f1 f2 f3 rfl (by decide) rfl A1.out rfl B2.out A3.out A4.out A5.out ?_; intro v' w' hv hgr hown)
            have HV := Lib.hid hv
            have HX7 : Hid (w'.heap[gx]? = some (.cells #[.int .i64 y.job.id, .int .i64 y.job.tenant, .int .i64 y.job.cell, .int .i64 y.job.band, .int .i64 y.job.tasks, .int .i64 y.job.need.a, .int .i64 y.job.need.b, .int .i64 y.job.need.c, .int .i64 y.job.need.d, .int .i64 y.job.first, .int .i64 y.job.windows, .int .i64 y.job.budget, .bool y.job.env, .int .i64 y.job.set, .slice (some ⟨y.g, 0, none⟩) y.n y.n] 107 (0, 0))) := Lib.hid ((hgr.block gx (lt_of_row HX6.out) (fun e => own_ne A1.out HX6.out (by decide) e.symm)).trans HX6.out)
            have HB7 : Hid (Below w2.heap.size w2 w') := Lib.hid (HB6.out.grown hgr HB6.out.size (fun j hj => (A1.out.lt j hj).1))
            clear hv hgr hown f0 f1 f2 f3
            go_wp2_with fail
            go_roundw
            case rel => exact ⟨k + 1, hkm, by first | (rw [← hw2]; done) | (rw [← hw2]; first | rfl | (congr 1; omega)), by rw [HSS.out, ← List.append_assoc]; exact HV.out, HX7.out, HB7.out⟩
            case measure => simp [natJ]; omega
          | false =>
            have HSS := Lib.hid (HS0.out rfl)
            clear q0 HS0 HS1
            go_wp2_with fail
            go_roundw
            case rel => exact ⟨k + 1, hkm, by first | (rw [← hw2]; done) | (rw [← hw2]; first | rfl | (congr 1; omega)), by rw [HSS.out]; exact HO2.out.on HB5.out, HX5.out, HBI.out.trans (HB5.out.mono HBI.out.size)⟩
            case measure => simp [natJ]; omega
        · obtain rfl : k = m := by omega
          clear ho hx hb hun
          go_wp2_with fail
          go_roundw
          case rel => exact ⟨i + 1, by omega, by first | (rw [← hw1]; done) | (rw [← hw1]; first | rfl | (congr 1; omega)), by rw [HTS.out]; exact HO2.out, HBI.out⟩
          case measure => simp [natJ]; omega
    · obtain rfl : i = N := by omega
      have hall : L.take i = L := by rw [← HNN.out]; exact List.take_length
      have HALL := Lib.hid hall
      clear hall
      go_wp2_with fail
      go_ret
      refine ⟨_, rfl, ?_, HB2.out.trans (HB.out.mono HB2.out.size)⟩
      have := HO.out
      rw [HVN.out, HALL.out] at this
      exact this.base HB2.out.size
set_option maxRecDepth 100000 in
set_option maxHeartbeats 6400000 in
theorem jtasks_a {w : World} {P : Nat → Prop} {q b : Nat} {T : List (Int × Option EN)} {bl : Int → Nat} {L : List JE} (h : JbP w P q b T bl L) (pl : Int) (gq : Nat) (hq : w.heap[gq]? = some (.cells #[.int .i64 pl] 3 (0, 0))) :
    Calls Tryd.prog 50 #[.map (some b), .func (.func 52) #[] #[.pointer (some ⟨gq, 0, none⟩)]] w fun e w' => ∃ v, e = .returned v ∧ OwnE encTk 35 w' w.heap.size v (tasksJ (selA pl) L) ∧ Below w.heap.size w w' := by
  have HS := Lib.hid h.sorted_c
  have HIS : Hid (∀ W, Below w.heap.size w W → ∀ (e : JE) (p : Int), Calls Tryd.prog 52 #[.agg #[.int .i64 (e.job).id, .int .i64 (e.job).tenant, .int .i64 (e.job).cell, .int .i64 (e.job).band, .int .i64 (e.job).tasks, .int .i64 (e.job).need.a, .int .i64 (e.job).need.b, .int .i64 (e.job).need.c, .int .i64 (e.job).need.d, .int .i64 (e.job).first, .int .i64 (e.job).windows, .int .i64 (e.job).budget, .bool (e.job).env, .int .i64 (e.job).set], .int .i64 p, .pointer (some ⟨gq, 0, none⟩)] W fun r w' => r = .returned (.bool ((selA pl) e p)) ∧ Below W.heap.size W w') := Lib.hid fun W hb e p => jisat_c e.job p pl gq W ((hb.block gq (lt_of_row hq)).trans hq)
  obtain ⟨N, hN⟩ : ∃ N, L.length = N := ⟨_, rfl⟩
  have HL8 : Hid (∀ e ∈ L, e.pl.length ≤ 8) := Lib.hid fun e he => (h.good.len he).2
  have hN32 : N ≤ 32 := by rw [← hN]; exact h.good.few
  have HPL : Hid (∀ W, Below w.heap.size w W → ∀ e ∈ L, ∀ k, k < e.pl.length → W.cell? ⟨bl e.job.id, k, none⟩ = some (.int .i64 (plAt e k))) := Lib.hid fun W hb e he k hk => ((h.on hb).cell he hk).1
  have HNN := Lib.hid hN
  obtain ⟨i0, hi0, hz0, hz1, hz2⟩ := infoTk_parts
  have HI0 := Lib.hid hi0; have HZ0 := Lib.hid hz0; have HZ1 := Lib.hid hz1; have HZ2 := Lib.hid hz2
  clear h hq hi0 hz0 hz1 hz2
  go_enter Tryd.func50, Tryd.ntmps50
  go_wp2_with fail
  refine HS.out.mono ?_
  rintro e w2 ⟨v, rfl, hv, hb2⟩
  obtain ⟨A, c, rfl⟩ := hv.form
  have HR : Hid (∀ W, Below w2.heap.size w2 W → ReadsE encEn W A (L.map (enOf bl))) := Lib.hid fun W hb => (own_reads hv).on hb
  have HB2 := Lib.hid hb2
  rw [List.length_map, hN]
  clear hv hb2 HS hN
  go_wp2_with fail
  go_loopw [5, 13] (fun V I wr => ∃ i : Nat, i ≤ N ∧ I = .int .i64 (i : Int) ∧ OwnE encTk 35 wr w2.heap.size V (tasksJ (selA pl) (L.take i)) ∧ Below w2.heap.size w2 wr) (fun _ I _ => N - natJ I)
  case atStart => exact ⟨0, Nat.zero_le _, rfl, OwnE.nil _ _ _, Below.refl _ _⟩
  case round =>
    obtain ⟨i, hi, rfl, ho, hb⟩ := hrel
    obtain ⟨VA, vc, hV⟩ := ho.form
    subst hV
    obtain ⟨vn, hvn⟩ : ∃ vn, (tasksJ (selA pl) (L.take i)).length = vn := ⟨_, rfl⟩
    have HVN := Lib.hid hvn
    have HO := Lib.hid ho; have HB := Lib.hid hb
    rw [hvn]
    clear ho hb hvn
    have i0' : (0 : Int) ≤ (i : Int) := by omega
    by_cases hiN : i < N
    · have i1' : (i : Int) < (N : Int) := by omega
      have hw1 : wrap64 ((i : Int) + 1) = ((i + 1 : Nat) : Int) := by unfold wrap64; omega
      obtain ⟨e, he⟩ : ∃ e, L[i]? = some e := ⟨_, List.getElem?_eq_getElem (by have := HNN.out; omega)⟩
      have hem : e ∈ L := List.mem_of_getElem? he
      obtain ⟨y, hy⟩ : ∃ y, enOf bl e = y := ⟨_, rfl⟩
      have hyi : (L.map (enOf bl))[i]? = some y := by rw [List.getElem?_map, he, Option.map_some, hy]
      obtain ⟨ad, pa, hA, hadd, -, hcc⟩ := HR.out wr HB.out i y hyi
      subst hA
      obtain ⟨m, hm⟩ : ∃ m, e.pl.length = m := ⟨_, rfl⟩
      have hyn : y.n = m := by rw [← hy, ← hm]; rfl
      have hyj : y.job = e.job := by rw [← hy]; rfl
      have hyg : y.g = bl e.job.id := by rw [← hy]; rfl
      have HM8 : Hid (m ≤ 8) := Lib.hid (by rw [← hm]; exact HL8.out e hem)
      have HCP : Hid (∀ W, Below w2.heap.size w2 W → ∀ k, k < m → W.cell? ⟨y.g, k, none⟩ = some (.int .i64 (plAt e k))) := Lib.hid fun W hb k hk => by rw [hyg]; exact HPL.out W (HB2.out.trans (hb.mono HB2.out.size)) e hem k (by rw [hm]; exact hk)
      have HTS : Hid (tasksJ (selA pl) (L.take (i + 1)) = tasksJ (selA pl) (L.take i) ++ rowT (selA pl) e m) := Lib.hid (by rw [← hm]; exact tasksJ_succ _ he)
      have HC : Hid (∀ W, Below w2.heap.size w2 W → ∀ p : Int, Calls Tryd.prog 52 #[.agg #[.int .i64 (y.job).id, .int .i64 (y.job).tenant, .int .i64 (y.job).cell, .int .i64 (y.job).band, .int .i64 (y.job).tasks, .int .i64 (y.job).need.a, .int .i64 (y.job).need.b, .int .i64 (y.job).need.c, .int .i64 (y.job).need.d, .int .i64 (y.job).first, .int .i64 (y.job).windows, .int .i64 (y.job).budget, .bool (y.job).env, .int .i64 (y.job).set], .int .i64 p, .pointer (some ⟨gq, 0, none⟩)] W fun r w' => r = .returned (.bool ((selA pl) e p)) ∧ Below W.heap.size W w') := Lib.hid fun W hb p => by
        rw [hyj]
        exact HIS.out W (HB2.out.trans (hb.mono HB2.out.size)) e p
      have HID : Hid (y.job.id = e.job.id) := Lib.hid (by rw [hyj])
      have HTL : Hid (vn ≤ 256) := Lib.hid (by
        rw [← HVN.out]
        have h1 := tasksJ_len (selA pl) (L := L.take i) fun e he => HL8.out e (List.mem_of_mem_take he)
        have h2 : (L.take i).length ≤ 32 := by rw [List.length_take]; omega
        omega)
      have d0 := hcc 0 _ rfl
      have d1 := hcc 1 _ rfl
      have d2 := hcc 2 _ rfl
      have d3 := hcc 3 _ rfl
      have d4 := hcc 4 _ rfl
      have d5 := hcc 5 _ rfl
      have d6 := hcc 6 _ rfl
      have d7 := hcc 7 _ rfl
      have d8 := hcc 8 _ rfl
      have d9 := hcc 9 _ rfl
      have d10 := hcc 10 _ rfl
      have d11 := hcc 11 _ rfl
      have d12 := hcc 12 _ rfl
      have d13 := hcc 13 _ rfl
      have d14 := hcc 14 _ rfl
      rw [add_zeroE] at d0
      rw [add_posJ _ (by omega)] at d1 d2 d3 d4 d5 d6 d7 d8 d9 d10 d11 d12 d13 d14
      obtain ⟨gx, hgx⟩ : ∃ gx, wr.heap.size = gx := ⟨_, rfl⟩
      obtain ⟨W3, hW3⟩ : ∃ W3, wr.alloc (.cells #[.int .i64 y.job.id, .int .i64 y.job.tenant, .int .i64 y.job.cell, .int .i64 y.job.band, .int .i64 y.job.tasks, .int .i64 y.job.need.a, .int .i64 y.job.need.b, .int .i64 y.job.need.c, .int .i64 y.job.need.d, .int .i64 y.job.first, .int .i64 y.job.windows, .int .i64 y.job.budget, .bool y.job.env, .int .i64 y.job.set, .slice (some ⟨y.g, 0, none⟩) y.n y.n] 107) = W3 := ⟨_, rfl⟩
      have hb3 : Below wr.heap.size wr W3 := by rw [← hW3]; exact (Below.refl _ _).alloc (Nat.le_refl _) _
      have hx3 : W3.heap[gx]? = some (.cells #[.int .i64 y.job.id, .int .i64 y.job.tenant, .int .i64 y.job.cell, .int .i64 y.job.band, .int .i64 y.job.tasks, .int .i64 y.job.need.a, .int .i64 y.job.need.b, .int .i64 y.job.need.c, .int .i64 y.job.need.d, .int .i64 y.job.first, .int .i64 y.job.windows, .int .i64 y.job.budget, .bool y.job.env, .int .i64 y.job.set, .slice (some ⟨y.g, 0, none⟩) y.n y.n] 107 (0, 0)) := by rw [← hW3, ← hgx]; exact heap_alloc_new _ _
      have HX3 := Lib.hid hx3
      have HB3 := Lib.hid (HB.out.trans (hb3.mono HB.out.size))
      have HO3 : Hid (OwnE encTk 35 W3 w2.heap.size (.slice VA vn vc) (tasksJ (selA pl) (L.take i))) := Lib.hid (by have := HO.out.on hb3; rwa [HVN.out] at this)
      have HGX := Lib.hid hgx; have HW3 := Lib.hid hW3
      have HYN := Lib.hid hyn
      clear he hem hyi hcc hy hyj hyg hm hb3 hgx hW3 hyn
      have z14 := cell_of_heap hx3 14
      simp at z14
      rw [HYN.out] at z14
      clear hx3
      go_upto_region 5 with fail
      rw [HW3.out, HGX.out]
      clear hadd d0 d1 d2 d3 d4 d5 d6 d7 d8 d9 d10 d11 d12 d13 d14
      go_wp2_with fail
      clear z14
      obtain ⟨wo, hwo⟩ : ∃ wo, wo = wr := ⟨_, rfl⟩
      subst hwo
      go_loopw [5, 20] (fun V I wi => ∃ k : Nat, k ≤ m ∧ I = .int .i64 (k : Int) ∧ OwnE encTk 35 wi w2.heap.size V (tasksJ (selA pl) (L.take i) ++ rowT (selA pl) e k) ∧ wi.heap[gx]? = some (.cells #[.int .i64 y.job.id, .int .i64 y.job.tenant, .int .i64 y.job.cell, .int .i64 y.job.band, .int .i64 y.job.tasks, .int .i64 y.job.need.a, .int .i64 y.job.need.b, .int .i64 y.job.need.c, .int .i64 y.job.need.d, .int .i64 y.job.first, .int .i64 y.job.windows, .int .i64 y.job.budget, .bool y.job.env, .int .i64 y.job.set, .slice (some ⟨y.g, 0, none⟩) y.n y.n] 107 (0, 0)) ∧ Below w2.heap.size w2 wi) (fun _ I _ => m - natJ I)
      case atStart => exact ⟨0, Nat.zero_le _, rfl, by rw [rowT_zero, List.append_nil]; exact HO3.out, HX3.out, HB3.out⟩
      case round =>
        obtain ⟨k, hk, rfl, ho, hx, hb⟩ := hrel
        obtain ⟨A2, c2, hV⟩ := ho.form
        subst hV
        obtain ⟨un, hun⟩ : ∃ un, (tasksJ (selA pl) (L.take i) ++ rowT (selA pl) e k).length = un := ⟨_, rfl⟩
        have HUN := Lib.hid hun
        have HO2 : Hid (OwnE encTk 35 wr w2.heap.size (.slice A2 un c2) (tasksJ (selA pl) (L.take i) ++ rowT (selA pl) e k)) := Lib.hid (by rw [hun] at ho; exact ho)
        have HX2 := Lib.hid hx; have HBI := Lib.hid hb
        rw [hun]
        have k0 : (0 : Int) ≤ (k : Int) := by omega
        by_cases hkm : k < m
        · have k1 : (k : Int) < (m : Int) := by omega
          have hw2 : wrap64 ((k : Int) + 1) = ((k + 1 : Nat) : Int) := by have := HM8.out; unfold wrap64; omega
          obtain ⟨pk, hpk⟩ : ∃ pk, plAt e k = pk := ⟨_, rfl⟩
          have pc := HCP.out wr hb k hkm
          rw [hpk] at pc
          obtain ⟨sb, hsb⟩ : ∃ sb, (selA pl) e pk = sb := ⟨_, rfl⟩
          have HS1 : Hid (sb = true → rowT (selA pl) e (k + 1) = rowT (selA pl) e k ++ [⟨y.job.id, (k : Int)⟩]) := Lib.hid fun h => by rw [HID.out, rowT_succ, hpk, hsb, if_pos h]
          have HS0 : Hid (sb = false → rowT (selA pl) e (k + 1) = rowT (selA pl) e k) := Lib.hid fun h => by rw [rowT_succ, hpk, hsb, if_neg (by rw [h]; decide)]
          have hcw := HC.out wr hb pk
          rw [hsb] at hcw
          have HCW := Lib.hid hcw
          have HUL : Hid (un ≤ 300) := Lib.hid (by have h1 := rowT_len (selA pl) e k; have h2 := HTL.out; have h3 := HVN.out; have h4 := HM8.out; rw [← hun, List.length_append, h3]; omega)
          have z0 := cell_of_heap hx 0
          have z1 := cell_of_heap hx 1
          have z2 := cell_of_heap hx 2
          have z3 := cell_of_heap hx 3
          have z4 := cell_of_heap hx 4
          have z5 := cell_of_heap hx 5
          have z6 := cell_of_heap hx 6
          have z7 := cell_of_heap hx 7
          have z8 := cell_of_heap hx 8
          have z9 := cell_of_heap hx 9
          have z10 := cell_of_heap hx 10
          have z11 := cell_of_heap hx 11
          have z12 := cell_of_heap hx 12
          have z13 := cell_of_heap hx 13
          simp at z0 z1 z2 z3 z4 z5 z6 z7 z8 z9 z10 z11 z12 z13
          clear ho hx hb hun hpk hcw hsb
          go_wp2_with fail
          refine HCW.out.mono ?_
          rintro r w5 ⟨rfl, b5⟩
          have hx5 := (b5.block gx (lt_of_row HX2.out)).trans HX2.out
          have HX5 := Lib.hid hx5
          have HB5 := Lib.hid b5
          clear b5 HCW pc z0 z1 z2 z3 z4 z5 z6 z7 z8 z9 z10 z11 z12 z13
          have q0 := cell_of_heap hx5 0
          simp at q0
          clear hx5
          cases sb with
          | true =>
            have HSS := Lib.hid (HS1.out rfl)
            clear HS0 HS1
            obtain ⟨W6, hW6⟩ : ∃ W6, w5.alloc (.cells #[.int .i64 y.job.id, .int .i64 (k : Int)] 35) = W6 := ⟨_, rfl⟩
            have hb6 : Below w5.heap.size w5 W6 := by rw [← hW6]; exact (Below.refl _ _).alloc (Nat.le_refl _) _
            have hb06 : Below wr.heap.size wr W6 := HB5.out.trans (hb6.mono HB5.out.size)
            have A1 : Hid (OwnE encTk 35 W6 w2.heap.size (.slice A2 un c2) (tasksJ (selA pl) (L.take i) ++ rowT (selA pl) e k)) := Lib.hid (HO2.out.on hb06)
            have B2 : Hid (LiesE encTk W6 (.slice (some ⟨w5.heap.size, 0, none⟩) 1 1) [⟨y.job.id, (k : Int)⟩]) := Lib.hid (by
              have := lies_lit encTk (w := W6) (g := w5.heap.size) (t := 35) [⟨y.job.id, (k : Int)⟩] (by rw [← hW6]; exact heap_alloc_new w5 _)
              exact this)
            have A3 : Hid ((tasksJ (selA pl) (L.take i) ++ rowT (selA pl) e k).length + [(⟨y.job.id, (k : Int)⟩ : Tk)].length ≤ maxLen) := Lib.hid (by rw [HUN.out]; have := HUL.out; simp only [List.length_singleton, maxLen]; omega)
            have A4 : Hid (((tasksJ (selA pl) (L.take i) ++ rowT (selA pl) e k).length + [(⟨y.job.id, (k : Int)⟩ : Tk)].length) * 16 ≤ 140737488355328) := Lib.hid (by rw [HUN.out]; have := HUL.out; simp only [List.length_singleton]; omega)
            have hb26 : Below w2.heap.size w2 W6 := HBI.out.trans (hb06.mono HBI.out.size)
            have A5 : Hid (w2.heap.size ≤ W6.heap.size) := Lib.hid hb26.size
            have HX6 : Hid (W6.heap[gx]? = some (.cells #[.int .i64 y.job.id, .int .i64 y.job.tenant, .int .i64 y.job.cell, .int .i64 y.job.band, .int .i64 y.job.tasks, .int .i64 y.job.need.a, .int .i64 y.job.need.b, .int .i64 y.job.need.c, .int .i64 y.job.need.d, .int .i64 y.job.first, .int .i64 y.job.windows, .int .i64 y.job.budget, .bool y.job.env, .int .i64 y.job.set, .slice (some ⟨y.g, 0, none⟩) y.n y.n] 107 (0, 0))) := Lib.hid ((hb6.block gx (lt_of_row HX5.out)).trans HX5.out)
            have HB6 := Lib.hid hb26
            have HW6 := Lib.hid hW6
            clear hW6 hb6 hb06 hb26
            have f0 := HI0.out; have f1 := HZ0.out; have f2 := HZ1.out; have f3 := HZ2.out
            go_wp2_with (at_builtin; rw [HW6.out]; refine wpList_append_E (E := encTk) rfl _ _ 63 rfl i0 _ 16 Tryd.underlying63 f0 f1 f2 f3 rfl (by decide) rfl A1.out rfl B2.out A3.out A4.out A5.out ?_; intro v' w' hv hgr hown)
            have HV := Lib.hid hv
            have HX7 : Hid (w'.heap[gx]? = some (.cells #[.int .i64 y.job.id, .int .i64 y.job.tenant, .int .i64 y.job.cell, .int .i64 y.job.band, .int .i64 y.job.tasks, .int .i64 y.job.need.a, .int .i64 y.job.need.b, .int .i64 y.job.need.c, .int .i64 y.job.need.d, .int .i64 y.job.first, .int .i64 y.job.windows, .int .i64 y.job.budget, .bool y.job.env, .int .i64 y.job.set, .slice (some ⟨y.g, 0, none⟩) y.n y.n] 107 (0, 0))) := Lib.hid ((hgr.block gx (lt_of_row HX6.out) (fun e => own_ne A1.out HX6.out (by decide) e.symm)).trans HX6.out)
            have HB7 : Hid (Below w2.heap.size w2 w') := Lib.hid (HB6.out.grown hgr HB6.out.size (fun j hj => (A1.out.lt j hj).1))
            clear hv hgr hown f0 f1 f2 f3
            go_wp2_with fail
            go_roundw
            case rel => exact ⟨k + 1, hkm, by first | (rw [← hw2]; done) | (rw [← hw2]; first | rfl | (congr 1; omega)), by rw [HSS.out, ← List.append_assoc]; exact HV.out, HX7.out, HB7.out⟩
            case measure => simp [natJ]; omega
          | false =>
            have HSS := Lib.hid (HS0.out rfl)
            clear q0 HS0 HS1
            go_wp2_with fail
            go_roundw
            case rel => exact ⟨k + 1, hkm, by first | (rw [← hw2]; done) | (rw [← hw2]; first | rfl | (congr 1; omega)), by rw [HSS.out]; exact HO2.out.on HB5.out, HX5.out, HBI.out.trans (HB5.out.mono HBI.out.size)⟩
            case measure => simp [natJ]; omega
        · obtain rfl : k = m := by omega
          clear ho hx hb hun
          go_wp2_with fail
          go_roundw
          case rel => exact ⟨i + 1, by omega, by first | (rw [← hw1]; done) | (rw [← hw1]; first | rfl | (congr 1; omega)), by rw [HTS.out]; exact HO2.out, HBI.out⟩
          case measure => simp [natJ]; omega
    · obtain rfl : i = N := by omega
      have hall : L.take i = L := by rw [← HNN.out]; exact List.take_length
      have HALL := Lib.hid hall
      clear hall
      go_wp2_with fail
      go_ret
      refine ⟨_, rfl, ?_, HB2.out.trans (HB.out.mono HB2.out.size)⟩
      have := HO.out
      rw [HVN.out, HALL.out] at this
      exact this.base HB2.out.size
end Go.Proofs.YtbfbhlpibclccaaDoor

/- The program's table of jobs by contracts: Waiting, At, Jobs. Condition: the table lies in memory as its map has it. -/
namespace Go.Proofs.YtbfbhlpibclccaaDoor
open Go Go.RowKit Go.Maps

section
variable {w : World} {P : Nat → Prop} {q : Nat} {L : List JE}
/-- Table.Waiting. -/
theorem JbW.waiting_c (h : JbW w P q L) :
    Calls Tryd.prog 27 #[.pointer (some ⟨q, 0, none⟩)] w fun e w' => ∃ v, e = .returned v ∧ OwnE encTk 35 w' w.heap.size v (tasksJ selW L) ∧ Below w.heap.size w w' := by
  obtain ⟨b, T, bl, h⟩ := h
  have HK := Lib.hid (jknown_c q b w h.box)
  have HT := Lib.hid (jtasks_w h)
  clear h
  go_enter Tryd.func27, Tryd.ntmps27
  go_wp2_with fail
  refine HK.out.mono ?_
  rintro e w1 ⟨rfl, rfl⟩
  go_wp2_with fail
  refine HT.out.mono ?_
  rintro e w2 ⟨v, rfl, k1, k2⟩
  have H1 := Lib.hid k1; have H2 := Lib.hid k2
  clear k1 k2
  go_wp2_with fail
  go_ret
  exact ⟨_, rfl, H1.out, H2.out⟩
/-- Table.At, at a place. -/
theorem JbW.at_c (h : JbW w P q L) {p : Int} (hp : 0 ≤ p) :
    Calls Tryd.prog 29 #[.pointer (some ⟨q, 0, none⟩), .int .i64 p] w fun e w' => ∃ v, e = .returned v ∧ OwnE encTk 35 w' w.heap.size v (tasksJ (selA p) L) ∧ Below w.heap.size w w' := by
  obtain ⟨b, T, bl, h⟩ := h
  obtain ⟨X, hX⟩ : ∃ X, w.heap.size = X := ⟨_, rfl⟩
  obtain ⟨W1, hW1⟩ : ∃ W1, w.alloc (.cells #[.int .i64 p] 3) = W1 := ⟨_, rfl⟩
  have hb1 : Below w.heap.size w W1 := by rw [← hW1]; exact (Below.refl _ _).alloc (Nat.le_refl _) _
  have hx1 : W1.heap[X]? = some (.cells #[.int .i64 p] 3 (0, 0)) := by rw [← hW1, ← hX]; exact heap_alloc_new _ _
  have hk := jknown_c q b W1 (h.on hb1).box
  have ht := jtasks_a (h.on hb1) p X hx1
  have c0 := cell_of_heap hx1 0
  simp at c0
  have HK := Lib.hid hk; have HT := Lib.hid ht; have HB := Lib.hid hb1; have HX := Lib.hid hX; have HW := Lib.hid hW1
  have dp : decide (p < 0) = false := decide_eq_false (by omega)
  clear h hk ht hb1 hx1 hX hW1
  go_enter Tryd.func29, Tryd.ntmps29
  go_upto_region 1 with fail
  rw [HW.out, HX.out]
  go_wp2_with fail
  refine HK.out.mono ?_
  rintro e w1 ⟨rfl, rfl⟩
  go_wp2_with fail
  refine HT.out.mono ?_
  rintro e w2 ⟨v, rfl, k1, k2⟩
  have H1 := Lib.hid k1; have H2 := Lib.hid k2
  clear k1 k2
  go_wp2_with fail
  go_ret
  exact ⟨_, rfl, H1.out.base HB.out.size, HB.out.trans (H2.out.mono HB.out.size)⟩
theorem Tryd.infoJR : (Tryd.prog.info? 33).map (fun i => (i.zero, i.size, i.bytes)) = some (some (.agg #[.int .i64 0, .int .i64 0, .int .i64 0, .int .i64 0, .int .i64 0, .int .i64 0, .int .i64 0, .int .i64 0, .int .i64 0, .int .i64 0, .int .i64 0, .int .i64 0, .bool false, .int .i64 0]), 14, 112) := by kernel_rfl
theorem infoJR_parts : ∃ i, Tryd.prog.info? 33 = some i ∧ i.zero = some (.agg #[.int .i64 0, .int .i64 0, .int .i64 0, .int .i64 0, .int .i64 0, .int .i64 0, .int .i64 0, .int .i64 0, .int .i64 0, .int .i64 0, .int .i64 0, .int .i64 0, .bool false, .int .i64 0]) ∧ i.size = 14 ∧ i.bytes = 112 := by
  obtain ⟨i, h1, h2⟩ := Option.map_eq_some_iff.1 Tryd.infoJR
  simp only [Prod.mk.injEq] at h2
  exact ⟨i, h1, h2.1, h2.2.1, h2.2.2⟩
set_option maxRecDepth 100000 in
set_option maxHeartbeats 6400000 in
/-- Table.Jobs. -/
theorem JbW.jobs_c (h : JbW w P q L) :
    Calls Tryd.prog 30 #[.pointer (some ⟨q, 0, none⟩)] w fun e w' => ∃ v, e = .returned v ∧ OwnE encJR 33 w' w.heap.size v (L.map (·.job)) ∧ Below w.heap.size w w' := by
  obtain ⟨b, T, bl, h⟩ := h
  have HK := Lib.hid (jknown_c q b w h.box)
  have HS := Lib.hid h.sorted_c
  obtain ⟨N, hN⟩ : ∃ N, L.length = N := ⟨_, rfl⟩
  have hN32 : N ≤ 32 := by rw [← hN]; exact h.good.few
  have HNN := Lib.hid hN
  obtain ⟨i0, hi0, hz0, hz1, hz2⟩ := infoJR_parts
  have HI0 := Lib.hid hi0; have HZ0 := Lib.hid hz0; have HZ1 := Lib.hid hz1; have HZ2 := Lib.hid hz2
  clear h hi0 hz0 hz1 hz2
  go_enter Tryd.func30, Tryd.ntmps30
  go_wp2_with fail
  refine HK.out.mono ?_
  rintro e w1 ⟨rfl, rfl⟩
  go_wp2_with fail
  refine HS.out.mono ?_
  rintro e w2 ⟨v, rfl, hv, hb2⟩
  obtain ⟨A, c, rfl⟩ := hv.form
  have HR : Hid (∀ W, Below w2.heap.size w2 W → ReadsE encEn W A (L.map (enOf bl))) := Lib.hid fun W hb => (own_reads hv).on hb
  have HB2 := Lib.hid hb2
  rw [List.length_map, hN]
  clear hv hb2 HS HK hN
  go_wp2_with fail
  go_loopw [3, 10] (fun V I wr => ∃ i : Nat, i ≤ N ∧ I = .int .i64 (i : Int) ∧ OwnE encJR 33 wr w2.heap.size V ((L.take i).map (·.job)) ∧ Below w2.heap.size w2 wr) (fun _ I _ => N - natJ I)
  case atStart => exact ⟨0, Nat.zero_le _, rfl, OwnE.nil _ _ _, Below.refl _ _⟩
  case round =>
    obtain ⟨i, hi, rfl, ho, hb⟩ := hrel
    obtain ⟨VA, vc, hV⟩ := ho.form
    subst hV
    have hvl : ((L.take i).map (·.job)).length = i := by rw [List.length_map, List.length_take, HNN.out]; omega
    rw [hvl] at ho ⊢
    have HVL := Lib.hid hvl
    have HO := Lib.hid ho; have HB := Lib.hid hb
    clear ho hb hvl
    have i0' : (0 : Int) ≤ (i : Int) := by omega
    by_cases hiN : i < N
    · have i1' : (i : Int) < (N : Int) := by omega
      have hw1 : wrap64 ((i : Int) + 1) = ((i + 1 : Nat) : Int) := by unfold wrap64; omega
      obtain ⟨e, he⟩ : ∃ e, L[i]? = some e := ⟨_, List.getElem?_eq_getElem (by have := HNN.out; omega)⟩
      obtain ⟨y, hy⟩ : ∃ y, enOf bl e = y := ⟨_, rfl⟩
      have hyi : (L.map (enOf bl))[i]? = some y := by rw [List.getElem?_map, he, Option.map_some, hy]
      obtain ⟨ad, pa, hA, hadd, -, hcc⟩ := HR.out wr HB.out i y hyi
      subst hA
      have HTS : Hid ((L.take (i + 1)).map (·.job) = (L.take i).map (·.job) ++ [y.job]) := Lib.hid (by rw [List.take_add_one, he, List.map_append, ← hy]; rfl)
      have d0 := hcc 0 _ rfl
      have d1 := hcc 1 _ rfl
      have d2 := hcc 2 _ rfl
      have d3 := hcc 3 _ rfl
      have d4 := hcc 4 _ rfl
      have d5 := hcc 5 _ rfl
      have d6 := hcc 6 _ rfl
      have d7 := hcc 7 _ rfl
      have d8 := hcc 8 _ rfl
      have d9 := hcc 9 _ rfl
      have d10 := hcc 10 _ rfl
      have d11 := hcc 11 _ rfl
      have d12 := hcc 12 _ rfl
      have d13 := hcc 13 _ rfl
      have d14 := hcc 14 _ rfl
      rw [add_zeroE] at d0
      rw [add_posJ _ (by omega)] at d1 d2 d3 d4 d5 d6 d7 d8 d9 d10 d11 d12 d13 d14
      obtain ⟨gx, hgx⟩ : ∃ gx, wr.heap.size = gx := ⟨_, rfl⟩
      obtain ⟨W3, hW3⟩ : ∃ W3, wr.alloc (.cells #[.int .i64 y.job.id, .int .i64 y.job.tenant, .int .i64 y.job.cell, .int .i64 y.job.band, .int .i64 y.job.tasks, .int .i64 y.job.need.a, .int .i64 y.job.need.b, .int .i64 y.job.need.c, .int .i64 y.job.need.d, .int .i64 y.job.first, .int .i64 y.job.windows, .int .i64 y.job.budget, .bool y.job.env, .int .i64 y.job.set, .slice (some ⟨y.g, 0, none⟩) y.n y.n] 107) = W3 := ⟨_, rfl⟩
      have hb3 : Below wr.heap.size wr W3 := by rw [← hW3]; exact (Below.refl _ _).alloc (Nat.le_refl _) _
      have hx3 : W3.heap[gx]? = some (.cells #[.int .i64 y.job.id, .int .i64 y.job.tenant, .int .i64 y.job.cell, .int .i64 y.job.band, .int .i64 y.job.tasks, .int .i64 y.job.need.a, .int .i64 y.job.need.b, .int .i64 y.job.need.c, .int .i64 y.job.need.d, .int .i64 y.job.first, .int .i64 y.job.windows, .int .i64 y.job.budget, .bool y.job.env, .int .i64 y.job.set, .slice (some ⟨y.g, 0, none⟩) y.n y.n] 107 (0, 0)) := by rw [← hW3, ← hgx]; exact heap_alloc_new _ _
      obtain ⟨W4, hW4⟩ : ∃ W4, W3.alloc (.cells #[.int .i64 ((y.job)).id, .int .i64 ((y.job)).tenant, .int .i64 ((y.job)).cell, .int .i64 ((y.job)).band, .int .i64 ((y.job)).tasks, .int .i64 ((y.job)).need.a, .int .i64 ((y.job)).need.b, .int .i64 ((y.job)).need.c, .int .i64 ((y.job)).need.d, .int .i64 ((y.job)).first, .int .i64 ((y.job)).windows, .int .i64 ((y.job)).budget, .bool ((y.job)).env, .int .i64 ((y.job)).set] 33) = W4 := ⟨_, rfl⟩
      have hb4 : Below W3.heap.size W3 W4 := by rw [← hW4]; exact (Below.refl _ _).alloc (Nat.le_refl _) _
      have hb04 : Below wr.heap.size wr W4 := hb3.trans (hb4.mono hb3.size)
      have A1 : Hid (OwnE encJR 33 W4 w2.heap.size (.slice VA i vc) ((L.take i).map (·.job))) := Lib.hid (HO.out.on hb04)
      have B2 : Hid (LiesE encJR W4 (.slice (some ⟨W3.heap.size, 0, none⟩) 1 1) [y.job]) := Lib.hid (by
        have := lies_lit encJR (w := W4) (g := W3.heap.size) (t := 33) [y.job] (by rw [← hW4]; exact heap_alloc_new W3 _)
        exact this)
      have A3 : Hid (((L.take i).map (·.job)).length + [y.job].length ≤ maxLen) := Lib.hid (by rw [HVL.out]; simp only [List.length_singleton, maxLen]; omega)
      have A4 : Hid ((((L.take i).map (·.job)).length + [y.job].length) * 112 ≤ 140737488355328) := Lib.hid (by rw [HVL.out]; simp only [List.length_singleton]; omega)
      have hb24 : Below w2.heap.size w2 W4 := HB.out.trans (hb04.mono HB.out.size)
      have A5 : Hid (w2.heap.size ≤ W4.heap.size) := Lib.hid hb24.size
      have HB4 := Lib.hid hb24
      have HGX := Lib.hid hgx; have HW3 := Lib.hid hW3; have HW4 := Lib.hid hW4
      clear he hyi hcc hy hb3 hgx hW3 hb4 hb04 hb24 hW4
      have z0 := cell_of_heap hx3 0
      have z1 := cell_of_heap hx3 1
      have z2 := cell_of_heap hx3 2
      have z3 := cell_of_heap hx3 3
      have z4 := cell_of_heap hx3 4
      have z5 := cell_of_heap hx3 5
      have z6 := cell_of_heap hx3 6
      have z7 := cell_of_heap hx3 7
      have z8 := cell_of_heap hx3 8
      have z9 := cell_of_heap hx3 9
      have z10 := cell_of_heap hx3 10
      have z11 := cell_of_heap hx3 11
      have z12 := cell_of_heap hx3 12
      have z13 := cell_of_heap hx3 13
      simp at z0 z1 z2 z3 z4 z5 z6 z7 z8 z9 z10 z11 z12 z13
      clear hx3
      go_upto_region 5 with fail
      rw [HW3.out, HGX.out]
      clear hadd d0 d1 d2 d3 d4 d5 d6 d7 d8 d9 d10 d11 d12 d13 d14
      have f0 := HI0.out; have f1 := HZ0.out; have f2 := HZ1.out; have f3 := HZ2.out
      go_wp2_with (at_builtin; rw [HW4.out]; refine wpList_append_E (E := encJR) rfl _ _ 66 rfl i0 _ 112 Tryd.underlying66 f0 f1 f2 f3 rfl (by decide) rfl A1.out rfl B2.out A3.out A4.out A5.out ?_; intro v' w' hv hgr hown)
      have HV := Lib.hid hv
      have HB7 : Hid (Below w2.heap.size w2 w') := Lib.hid (HB4.out.grown hgr HB4.out.size (fun j hj => (A1.out.lt j hj).1))
      clear hv hgr hown f0 f1 f2 f3 z0 z1 z2 z3 z4 z5 z6 z7 z8 z9 z10 z11 z12 z13
      go_wp2_with fail
      go_roundw
      case rel => exact ⟨i + 1, by omega, by first | (rw [← hw1]; done) | (rw [← hw1]; first | rfl | (congr 1; omega)), by rw [HTS.out]; exact HV.out, HB7.out⟩
      case measure => simp [natJ]; omega
    · obtain rfl : i = N := by omega
      have hall : L.take i = L := by rw [← HNN.out]; exact List.take_length
      have HALL := Lib.hid hall
      clear hall
      go_wp2_with fail
      go_ret
      refine ⟨_, rfl, ?_, HB2.out.trans (HB.out.mono HB2.out.size)⟩
      have := HO.out
      rw [HALL.out] at this
      exact this.base HB2.out.size
end
end Go.Proofs.YtbfbhlpibclccaaDoor
