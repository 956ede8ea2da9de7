/- The reference's table of jobs: the tasks of whom something holds, in order. Condition: the table lies in memory as its row has it. -/
import Derived.Test.YtbfbhlpibclccaaDoorJxA
namespace Go.Proofs.YtbfbhlpibclccaaDoor
open Go Go.RowKit Go.Maps

set_option maxRecDepth 100000 in
set_option maxHeartbeats 6400000 in
theorem rjtasks_w {w : World} {u : Nat} {v : Value} {L : List JE} (h : RjA w u v L) :
    Calls Tryd.prog 28 #[.pointer (some ⟨u, 0, none⟩), .int .i64 (-1)] w fun e w' => ∃ v, e = .returned v ∧ OwnE encTk 35 w' w.heap.size v (tasksJ selW L) ∧ Below w.heap.size w w' := by
  obtain ⟨N, hN⟩ : ∃ N, L.length = N := ⟨_, rfl⟩
  have HL8 : Hid (∀ e ∈ L, e.pl.length ≤ 8) := Lib.hid fun e he => (h.good.len he).2
  have HTT : Hid (∀ e ∈ L, e.job.tasks = (e.pl.length : Int)) := Lib.hid fun e he => by
    obtain ⟨g1, g2, _⟩ := h.good.good e he
    obtain ⟨_, g3⟩ := goodJ_nums g1
    omega
  have hN32 : N ≤ 32 := by rw [← hN]; exact h.good.few
  have HNN := Lib.hid hN
  obtain ⟨W2, hW2⟩ : ∃ W2, w.alloc (.cells #[] 35) = W2 := ⟨_, rfl⟩
  obtain ⟨X, hX⟩ : ∃ X, w.heap.size = X := ⟨_, rfl⟩
  have hb2 : Below w.heap.size w W2 := by rw [← hW2]; exact (Below.refl _ _).alloc (Nat.le_refl _) _
  have ho2 : OwnE encTk 35 W2 w.heap.size (.slice (some ⟨X, 0, none⟩) 0 0) [] := by rw [← hW2, ← hX]; exact OwnE.none w (Nat.le_refl _)
  have HO2 := Lib.hid ho2; have HB2 := Lib.hid hb2; have HW2 := Lib.hid hW2; have HX := Lib.hid hX
  have HON : Hid (∀ W, Below w.heap.size w W → RjA W u v L) := Lib.hid fun W hb => h.on hb
  obtain ⟨i0, hi0, hz0, hz1, hz2⟩ := infoTk_parts
  have HI0 := Lib.hid hi0; have HZ0 := Lib.hid hz0; have HZ1 := Lib.hid hz1; have HZ2 := Lib.hid hz2
  clear h hN hW2 hX hb2 ho2 hi0 hz0 hz1 hz2
  go_enter Tryd.func28, Tryd.ntmps28
  go_upto_region 2 with fail
  rw [HW2.out, HX.out]
  go_wp2_with fail
  go_loopw [5, 6] (fun V I wr => ∃ i : Nat, i ≤ N ∧ I = .int .i64 (i : Int) ∧ OwnE encTk 35 wr w.heap.size V (tasksJ selW (L.take i)) ∧ Below w.heap.size w wr) (fun _ I _ => N - natJ I)
  case atStart => exact ⟨0, Nat.zero_le _, rfl, HO2.out, HB2.out⟩
  case round =>
    obtain ⟨i, hi, rfl, ho, hb⟩ := hrel
    obtain ⟨VA, vc, hV⟩ := ho.form
    subst hV
    obtain ⟨vn, hvn⟩ : ∃ vn, (tasksJ selW (L.take i)).length = vn := ⟨_, rfl⟩
    have HVN := Lib.hid hvn
    have HO := Lib.hid ho; have HB := Lib.hid hb
    obtain ⟨A, c, -, z0, hz⟩ := (HON.out wr hb).at
    rw [HNN.out] at z0
    rw [hvn]
    clear ho hb hvn
    have i0' : (0 : Int) ≤ (i : Int) := by omega
    by_cases hiN : i < N
    · have i1' : (i : Int) < (N : Int) := by omega
      have hw1 : wrap64 ((i : Int) + 1) = ((i + 1 : Nat) : Int) := by unfold wrap64; omega
      obtain ⟨e, he⟩ : ∃ e, L[i]? = some e := ⟨_, List.getElem?_eq_getElem (by have := HNN.out; omega)⟩
      have hem : e ∈ L := List.mem_of_getElem? he
      obtain ⟨m, hm⟩ : ∃ m, e.pl.length = m := ⟨_, rfl⟩
      have HM8 : Hid (m ≤ 8) := Lib.hid (by rw [← hm]; exact HL8.out e hem)
      have HTS : Hid (tasksJ selW (L.take (i + 1)) = tasksJ selW (L.take i) ++ rowT selW e m) := Lib.hid (by rw [← hm]; exact tasksJ_succ _ he)
      have HET : Hid (e.job.tasks = (m : Int)) := Lib.hid (by rw [← hm]; exact HTT.out e hem)
      have HTL : Hid (vn ≤ 256) := Lib.hid (by
        rw [← HVN.out]
        have h1 := tasksJ_len selW (L := L.take i) fun e he => HL8.out e (List.mem_of_mem_take he)
        have h2 : (L.take i).length ≤ 32 := by rw [List.length_take]; omega
        omega)
      have HE := Lib.hid he
      have HO3 : Hid (OwnE encTk 35 wr w.heap.size (.slice VA vn vc) (tasksJ selW (L.take i))) := Lib.hid (by have := HO.out; rwa [HVN.out] at this)
      clear he hem hm hz
      go_wp2_with fail
      clear z0
      obtain ⟨wo, hwo⟩ : ∃ wo, wo = wr := ⟨_, rfl⟩
      subst hwo
      go_loopw [5, 7] (fun V I wi => ∃ k : Nat, k ≤ m ∧ I = .int .i64 (k : Int) ∧ OwnE encTk 35 wi w.heap.size V (tasksJ selW (L.take i) ++ rowT selW e k) ∧ Below w.heap.size w wi) (fun _ I _ => m - natJ I)
      case atStart => exact ⟨0, Nat.zero_le _, rfl, by rw [rowT_zero, List.append_nil]; exact HO3.out, HB.out⟩
      case round =>
        obtain ⟨k, hk, rfl, ho, hb⟩ := hrel
        obtain ⟨A2, c2, hV⟩ := ho.form
        subst hV
        obtain ⟨un, hun⟩ : ∃ un, (tasksJ selW (L.take i) ++ rowT selW e k).length = un := ⟨_, rfl⟩
        have HUN := Lib.hid hun
        have HO2' : Hid (OwnE encTk 35 wr w.heap.size (.slice A2 un c2) (tasksJ selW (L.take i) ++ rowT selW e k)) := Lib.hid (by rw [hun] at ho; exact ho)
        have HBI := Lib.hid hb
        rw [hun]
        obtain ⟨A, c, -, z0, hz⟩ := (HON.out wr hb).at
        obtain ⟨ad, g, rfl, hadd, -, hcc⟩ := hz i e HE.out
        rw [HNN.out] at z0
        have z4 := hcc 4 _ rfl
        rw [HET.out] at z4
        have k0 : (0 : Int) ≤ (k : Int) := by omega
        by_cases hkm : k < m
        · have k1 : (k : Int) < (m : Int) := by omega
          have hk8 : k < 8 := by have := HM8.out; omega
          have hk8' : (k : Int) < 8 := by omega
          have hw2 : wrap64 ((k : Int) + 1) = ((k + 1 : Nat) : Int) := by unfold wrap64; omega
          obtain ⟨pk, hpk⟩ : ∃ pk, plAt e k = pk := ⟨_, rfl⟩
          have zk := hcc _ _ (enc_at e hk8)
          rw [hpk, ← Nat.add_assoc] at zk
          have zid := hcc 0 _ rfl
          rw [Nat.add_zero] at zid
          obtain ⟨id, hid⟩ : ∃ id, e.job.id = id := ⟨_, rfl⟩
          rw [hid] at zid
          have HUL : Hid (un ≤ 300) := Lib.hid (by have h1 := rowT_len selW e k; have h2 := HTL.out; have h3 := HVN.out; have h4 := HM8.out; rw [← hun, List.length_append, h3]; omega)
          have HS1 : Hid (selW e pk = true → rowT selW e (k + 1) = rowT selW e k ++ [⟨id, (k : Int)⟩]) := Lib.hid fun h => by rw [rowT_succ, hpk, if_pos h, hid]
          have HS0 : Hid (selW e pk = false → rowT selW e (k + 1) = rowT selW e k) := Lib.hid fun h => by rw [rowT_succ, hpk, if_neg (by rw [h]; decide)]
          have HSE : Hid (selW e pk = decide (pk = -1)) := Lib.hid (by rfl)
          clear ho hb hun hz hcc hpk hid
          by_cases hp : pk = -1
          · have e1 : (pk == -1) = true := by simpa using hp
            have HSS := Lib.hid (HS1.out (by rw [HSE.out]; simpa using hp))
            clear HS0 HS1 HSE hp
            obtain ⟨W6, hW6⟩ : ∃ W6, wr.alloc (.cells #[.int .i64 id, .int .i64 (k : Int)] 35) = W6 := ⟨_, rfl⟩
            have hb6 : Below wr.heap.size wr W6 := by rw [← hW6]; exact (Below.refl _ _).alloc (Nat.le_refl _) _
            have A1 : Hid (OwnE encTk 35 W6 w.heap.size (.slice A2 un c2) (tasksJ selW (L.take i) ++ rowT selW e k)) := Lib.hid (HO2'.out.on hb6)
            have B2 : Hid (LiesE encTk W6 (.slice (some ⟨wr.heap.size, 0, none⟩) 1 1) [⟨id, (k : Int)⟩]) := Lib.hid (by
              have := lies_lit encTk (w := W6) (g := wr.heap.size) (t := 35) [⟨id, (k : Int)⟩] (by rw [← hW6]; exact heap_alloc_new wr _)
              exact this)
            have A3 : Hid ((tasksJ selW (L.take i) ++ rowT selW e k).length + [(⟨id, (k : Int)⟩ : Tk)].length ≤ maxLen) := Lib.hid (by rw [HUN.out]; have := HUL.out; simp only [List.length_singleton, maxLen]; omega)
            have A4 : Hid (((tasksJ selW (L.take i) ++ rowT selW e k).length + [(⟨id, (k : Int)⟩ : Tk)].length) * 16 ≤ 140737488355328) := Lib.hid (by rw [HUN.out]; have := HUL.out; simp only [List.length_singleton]; omega)
            have hb26 : Below w.heap.size w W6 := HBI.out.trans (hb6.mono HBI.out.size)
            have A5 : Hid (w.heap.size ≤ W6.heap.size) := Lib.hid hb26.size
            have HB6 := Lib.hid hb26
            have HW6 := Lib.hid hW6
            clear hW6 hb6 hb26
            have f0 := HI0.out; have f1 := HZ0.out; have f2 := HZ1.out; have f3 := HZ2.out
            go_wp2_with (at_builtin; rw [HW6.out]; refine wpList_append_E (E := encTk) rfl _ _ 63 rfl i0 _ 16 Tryd.underlying63 f0 f1 f2 f3 rfl (by decide) rfl A1.out rfl B2.out A3.out A4.out A5.out ?_; intro v' w' hv hgr hown)
            have HV := Lib.hid hv
            have HB7 : Hid (Below w.heap.size w w') := Lib.hid (HB6.out.grown hgr HB6.out.size (fun j hj => (A1.out.lt j hj).1))
            clear hv hgr hown f0 f1 f2 f3 z0 z4 zk zid hadd
            go_wp2_with fail
            go_roundw
            case rel => exact ⟨k + 1, hkm, by first | (rw [← hw2]; done) | (rw [← hw2]; first | rfl | (congr 1; omega)), by rw [HSS.out, ← List.append_assoc]; exact HV.out, HB7.out⟩
            case measure => simp [natJ] <;> omega
          · have e1 : (pk == -1) = false := by simpa using hp
            have HSS := Lib.hid (HS0.out (by rw [HSE.out]; simpa using hp))
            clear HS0 HS1 HSE hp
            go_wp2_with fail
            go_roundw
            case rel => exact ⟨k + 1, hkm, by first | (rw [← hw2]; done) | (rw [← hw2]; first | rfl | (congr 1; omega)), by rw [HSS.out]; exact HO2'.out, HBI.out⟩
            case measure => simp [natJ] <;> omega
        · obtain rfl : k = m := by omega
          clear ho hb hun hz hcc
          go_wp2_with fail
          go_roundw
          case rel => exact ⟨i + 1, by omega, by first | (rw [← hw1]; done) | (rw [← hw1]; first | rfl | (congr 1; omega)), by rw [HTS.out]; exact HO2'.out, HBI.out⟩
          case measure => simp [natJ] <;> omega
    · obtain rfl : i = N := by omega
      have hall : L.take i = L := by rw [← HNN.out]; exact List.take_length
      have HALL := Lib.hid hall
      clear hall hz
      go_wp2_with fail
      go_ret
      refine ⟨_, rfl, ?_, HB.out⟩
      have := HO.out
      rw [HVN.out, HALL.out] at this
      exact this
set_option maxRecDepth 100000 in
set_option maxHeartbeats 6400000 in
theorem rjtasks_a {w : World} {u : Nat} {v : Value} {L : List JE} (h : RjA w u v L) {pl : Int} (hpl : 0 ≤ pl) :
    Calls Tryd.prog 28 #[.pointer (some ⟨u, 0, none⟩), .int .i64 pl] w fun e w' => ∃ v, e = .returned v ∧ OwnE encTk 35 w' w.heap.size v (tasksJ (selA pl) L) ∧ Below w.heap.size w w' := by
  have dpl : decide (pl < 0) = false := decide_eq_false (by omega)
  obtain ⟨N, hN⟩ : ∃ N, L.length = N := ⟨_, rfl⟩
  have HL8 : Hid (∀ e ∈ L, e.pl.length ≤ 8) := Lib.hid fun e he => (h.good.len he).2
  have HTT : Hid (∀ e ∈ L, e.job.tasks = (e.pl.length : Int)) := Lib.hid fun e he => by
    obtain ⟨g1, g2, _⟩ := h.good.good e he
    obtain ⟨_, g3⟩ := goodJ_nums g1
    omega
  have hN32 : N ≤ 32 := by rw [← hN]; exact h.good.few
  have HNN := Lib.hid hN
  obtain ⟨W2, hW2⟩ : ∃ W2, w.alloc (.cells #[] 35) = W2 := ⟨_, rfl⟩
  obtain ⟨X, hX⟩ : ∃ X, w.heap.size = X := ⟨_, rfl⟩
  have hb2 : Below w.heap.size w W2 := by rw [← hW2]; exact (Below.refl _ _).alloc (Nat.le_refl _) _
  have ho2 : OwnE encTk 35 W2 w.heap.size (.slice (some ⟨X, 0, none⟩) 0 0) [] := by rw [← hW2, ← hX]; exact OwnE.none w (Nat.le_refl _)
  have HO2 := Lib.hid ho2; have HB2 := Lib.hid hb2; have HW2 := Lib.hid hW2; have HX := Lib.hid hX
  have HON : Hid (∀ W, Below w.heap.size w W → RjA W u v L) := Lib.hid fun W hb => h.on hb
  obtain ⟨i0, hi0, hz0, hz1, hz2⟩ := infoTk_parts
  have HI0 := Lib.hid hi0; have HZ0 := Lib.hid hz0; have HZ1 := Lib.hid hz1; have HZ2 := Lib.hid hz2
  clear h hN hW2 hX hb2 ho2 hi0 hz0 hz1 hz2
  go_enter Tryd.func28, Tryd.ntmps28
  go_upto_region 2 with fail
  rw [HW2.out, HX.out]
  go_wp2_with fail
  go_loopw [5, 6] (fun V I wr => ∃ i : Nat, i ≤ N ∧ I = .int .i64 (i : Int) ∧ OwnE encTk 35 wr w.heap.size V (tasksJ (selA pl) (L.take i)) ∧ Below w.heap.size w wr) (fun _ I _ => N - natJ I)
  case atStart => exact ⟨0, Nat.zero_le _, rfl, HO2.out, HB2.out⟩
  case round =>
    obtain ⟨i, hi, rfl, ho, hb⟩ := hrel
    obtain ⟨VA, vc, hV⟩ := ho.form
    subst hV
    obtain ⟨vn, hvn⟩ : ∃ vn, (tasksJ (selA pl) (L.take i)).length = vn := ⟨_, rfl⟩
    have HVN := Lib.hid hvn
    have HO := Lib.hid ho; have HB := Lib.hid hb
    obtain ⟨A, c, -, z0, hz⟩ := (HON.out wr hb).at
    rw [HNN.out] at z0
    rw [hvn]
    clear ho hb hvn
    have i0' : (0 : Int) ≤ (i : Int) := by omega
    by_cases hiN : i < N
    · have i1' : (i : Int) < (N : Int) := by omega
      have hw1 : wrap64 ((i : Int) + 1) = ((i + 1 : Nat) : Int) := by unfold wrap64; omega
      obtain ⟨e, he⟩ : ∃ e, L[i]? = some e := ⟨_, List.getElem?_eq_getElem (by have := HNN.out; omega)⟩
      have hem : e ∈ L := List.mem_of_getElem? he
      obtain ⟨m, hm⟩ : ∃ m, e.pl.length = m := ⟨_, rfl⟩
      have HM8 : Hid (m ≤ 8) := Lib.hid (by rw [← hm]; exact HL8.out e hem)
      have HTS : Hid (tasksJ (selA pl) (L.take (i + 1)) = tasksJ (selA pl) (L.take i) ++ rowT (selA pl) e m) := Lib.hid (by rw [← hm]; exact tasksJ_succ _ he)
      have HET : Hid (e.job.tasks = (m : Int)) := Lib.hid (by rw [← hm]; exact HTT.out e hem)
      have HTL : Hid (vn ≤ 256) := Lib.hid (by
        rw [← HVN.out]
        have h1 := tasksJ_len (selA pl) (L := L.take i) fun e he => HL8.out e (List.mem_of_mem_take he)
        have h2 : (L.take i).length ≤ 32 := by rw [List.length_take]; omega
        omega)
      have HE := Lib.hid he
      have HO3 : Hid (OwnE encTk 35 wr w.heap.size (.slice VA vn vc) (tasksJ (selA pl) (L.take i))) := Lib.hid (by have := HO.out; rwa [HVN.out] at this)
      clear he hem hm hz
      go_wp2_with fail
      clear z0
      obtain ⟨wo, hwo⟩ : ∃ wo, wo = wr := ⟨_, rfl⟩
      subst hwo
      go_loopw [5, 7] (fun V I wi => ∃ k : Nat, k ≤ m ∧ I = .int .i64 (k : Int) ∧ OwnE encTk 35 wi w.heap.size V (tasksJ (selA pl) (L.take i) ++ rowT (selA pl) e k) ∧ Below w.heap.size w wi) (fun _ I _ => m - natJ I)
      case atStart => exact ⟨0, Nat.zero_le _, rfl, by rw [rowT_zero, List.append_nil]; exact HO3.out, HB.out⟩
      case round =>
        obtain ⟨k, hk, rfl, ho, hb⟩ := hrel
        obtain ⟨A2, c2, hV⟩ := ho.form
        subst hV
        obtain ⟨un, hun⟩ : ∃ un, (tasksJ (selA pl) (L.take i) ++ rowT (selA pl) e k).length = un := ⟨_, rfl⟩
        have HUN := Lib.hid hun
        have HO2' : Hid (OwnE encTk 35 wr w.heap.size (.slice A2 un c2) (tasksJ (selA pl) (L.take i) ++ rowT (selA pl) e k)) := Lib.hid (by rw [hun] at ho; exact ho)
        have HBI := Lib.hid hb
        rw [hun]
        obtain ⟨A, c, -, z0, hz⟩ := (HON.out wr hb).at
        obtain ⟨ad, g, rfl, hadd, -, hcc⟩ := hz i e HE.out
        rw [HNN.out] at z0
        have z4 := hcc 4 _ rfl
        rw [HET.out] at z4
        have k0 : (0 : Int) ≤ (k : Int) := by omega
        by_cases hkm : k < m
        · have k1 : (k : Int) < (m : Int) := by omega
          have hk8 : k < 8 := by have := HM8.out; omega
          have hk8' : (k : Int) < 8 := by omega
          have hw2 : wrap64 ((k : Int) + 1) = ((k + 1 : Nat) : Int) := by unfold wrap64; omega
          obtain ⟨pk, hpk⟩ : ∃ pk, plAt e k = pk := ⟨_, rfl⟩
          have zk := hcc _ _ (enc_at e hk8)
          rw [hpk, ← Nat.add_assoc] at zk
          have zid := hcc 0 _ rfl
          have zst := hcc 13 _ rfl
          rw [Nat.add_zero] at zid
          obtain ⟨id, hid⟩ : ∃ id, e.job.id = id := ⟨_, rfl⟩
          obtain ⟨st, hst⟩ : ∃ st, e.job.set = st := ⟨_, rfl⟩
          rw [hid] at zid
          rw [hst] at zst
          have HUL : Hid (un ≤ 300) := Lib.hid (by have h1 := rowT_len (selA pl) e k; have h2 := HTL.out; have h3 := HVN.out; have h4 := HM8.out; rw [← hun, List.length_append, h3]; omega)
          have HS1 : Hid ((selA pl) e pk = true → rowT (selA pl) e (k + 1) = rowT (selA pl) e k ++ [⟨id, (k : Int)⟩]) := Lib.hid fun h => by rw [rowT_succ, hpk, if_pos h, hid]
          have HS0 : Hid ((selA pl) e pk = false → rowT (selA pl) e (k + 1) = rowT (selA pl) e k) := Lib.hid fun h => by rw [rowT_succ, hpk, if_neg (by rw [h]; decide)]
          have HSE : Hid ((selA pl) e pk = (decide (st = 0) && decide (pk = pl))) := Lib.hid (by unfold selA; rw [hst])
          clear ho hb hun hz hcc hpk hid hst
          by_cases hp : pk = pl
          · have e1 : (pk == pl) = true := by simpa using hp
            have HP := Lib.hid hp
            clear hp
            by_cases hs : st = 0
            · have e2 : (st == 0) = true := by simpa using hs
              have HSS := Lib.hid (HS1.out (by rw [HSE.out]; simp [hs, HP.out]))
              clear HS0 HS1 HSE hs
              obtain ⟨W6, hW6⟩ : ∃ W6, wr.alloc (.cells #[.int .i64 id, .int .i64 (k : Int)] 35) = W6 := ⟨_, rfl⟩
              have hb6 : Below wr.heap.size wr W6 := by rw [← hW6]; exact (Below.refl _ _).alloc (Nat.le_refl _) _
              have A1 : Hid (OwnE encTk 35 W6 w.heap.size (.slice A2 un c2) (tasksJ (selA pl) (L.take i) ++ rowT (selA pl) e k)) := Lib.hid (HO2'.out.on hb6)
              have B2 : Hid (LiesE encTk W6 (.slice (some ⟨wr.heap.size, 0, none⟩) 1 1) [⟨id, (k : Int)⟩]) := Lib.hid (by
                have := lies_lit encTk (w := W6) (g := wr.heap.size) (t := 35) [⟨id, (k : Int)⟩] (by rw [← hW6]; exact heap_alloc_new wr _)
                exact this)
              have A3 : Hid ((tasksJ (selA pl) (L.take i) ++ rowT (selA pl) e k).length + [(⟨id, (k : Int)⟩ : Tk)].length ≤ maxLen) := Lib.hid (by rw [HUN.out]; have := HUL.out; simp only [List.length_singleton, maxLen]; omega)
              have A4 : Hid (((tasksJ (selA pl) (L.take i) ++ rowT (selA pl) e k).length + [(⟨id, (k : Int)⟩ : Tk)].length) * 16 ≤ 140737488355328) := Lib.hid (by rw [HUN.out]; have := HUL.out; simp only [List.length_singleton]; omega)
              have hb26 : Below w.heap.size w W6 := HBI.out.trans (hb6.mono HBI.out.size)
              have A5 : Hid (w.heap.size ≤ W6.heap.size) := Lib.hid hb26.size
              have HB6 := Lib.hid hb26
              have HW6 := Lib.hid hW6
              clear hW6 hb6 hb26
              have f0 := HI0.out; have f1 := HZ0.out; have f2 := HZ1.out; have f3 := HZ2.out
              go_wp2_with (at_builtin; rw [HW6.out]; refine wpList_append_E (E := encTk) rfl _ _ 63 rfl i0 _ 16 Tryd.underlying63 f0 f1 f2 f3 rfl (by decide) rfl A1.out rfl B2.out A3.out A4.out A5.out ?_; intro v' w' hv hgr hown)
              have HV := Lib.hid hv
              have HB7 : Hid (Below w.heap.size w w') := Lib.hid (HB6.out.grown hgr HB6.out.size (fun j hj => (A1.out.lt j hj).1))
              clear hv hgr hown f0 f1 f2 f3 z0 z4 zk zid zst hadd
              go_wp2_with fail
              go_roundw
              case rel => exact ⟨k + 1, hkm, by first | (rw [← hw2]; done) | (rw [← hw2]; first | rfl | (congr 1; omega)), by rw [HSS.out, ← List.append_assoc]; exact HV.out, HB7.out⟩
              case measure => simp [natJ] <;> omega
            · have e2 : (st == 0) = false := by simpa using hs
              have HSS := Lib.hid (HS0.out (by rw [HSE.out]; simp [hs]))
              clear HS0 HS1 HSE hs
              go_wp2_with fail
              go_roundw
              case rel => exact ⟨k + 1, hkm, by first | (rw [← hw2]; done) | (rw [← hw2]; first | rfl | (congr 1; omega)), by rw [HSS.out]; exact HO2'.out, HBI.out⟩
              case measure => simp [natJ] <;> omega
          · have e1 : (pk == pl) = false := by simpa using hp
            have HSS := Lib.hid (HS0.out (by rw [HSE.out]; simp [hp]))
            clear HS0 HS1 HSE hp
            go_wp2_with fail
            go_roundw
            case rel => exact ⟨k + 1, hkm, by first | (rw [← hw2]; done) | (rw [← hw2]; first | rfl | (congr 1; omega)), by rw [HSS.out]; exact HO2'.out, HBI.out⟩
            case measure => simp [natJ] <;> omega
        · obtain rfl : k = m := by omega
          clear ho hb hun hz hcc
          go_wp2_with fail
          go_roundw
          case rel => exact ⟨i + 1, by omega, by first | (rw [← hw1]; done) | (rw [← hw1]; first | rfl | (congr 1; omega)), by rw [HTS.out]; exact HO2'.out, HBI.out⟩
          case measure => simp [natJ] <;> omega
    · obtain rfl : i = N := by omega
      have hall : L.take i = L := by rw [← HNN.out]; exact List.take_length
      have HALL := Lib.hid hall
      clear hall hz
      go_wp2_with fail
      go_ret
      refine ⟨_, rfl, ?_, HB.out⟩
      have := HO.out
      rw [HVN.out, HALL.out] at this
      exact this
end Go.Proofs.YtbfbhlpibclccaaDoor
