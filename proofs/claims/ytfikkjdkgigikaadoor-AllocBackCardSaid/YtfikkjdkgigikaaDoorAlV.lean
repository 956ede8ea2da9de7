/- AllocBack: the walk. Condition: the sentinels lie as the program's text lays them. -/
import Derived.Test.YtfikkjdkgigikaaDoorAlU
import Derived.Test.YtfikkjdkgigikaaDoorAlY
import Derived.Test.YtfikkjdkgigikaaDoorRdE
import Derived.Test.YtfikkjdkgigikaaDoorRgo
import Derived.Test.YtfikkjdkgigikaaDoorMd
import Derived.IntWalk
import Derived.Deep.RegionHeld3
namespace Go.Proofs.YtfikkjdkgigikaaDoor
open Go Go.RowKit Go.Maps Go.Sort

/-- What a task needs. -/
def modB (L : List Int) (j : Nat) : Int := wrap64 ((IntKind.u64.wrap (L.getD j 0)).tmod 50)
theorem modB_bd (L : List Int) (j : Nat) : 0 ≤ modB L j ∧ modB L j < 50 := by
  obtain ⟨m, hm, e⟩ := mod_pos (L.getD j 0) 50 (by omega) (by omega)
  unfold modB
  rw [show ((50 : Nat) : Int) = 50 from rfl] at e
  rw [e]; omega
theorem modB_at {L : List Int} {j : Nat} {x : Int} (h : L[j]? = some x) : modB L j = wrap64 ((IntKind.u64.wrap x).tmod 50) := by
  unfold modB; rw [List.getD_eq_getElem?_getD, h]; rfl
/-- A spot's cells. -/
theorem own_spt {w : World} {base g c : Nat} {x : Spt} (h : OwnE encSpt 65 w base (.slice (some ⟨g, 0, none⟩) 1 c) [x]) :
    w.cell? ⟨g, 0, none⟩ = some (.int .i64 x.id) ∧ w.cell? ⟨g, 1, none⟩ = some (.int .i64 x.left.a) ∧ w.cell? ⟨g, 2, none⟩ = some (.int .i64 x.left.b) ∧ w.cell? ⟨g, 3, none⟩ = some (.int .i64 x.left.c) ∧ w.cell? ⟨g, 4, none⟩ = some (.int .i64 x.left.d) := by
  obtain ⟨ad, g', hA, hg, _, _, _, hc⟩ := h.at (i := 0) (x := x) rfl
  obtain rfl := Option.some.inj hA
  rw [Nat.zero_mul, add_zeroE] at hg
  simp only [Addr.mk.injEq, and_true] at hg
  subst hg
  exact ⟨hc 0 _ rfl, hc 1 _ rfl, hc 2 _ rfl, hc 3 _ rfl, hc 4 _ rfl⟩
/-- What the law keeps besides the book: the task, its need, and two rows of one spot each. -/
def KB (X k : Nat) (mk : Int) (g5 c5 g7 c7 : Nat) (l l' : V4) (W : World) : Prop :=
  W.heap[X]? = some (.cells #[.int .i64 1, .int .i64 (k : Int)] 32 (0, 0)) ∧ W.heap[X + 1]? = some (.cells #[.int .i64 mk, .int .i64 1, .int .i64 0, .int .i64 0] 34 (0, 0)) ∧
    OwnE encSpt 65 W 0 (.slice (some ⟨g5, 0, none⟩) 1 c5) [⟨0, l⟩] ∧ OwnE encSpt 65 W 0 (.slice (some ⟨g7, 0, none⟩) 1 c7) [⟨0, l'⟩]
theorem KB.cs {W : World} {X k : Nat} {mk : Int} {g5 c5 g7 c7 : Nat} {l l' : V4} (h : KB X k mk g5 c5 g7 c7 l l' W) :
    W.cell? ⟨g5, 1, none⟩ = some (.int .i64 l.a) ∧ W.cell? ⟨g5, 2, none⟩ = some (.int .i64 l.b) ∧ W.cell? ⟨g7, 1, none⟩ = some (.int .i64 l'.a) ∧ W.cell? ⟨g7, 2, none⟩ = some (.int .i64 l'.b) ∧ W.cell? ⟨X + 1, 0, none⟩ = some (.int .i64 mk) := by
  obtain ⟨_, hv, h5, h7⟩ := h
  obtain ⟨_, z1, z2, _, _⟩ := own_spt h5
  obtain ⟨_, y1, y2, _, _⟩ := own_spt h7
  exact ⟨z1, z2, y1, y2, cell_of_heap hv 0⟩
theorem KB.ca {W : World} {X k : Nat} {mk : Int} {g5 c5 g7 c7 : Nat} {l l' : V4} (h : KB X k mk g5 c5 g7 c7 l l' W) :
    W.cell? ⟨X, 0, none⟩ = some (.int .i64 1) ∧ W.cell? ⟨X, 1, none⟩ = some (.int .i64 (k : Int)) ∧ W.cell? ⟨X + 1, 0, none⟩ = some (.int .i64 mk) ∧ W.cell? ⟨X + 1, 1, none⟩ = some (.int .i64 1) ∧ W.cell? ⟨X + 1, 2, none⟩ = some (.int .i64 0) ∧ W.cell? ⟨X + 1, 3, none⟩ = some (.int .i64 0) ∧
      W.cell? ⟨g5, 0, none⟩ = some (.int .i64 0) ∧ W.cell? ⟨g5, 1, none⟩ = some (.int .i64 l.a) ∧ W.cell? ⟨g5, 2, none⟩ = some (.int .i64 l.b) ∧ W.cell? ⟨g5, 3, none⟩ = some (.int .i64 l.c) ∧ W.cell? ⟨g5, 4, none⟩ = some (.int .i64 l.d) := by
  obtain ⟨ht, hv, h5, h7⟩ := h
  exact ⟨cell_of_heap ht 0, cell_of_heap ht 1, cell_of_heap hv 0, cell_of_heap hv 1, cell_of_heap hv 2, cell_of_heap hv 3, own_spt h5⟩
set_option maxRecDepth 100000 in
set_option maxHeartbeats 6400000 in
theorem aback_any (s : Nat → Addr) (A : Option Addr) (c : Nat) (L : List Int) (which : Int) (w : World) (hs : Sent s w) (hr : ReadsE encI w A L) (hll : L.length ≤ 9223372036854775807) :
    Calls Tryd.prog 5 #[.slice A L.length c, .int .i64 which] w fun e w' => e = .returned (.bool true) ∧ Below w.heap.size w w' := by
  have HS := Lib.hid hs
  have i9 : i64 9 := by unfold i64; omega
  obtain ⟨N, hN⟩ : ∃ N, L.length = N := ⟨_, rfl⟩
  obtain ⟨n, hn⟩ : ∃ n, n = min N 20 := ⟨_, rfl⟩
  have hmin : ∀ ts t W, (Builtin.min_ ts t #[.int .i64 (N : Int), .int .i64 20]).run Tryd.prog W = .ok (.int .i64 (n : Int)) W := fun ts t W => by
    rw [run_min_int2, hn]; simp only [Nat.min_def]; split <;> split <;> first | rfl | omega | (congr 2; omega)
  have hn20 : n ≤ 20 := by omega
  have HNL : Hid (n ≤ N) := Lib.hid (by omega)
  have HN := Lib.hid hN
  have HR : Hid (∀ W, Below w.heap.size w W → ReadsE encI W A L) := Lib.hid fun W hb => hr.on hb
  have HMB := Lib.hid (modB_bd L)
  rw [hN]
  have HLL : Hid (N ≤ 9223372036854775807) := Lib.hid (by omega)
  clear hs hr hn hN hll
  go_enter Tryd.func5, Tryd.ntmps5
  go_wp2_with fail
  refine (awake17_c s w HS.out).mono ?_
  rintro e w0 ⟨rfl, b0⟩
  have HB0 := Lib.hid b0
  clear b0
  go_wp2_with fail
  refine (alb_new_in HB0.out).mono ?_
  rintro e w1 ⟨q, P0, rfl, h1⟩
  have H1 := Lib.hid h1
  clear h1
  go_wp2_with fail
  have co := H1.out.open_c HS.out 9 1 ⟨1000, 1000, 1000, 1000⟩
  rw [openB, errA0] at co
  refine co.mono ?_
  rintro e w2 ⟨rfl, P, h2⟩
  have H2 := Lib.hid h2
  clear h2 co H1
  go_wp2_with fail
  have cr := H2.out.raise_c HS.out i9 0
  rw [raiseB (modB L), errA0] at cr
  refine cr.mono ?_
  rintro e w3 ⟨rfl, h3⟩
  have H3 := Lib.hid h3
  clear h3 cr H2
  go_wp2_with fail
  go_loopw [7] (fun I wr => ∃ j : Nat, j ≤ n ∧ I = .int .i64 (j : Int) ∧ AlB w wr P q (gB (modB L) j) (fun _ => True)) (fun I _ => n - natOf I)
  case atStart => exact ⟨0, Nat.zero_le _, rfl, H3.out⟩
  case round =>
    obtain ⟨j, hj, rfl, ha⟩ := hrel
    clear H3
    by_cases hjn : j < n
    · obtain ⟨x, hx⟩ : ∃ x, L[j]? = some x := ⟨_, List.getElem?_eq_getElem (by have := HN.out; have := HNL.out; omega)⟩
      obtain ⟨ad, p, hA, hadd, hp, hcc⟩ := HR.out wr ha.below j x hx
      subst hA
      have d0 := hcc 0 _ rfl
      rw [Nat.mul_one] at hadd
      rw [add_zeroE] at d0
      have j0 : (0 : Int) ≤ (j : Int) := by omega
      have j1 : (j : Int) < (N : Int) := by have := HNL.out; omega
      have hw1 : wrap64 ((j : Int) + 1) = ((j + 1 : Nat) : Int) := by unfold wrap64; omega
      have ht : okT ⟨1, (j : Int)⟩ := by unfold okT i64; simp only; omega
      have cp := ha.put_c HS.out ht i9 0 ⟨modB L j, 1, 0, 0⟩ (by rw [lenB]; omega)
      rw [putB HMB.out (by omega), errA0, modB_at hx] at cp
      have CP := Lib.hid cp
      clear hcc hx ha cp hp
      go_wp2_with fail
      refine CP.out.mono ?_
      rintro e w5 ⟨rfl, h5⟩
      have H5 := Lib.hid h5
      clear h5 CP d0
      go_wp2_with fail
      go_roundw
      case rel => exact ⟨j + 1, hjn, by rw [← hw1]; first | rfl | (congr 1; omega), H5.out⟩
      case measure => simp [natOf]; omega
    · obtain rfl : j = n := by omega
      have HA := Lib.hid ha
      clear ha
      by_cases h0 : j = 0
      · subst h0
        have ci := HA.out.inside_c 9 0 (by rw [lenB]; omega)
        have hi : insideA (gB (modB L) 0) 9 0 = [] := rfl
        rw [hi] at ci
        have CI := Lib.hid ci
        clear ci hi
        go_wp2_with fail
        refine CI.out.mono ?_
        rintro e w5 ⟨v, rfl, h5⟩
        obtain ⟨A5, c5, hv⟩ := h5.has.2.form
        subst hv
        have HB5 := Lib.hid h5.below
        clear h5
        go_wp2_with fail
        go_ret
        exact ⟨rfl, HB5.out⟩
      · obtain ⟨k, hk, hmod⟩ := mod_pos which j (by omega) (by omega)
        have hcv : IntKind.u64.wrap (j : Int) = (j : Int) := u64_nat j (by omega)
        have hj0 : ((j : Int) == 0) = false := by simpa using h0
        obtain ⟨x, hx⟩ : ∃ x, L[k]? = some x := ⟨_, List.getElem?_eq_getElem (by have := HN.out; have := HNL.out; omega)⟩
        obtain ⟨ad, p, hA, hadd, hp, hcc⟩ := HR.out wr HA.out.below k x hx
        subst hA
        have d0 := hcc 0 _ rfl
        rw [Nat.mul_one] at hadd
        rw [add_zeroE] at d0
        have k0 : (0 : Int) ≤ (k : Int) := by omega
        have k1 : (k : Int) < (N : Int) := by have := HNL.out; omega
        have HMK := Lib.hid (modB_at hx)
        obtain ⟨mk, hmk⟩ : ∃ mk, modB L k = mk := ⟨_, rfl⟩
        have hmx : wrap64 ((IntKind.u64.wrap x).tmod 50) = mk := by rw [← modB_at hx, hmk]
        have HMK2 := Lib.hid hmk
        have HMB2 : Hid (0 ≤ mk ∧ mk < 50) := Lib.hid (by rw [← hmk]; exact HMB.out k)
        have HK := Lib.hid hk
        clear hcc hp hmk
        go_upto_region 15 with fail
        rw [hmod]
        go_upto_region 16 with fail
        obtain ⟨X, hX⟩ : ∃ X, wr.heap.size = X := ⟨_, rfl⟩
        obtain ⟨Wa, hWa⟩ : ∃ Wa, wr.alloc (.cells #[.int .i64 1, .int .i64 (k : Int)] 32) = Wa := ⟨_, rfl⟩
        have ha0 : AlB w Wa P q (gB (modB L) j) (fun W => W.heap[X]? = some (.cells #[.int .i64 1, .int .i64 (k : Int)] 32 (0, 0))) := by
          rw [← hWa, ← hX]
          exact (HA.out.new _).drop fun W h => h.2
        have hXa : Wa.heap.size = X + 1 := by rw [← hWa, ← hX, World.size_alloc]
        have HA0 := Lib.hid ha0
        clear ha0 d0
        obtain ⟨ad', p', hA', hadd', hp', hcc'⟩ := HR.out Wa HA0.out.below k x hx
        obtain rfl := Option.some.inj hA'
        have d0 := hcc' 0 _ rfl
        rw [Nat.mul_one] at hadd'
        rw [add_zeroE] at d0
        have hpp : p = p' := by rw [hadd] at hadd'; exact hadd'
        subst hpp
        rw [hWa, hX]
        clear hWa hX hcc' hp' hadd' HA hA'
        go_upto_region 17 with fail
        rw [hmx]
        obtain ⟨W1, hW1⟩ : ∃ W1, Wa.alloc (.cells #[.int .i64 mk, .int .i64 1, .int .i64 0, .int .i64 0] 34) = W1 := ⟨_, rfl⟩
        have ha1 : AlB w W1 P q (gB (modB L) j) (fun W => W.heap[X]? = some (.cells #[.int .i64 1, .int .i64 (k : Int)] 32 (0, 0)) ∧ W.heap[X + 1]? = some (.cells #[.int .i64 mk, .int .i64 1, .int .i64 0, .int .i64 0] 34 (0, 0))) := by
          rw [← hW1, ← hXa]
          exact HA0.out.new _
        have HA1 := Lib.hid ha1
        rw [hW1]
        clear hW1 ha1 HA0 d0
        go_wp2_with fail
        have c1 := HA1.out.spots_c i9
        rw [show gB (modB L) j = ⟨[setB], (List.range j).map (taskB (modB L))⟩ from rfl, spotsB] at c1
        refine c1.mono ?_
        rintro e w5 ⟨v5, rfl, h5⟩
        have H5 := Lib.hid h5
        clear h5 c1 HA1
        obtain ⟨⟨hX1, _⟩, hs5⟩ := H5.out.has
        obtain ⟨g5, c5, e5, _⟩ := hs5.some (by simp)
        rw [List.length_singleton] at e5
        subst e5
        have x0 : w5.cell? ⟨X, 0, none⟩ = some (.int .i64 1) := cell_of_heap hX1 0
        have x1 : w5.cell? ⟨X, 1, none⟩ = some (.int .i64 (k : Int)) := cell_of_heap hX1 1
        clear hX1 hs5
        go_wp2_with fail
        have ht : okT ⟨1, (k : Int)⟩ := by unfold okT i64; simp only; omega
        have HT := Lib.hid ht
        have ct := H5.out.take_c HS.out ht
        rw [show (⟨[setB], (List.range j).map (taskB (modB L))⟩ : AG) = gB (modB L) j from rfl, takeB (modB L) HK.out, errA0] at ct
        refine ct.mono ?_
        rintro e w6 ⟨rfl, h6⟩
        have H6 := Lib.hid h6
        clear h6 ct H5 x0 x1 ht
        go_wp2_with fail
        have c2 := H6.out.spots_c i9
        rw [spotsB, leftB_less _ HK.out] at c2
        refine c2.mono ?_
        rintro e w7 ⟨v7, rfl, h7⟩
        have H7 := Lib.hid h7
        clear h7 c2 H6
        obtain ⟨_, hs7⟩ := H7.out.has
        obtain ⟨g7, c7, e7, _⟩ := hs7.some (by simp)
        rw [List.length_singleton] at e7
        subst e7
        clear hs7
        obtain ⟨l, hl⟩ : ∃ l, leftA (gB (modB L) j) setB 0 = l := ⟨_, rfl⟩
        have H8 : Hid (AlB w w7 P q ⟨[setB], (lessB j k).map (taskB (modB L))⟩ (KB X k mk g5 c5 g7 c7 l (pv l ⟨mk, 1, 0, 0⟩))) := Lib.hid (H7.out.drop fun W h => ⟨h.1.1.1, h.1.1.2, by rw [← hl]; exact h.1.2.base (Nat.zero_le _), by rw [← hl, ← HMK2.out]; exact h.2.base (Nat.zero_le _)⟩)
        obtain ⟨b0, b1, b2, b3⟩ := leftB_bd (modB L) HMB.out (n := j) (by omega)
        rw [hl] at b0 b1 b2 b3
        obtain ⟨hm0, hm1⟩ := HMB2.out
        have S0 := Lib.hid H8.out.has.cs
        have e1 : IntKind.i64.wrap (l.a + mk) = l.a + mk := IntWalk.i64_in _ (by omega)
        have e2 : IntKind.i64.wrap (l.b + 1) = l.b + 1 := IntWalk.i64_in _ (by omega)
        have e3 : IntKind.i64.wrap ((j : Int) - 1) = ((j - 1 : Nat) : Int) := by rw [IntWalk.i64_in _ (by omega)]; omega
        have HI : Hid (∀ W, (W = w7 ∨ W = w7.drew) → Calls Tryd.prog 26 #[.pointer (some ⟨q, 0, none⟩), .int .i64 9, .int .i64 0] W fun e w' => ∃ A c, e = .returned (.slice A (j - 1) c) ∧ AlB w w' P q ⟨[setB], (lessB j k).map (taskB (modB L))⟩ (KB X k mk g5 c5 g7 c7 l (pv l ⟨mk, 1, 0, 0⟩))) := Lib.hid fun W hW => by
          have hc : AlB w W P q ⟨[setB], (lessB j k).map (taskB (modB L))⟩ (KB X k mk g5 c5 g7 c7 l (pv l ⟨mk, 1, 0, 0⟩)) := by rcases hW with rfl | rfl; exact H8.out; exact H8.out.drew
          refine (hc.inside_c 9 0 (by rw [List.length_map, lessB_len HK.out]; omega)).mono ?_
          rintro e w' ⟨v, rfl, h8⟩
          obtain ⟨A, c8, hv⟩ := h8.has.2.form
          subst hv
          refine ⟨A, c8, ?_, h8.drop fun W h => h.1⟩
          rw [insideB_len, lessB_len HK.out]
        have HLQ := Lib.hid hl
        clear b0 b1 b2 b3 hm0 hm1 hl H7
        go_upto_region 21 with fail
        go_region_held3 (fun W => W.cell? ⟨g5, 1, none⟩ = some (.int .i64 l.a) ∧ W.cell? ⟨g5, 2, none⟩ = some (.int .i64 l.b) ∧ W.cell? ⟨g7, 1, none⟩ = some (.int .i64 (l.a + mk)) ∧ W.cell? ⟨g7, 2, none⟩ = some (.int .i64 (l.b + 1)) ∧ W.cell? ⟨X + 1, 0, none⟩ = some (.int .i64 mk))
          (first | exact S0.out | exact S1.out)
          (first
            | (go_at_call 26; refine (HI.out _ (by first | exact .inl rfl | exact .inr rfl)).mono ?_; rintro e w8 ⟨A8, c8, rfl, k8⟩; have K8 := Lib.hid k8; have S1 := Lib.hid k8.has.cs; clear k8))
        all_goals clear e1 e2 e3 HI
        all_goals (
          have S8 := Lib.hid K8.out.has.ca
          have HP : Hid (∀ W, (W = w8 ∨ W = w8.drew) → Calls Tryd.prog 20 #[.pointer (some ⟨q, 0, none⟩), .agg #[.int .i64 1, .int .i64 (k : Int)], .int .i64 9, .int .i64 0, .agg #[.int .i64 mk, .int .i64 1, .int .i64 0, .int .i64 0]] W fun e w' => e = .returned .nilIface ∧ AlB w w' P q ⟨[setB], (lessB j k ++ [k]).map (taskB (modB L))⟩ (KB X k mk g5 c5 g7 c7 l (pv l ⟨mk, 1, 0, 0⟩))) := Lib.hid fun W hW => by
            have hc : AlB w W P q ⟨[setB], (lessB j k).map (taskB (modB L))⟩ (KB X k mk g5 c5 g7 c7 l (pv l ⟨mk, 1, 0, 0⟩)) := by rcases hW with rfl | rfl; exact K8.out; exact K8.out.drew
            have := hc.put_c HS.out HT.out i9 0 ⟨mk, 1, 0, 0⟩ (by rw [List.length_map, lessB_len HK.out]; omega)
            rw [← HMK2.out, putB_any HMB.out (lessB j k) (by rw [lessB_len HK.out]; omega) k (lessB_ne j k), errA0, HMK2.out] at this
            exact this
          have HSP : Hid (∀ W, AlB w W P q ⟨[setB], (lessB j k ++ [k]).map (taskB (modB L))⟩ (KB X k mk g5 c5 g7 c7 l (pv l ⟨mk, 1, 0, 0⟩)) → Calls Tryd.prog 24 #[.pointer (some ⟨q, 0, none⟩), .int .i64 9] W fun e w' => ∃ g c, e = .returned (.slice (some ⟨g, 0, none⟩) 1 c) ∧ AlB w w' P q ⟨[setB], (lessB j k ++ [k]).map (taskB (modB L))⟩ (KB X k mk g5 c5 g7 c7 l (pv l ⟨mk, 1, 0, 0⟩)) ∧ w'.cell? ⟨g, 0, none⟩ = some (.int .i64 0) ∧ w'.cell? ⟨g, 1, none⟩ = some (.int .i64 l.a) ∧ w'.cell? ⟨g, 2, none⟩ = some (.int .i64 l.b) ∧ w'.cell? ⟨g, 3, none⟩ = some (.int .i64 l.c) ∧ w'.cell? ⟨g, 4, none⟩ = some (.int .i64 l.d)) := Lib.hid fun W hW => by
            have := hW.spots_c i9
            rw [spotsB, leftB_perm _ (lessB_perm HK.out)] at this
            rw [show leftA ⟨[setB], (List.range j).map (taskB (modB L))⟩ setB 0 = l from HLQ.out] at this
            refine this.mono ?_
            rintro e w' ⟨v, rfl, h9⟩
            obtain ⟨_, hs⟩ := h9.has
            obtain ⟨g, c9, ev, _⟩ := hs.some (by simp)
            rw [List.length_singleton] at ev
            subst ev
            exact ⟨g, c9, rfl, h9.drop fun W h => h.1, own_spt hs⟩
          have HIN : Hid (∀ W, AlB w W P q ⟨[setB], (lessB j k ++ [k]).map (taskB (modB L))⟩ (KB X k mk g5 c5 g7 c7 l (pv l ⟨mk, 1, 0, 0⟩)) → Calls Tryd.prog 26 #[.pointer (some ⟨q, 0, none⟩), .int .i64 9, .int .i64 0] W fun e w' => ∃ g c, e = .returned (.slice (some ⟨g, 0, none⟩) j c) ∧ AlB w w' P q ⟨[setB], (lessB j k ++ [k]).map (taskB (modB L))⟩ (KB X k mk g5 c5 g7 c7 l (pv l ⟨mk, 1, 0, 0⟩)) ∧ (⟨g, 0, none⟩ : Addr).add (k * 2) = ⟨g, k * 2, none⟩ ∧ w'.cell? ⟨g, k * 2, none⟩ = some (.int .i64 1) ∧ w'.cell? ⟨g, k * 2 + 1, none⟩ = some (.int .i64 (k : Int))) := Lib.hid fun W hW => by
            have := hW.inside_c 9 0 (by rw [List.length_map, List.length_append, lessB_len HK.out, List.length_singleton]; omega)
            rw [insideB _ (lessB_perm HK.out)] at this
            refine this.mono ?_
            rintro e w' ⟨v, rfl, h9⟩
            obtain ⟨_, hs⟩ := h9.has
            obtain ⟨g, c9, ev, _⟩ := hs.some (by rw [List.length_map, List.length_range]; have := HK.out; omega)
            rw [List.length_map, List.length_range] at ev
            subst ev
            obtain ⟨ad', g', hA, hg, _, _, _, hc⟩ := hs.at (i := k) (x := ⟨1, (k : Int)⟩) (by rw [List.getElem?_map, List.getElem?_range HK.out]; rfl)
            obtain rfl := Option.some.inj hA
            have hgg : g = g' := by have h0 := hg; unfold Addr.add at h0; split at h0 <;> simp_all
            subst hgg
            exact ⟨g, c9, rfl, h9.drop fun W h => h.1, hg, hc 0 _ rfl, hc 1 _ rfl⟩
          have kj : (k : Int) < (j : Int) := by have := HK.out; omega
          have hES := eqSp_self ⟨0, l⟩
          have hET := eqTk ⟨1, (k : Int)⟩ ⟨1, (k : Int)⟩
          simp only [decide_true] at hES hET
          clear S0 S1 H8
          go_wp2_with fail
          go_upto_region 23 with fail
          refine wp_region_held_drew (S := fun W => W.cell? ⟨X, 0, none⟩ = some (.int .i64 1) ∧ W.cell? ⟨X, 1, none⟩ = some (.int .i64 (k : Int)) ∧ W.cell? ⟨X + 1, 0, none⟩ = some (.int .i64 mk) ∧ W.cell? ⟨X + 1, 1, none⟩ = some (.int .i64 1) ∧ W.cell? ⟨X + 1, 2, none⟩ = some (.int .i64 0) ∧ W.cell? ⟨X + 1, 3, none⟩ = some (.int .i64 0) ∧ W.cell? ⟨g5, 0, none⟩ = some (.int .i64 0) ∧ W.cell? ⟨g5, 1, none⟩ = some (.int .i64 l.a) ∧ W.cell? ⟨g5, 2, none⟩ = some (.int .i64 l.b) ∧ W.cell? ⟨g5, 3, none⟩ = some (.int .i64 l.c) ∧ W.cell? ⟨g5, 4, none⟩ = some (.int .i64 l.d)) (by kernel_rfl) ?_ (fun hHeld => ?_)
          · exact S8.out
          refine rg_take 0 (some 122) _ (by kernel_rfl) (by kernel_rfl) (by kernel_rfl) (fun _ _ _ h => h) (by kernel_rfl) (by kernel_rfl) (by intro w' hSw op_ ho; obtain ⟨s0, s1, s2, s3, s4, s5, s6, s7, s8, s9, s10⟩ := hSw; simp only [List.getElem?_toArray, List.getElem?_cons_zero, Option.some.injEq] at ho; subst ho; go_simp; with_reducible rfl) (by assumption) ?_
          try simp only [Act.put, List.setIfInBounds_toArray, List.set_cons_zero, List.set_cons_succ]
          refine rg_take 1 (some 123) _ (by kernel_rfl) (by kernel_rfl) (by kernel_rfl) (fun _ _ _ h => h) (by kernel_rfl) (by kernel_rfl) (by intro w' hSw op_ ho; obtain ⟨s0, s1, s2, s3, s4, s5, s6, s7, s8, s9, s10⟩ := hSw; simp only [List.getElem?_toArray, List.getElem?_cons_succ, List.getElem?_cons_zero, Option.some.injEq] at ho; subst ho; go_simp; with_reducible rfl) (by assumption) ?_
          try simp only [Act.put, List.setIfInBounds_toArray, List.set_cons_zero, List.set_cons_succ]
          refine rg_take 2 (some 124) _ (by kernel_rfl) (by kernel_rfl) (by kernel_rfl) (fun _ _ _ h => h) (by kernel_rfl) (by kernel_rfl) (by intro w' hSw op_ ho; obtain ⟨s0, s1, s2, s3, s4, s5, s6, s7, s8, s9, s10⟩ := hSw; simp only [List.getElem?_toArray, List.getElem?_cons_succ, List.getElem?_cons_zero, Option.some.injEq] at ho; subst ho; go_simp; with_reducible rfl) (by assumption) ?_
          try simp only [Act.put, List.setIfInBounds_toArray, List.set_cons_zero, List.set_cons_succ]
          refine rg_one 3 (by kernel_rfl) (by kernel_rfl) (fun op_ ho K hK => ?_)
          simp only [List.getElem?_toArray, List.getElem?_cons_succ, List.getElem?_cons_zero, Option.some.injEq] at ho
          subst ho
          go_simp
          go_at_call 20
          refine (HP.out _ (by first | exact .inl rfl | exact .inr rfl)).mono ?_
          rintro e w9 ⟨rfl, k9⟩
          have K9 := Lib.hid k9
          have S9 := Lib.hid k9.has.ca
          clear k9
          go_wp2_with fail
          refine hK.out _ _ (by first | exact hHeld | exact S9.out | exact S10.out | exact S11.out) (fun hHeld => ?_)
          clear hK
          try simp only [Act.put, List.setIfInBounds_toArray, List.set_cons_zero, List.set_cons_succ]
          refine rg_take 4 (some 126) _ (by kernel_rfl) (by kernel_rfl) (by kernel_rfl) (fun _ _ _ h => h) (by kernel_rfl) (by kernel_rfl) (by intro w' hSw op_ ho; obtain ⟨s0, s1, s2, s3, s4, s5, s6, s7, s8, s9, s10⟩ := hSw; simp only [List.getElem?_toArray, List.getElem?_cons_succ, List.getElem?_cons_zero, Option.some.injEq] at ho; subst ho; go_simp; with_reducible rfl) (by assumption) ?_
          try simp only [Act.put, List.setIfInBounds_toArray, List.set_cons_zero, List.set_cons_succ]
          refine rg_take 5 (some 127) _ (by kernel_rfl) (by kernel_rfl) (by kernel_rfl) (fun _ _ _ h => h) (by kernel_rfl) (by kernel_rfl) (by intro w' hSw op_ ho; obtain ⟨s0, s1, s2, s3, s4, s5, s6, s7, s8, s9, s10⟩ := hSw; simp only [List.getElem?_toArray, List.getElem?_cons_succ, List.getElem?_cons_zero, Option.some.injEq] at ho; subst ho; go_simp; with_reducible rfl) (by assumption) ?_
          try simp only [Act.put, List.setIfInBounds_toArray, List.set_cons_zero, List.set_cons_succ]
          refine rg_take 6 (some 128) _ (by kernel_rfl) (by kernel_rfl) (by kernel_rfl) (fun _ _ _ h => h) (by kernel_rfl) (by kernel_rfl) (by intro w' hSw op_ ho; obtain ⟨s0, s1, s2, s3, s4, s5, s6, s7, s8, s9, s10⟩ := hSw; simp only [List.getElem?_toArray, List.getElem?_cons_succ, List.getElem?_cons_zero, Option.some.injEq] at ho; subst ho; go_simp; with_reducible rfl) (by assumption) ?_
          try simp only [Act.put, List.setIfInBounds_toArray, List.set_cons_zero, List.set_cons_succ]
          refine rg_take 10 (some 132) _ (by kernel_rfl) (by kernel_rfl) (by kernel_rfl) (fun _ _ _ h => h) (by kernel_rfl) (by kernel_rfl) (by intro w' hSw op_ ho; obtain ⟨s0, s1, s2, s3, s4, s5, s6, s7, s8, s9, s10⟩ := hSw; simp only [List.getElem?_toArray, List.getElem?_cons_succ, List.getElem?_cons_zero, Option.some.injEq] at ho; subst ho; go_simp; with_reducible rfl) (by assumption) ?_
          try simp only [Act.put, List.setIfInBounds_toArray, List.set_cons_zero, List.set_cons_succ]
          refine rg_take 11 (some 133) _ (by kernel_rfl) (by kernel_rfl) (by kernel_rfl) (fun _ _ _ h => h) (by kernel_rfl) (by kernel_rfl) (by intro w' hSw op_ ho; obtain ⟨s0, s1, s2, s3, s4, s5, s6, s7, s8, s9, s10⟩ := hSw; simp only [List.getElem?_toArray, List.getElem?_cons_succ, List.getElem?_cons_zero, Option.some.injEq] at ho; subst ho; go_simp; with_reducible rfl) (by assumption) ?_
          try simp only [Act.put, List.setIfInBounds_toArray, List.set_cons_zero, List.set_cons_succ]
          refine rg_take 12 (some 134) _ (by kernel_rfl) (by kernel_rfl) (by kernel_rfl) (fun _ _ _ h => h) (by kernel_rfl) (by kernel_rfl) (by intro w' hSw op_ ho; obtain ⟨s0, s1, s2, s3, s4, s5, s6, s7, s8, s9, s10⟩ := hSw; simp only [List.getElem?_toArray, List.getElem?_cons_succ, List.getElem?_cons_zero, Option.some.injEq] at ho; subst ho; go_simp; with_reducible rfl) (by assumption) ?_
          try simp only [Act.put, List.setIfInBounds_toArray, List.set_cons_zero, List.set_cons_succ]
          refine rg_one 7 (by kernel_rfl) (by kernel_rfl) (fun op_ ho K hK => ?_)
          simp only [List.getElem?_toArray, List.getElem?_cons_succ, List.getElem?_cons_zero, Option.some.injEq] at ho
          subst ho
          go_simp
          go_at_call 24
          refine (HSP.out _ K9.out).mono ?_
          rintro e w10 ⟨g10, c10, rfl, k10, t0, t1, t2, t3, t4⟩
          have K10 := Lib.hid k10
          have S10 := Lib.hid k10.has.ca
          clear k10
          go_wp2_with fail
          refine hK.out _ _ (by first | exact hHeld | exact S9.out | exact S10.out | exact S11.out) (fun hHeld => ?_)
          clear hK
          try simp only [Act.put, List.setIfInBounds_toArray, List.set_cons_zero, List.set_cons_succ]
          refine rg_take 8 (some 130) _ (by kernel_rfl) (by kernel_rfl) (by kernel_rfl) (fun _ _ _ h => h) (by kernel_rfl) (by kernel_rfl) (by intro w' hSw op_ ho; obtain ⟨s0, s1, s2, s3, s4, s5, s6, s7, s8, s9, s10⟩ := hSw; simp only [List.getElem?_toArray, List.getElem?_cons_succ, List.getElem?_cons_zero, Option.some.injEq] at ho; subst ho; go_simp; with_reducible rfl) (by assumption) ?_
          try simp only [Act.put, List.setIfInBounds_toArray, List.set_cons_zero, List.set_cons_succ]
          refine rg_one 9 (by kernel_rfl) (by kernel_rfl) (fun op_ ho K hK => ?_)
          simp only [List.getElem?_toArray, List.getElem?_cons_succ, List.getElem?_cons_zero, Option.some.injEq] at ho
          subst ho
          go_simp
          go_wp2_with fail
          refine hK.out _ _ (by first | exact hHeld | exact S9.out | exact S10.out | exact S11.out) (fun hHeld => ?_)
          clear hK
          try simp only [Act.put, List.setIfInBounds_toArray, List.set_cons_zero, List.set_cons_succ]
          refine rg_take 13 (some 135) _ (by kernel_rfl) (by kernel_rfl) (by kernel_rfl) (fun _ _ _ h => h) (by kernel_rfl) (by kernel_rfl) (by intro w' hSw op_ ho; obtain ⟨s0, s1, s2, s3, s4, s5, s6, s7, s8, s9, s10⟩ := hSw; simp only [List.getElem?_toArray, List.getElem?_cons_succ, List.getElem?_cons_zero, Option.some.injEq] at ho; subst ho; go_simp; with_reducible rfl) (by assumption) ?_
          try simp only [Act.put, List.setIfInBounds_toArray, List.set_cons_zero, List.set_cons_succ]
          refine rg_take 14 (some 136) _ (by kernel_rfl) (by kernel_rfl) (by kernel_rfl) (fun _ _ _ h => h) (by kernel_rfl) (by kernel_rfl) (by intro w' hSw op_ ho; obtain ⟨s0, s1, s2, s3, s4, s5, s6, s7, s8, s9, s10⟩ := hSw; simp only [List.getElem?_toArray, List.getElem?_cons_succ, List.getElem?_cons_zero, Option.some.injEq] at ho; subst ho; go_simp; with_reducible rfl) (by assumption) ?_
          try simp only [Act.put, List.setIfInBounds_toArray, List.set_cons_zero, List.set_cons_succ]
          refine rg_take 15 (some 137) _ (by kernel_rfl) (by kernel_rfl) (by kernel_rfl) (fun _ _ _ h => h) (by kernel_rfl) (by kernel_rfl) (by intro w' hSw op_ ho; obtain ⟨s0, s1, s2, s3, s4, s5, s6, s7, s8, s9, s10⟩ := hSw; simp only [List.getElem?_toArray, List.getElem?_cons_succ, List.getElem?_cons_zero, Option.some.injEq] at ho; subst ho; go_simp; with_reducible rfl) (by assumption) ?_
          try simp only [Act.put, List.setIfInBounds_toArray, List.set_cons_zero, List.set_cons_succ]
          refine rg_take 16 (some 138) _ (by kernel_rfl) (by kernel_rfl) (by kernel_rfl) (fun _ _ _ h => h) (by kernel_rfl) (by kernel_rfl) (by intro w' hSw op_ ho; obtain ⟨s0, s1, s2, s3, s4, s5, s6, s7, s8, s9, s10⟩ := hSw; simp only [List.getElem?_toArray, List.getElem?_cons_succ, List.getElem?_cons_zero, Option.some.injEq] at ho; subst ho; go_simp; with_reducible rfl) (by assumption) ?_
          try simp only [Act.put, List.setIfInBounds_toArray, List.set_cons_zero, List.set_cons_succ]
          refine rg_take 18 (some 140) _ (by kernel_rfl) (by kernel_rfl) (by kernel_rfl) (fun _ _ _ h => h) (by kernel_rfl) (by kernel_rfl) (by intro w' hSw op_ ho; obtain ⟨s0, s1, s2, s3, s4, s5, s6, s7, s8, s9, s10⟩ := hSw; simp only [List.getElem?_toArray, List.getElem?_cons_succ, List.getElem?_cons_zero, Option.some.injEq] at ho; subst ho; go_simp; with_reducible rfl) (by assumption) ?_
          try simp only [Act.put, List.setIfInBounds_toArray, List.set_cons_zero, List.set_cons_succ]
          refine rg_take 21 (some 143) _ (by kernel_rfl) (by kernel_rfl) (by kernel_rfl) (fun _ _ _ h => h) (by kernel_rfl) (by kernel_rfl) (by intro w' hSw op_ ho; obtain ⟨s0, s1, s2, s3, s4, s5, s6, s7, s8, s9, s10⟩ := hSw; simp only [List.getElem?_toArray, List.getElem?_cons_succ, List.getElem?_cons_zero, Option.some.injEq] at ho; subst ho; go_simp; with_reducible rfl) (by assumption) ?_
          try simp only [Act.put, List.setIfInBounds_toArray, List.set_cons_zero, List.set_cons_succ]
          refine rg_one 17 (by kernel_rfl) (by kernel_rfl) (fun op_ ho K hK => ?_)
          simp only [List.getElem?_toArray, List.getElem?_cons_succ, List.getElem?_cons_zero, Option.some.injEq] at ho
          subst ho
          go_simp
          go_at_call 26
          refine (HIN.out _ K10.out).mono ?_
          rintro e w11 ⟨g11, c11, rfl, k11, ha11, t5, t6⟩
          have K11 := Lib.hid k11
          have S11 := Lib.hid k11.has.ca
          clear k11
          go_wp2_with fail
          refine hK.out _ _ (by first | exact hHeld | exact S9.out | exact S10.out | exact S11.out) (fun hHeld => ?_)
          clear hK
          try simp only [Act.put, List.setIfInBounds_toArray, List.set_cons_zero, List.set_cons_succ]
          refine rg_take 19 (some 141) _ (by kernel_rfl) (by kernel_rfl) (by kernel_rfl) (fun _ _ _ h => h) (by kernel_rfl) (by kernel_rfl) (by intro w' hSw op_ ho; obtain ⟨s0, s1, s2, s3, s4, s5, s6, s7, s8, s9, s10⟩ := hSw; simp only [List.getElem?_toArray, List.getElem?_cons_succ, List.getElem?_cons_zero, Option.some.injEq] at ho; subst ho; go_simp; with_reducible rfl) (by assumption) ?_
          try simp only [Act.put, List.setIfInBounds_toArray, List.set_cons_zero, List.set_cons_succ]
          refine rg_one 20 (by kernel_rfl) (by kernel_rfl) (fun op_ ho K hK => ?_)
          simp only [List.getElem?_toArray, List.getElem?_cons_succ, List.getElem?_cons_zero, Option.some.injEq] at ho
          subst ho
          go_simp
          go_wp2_with fail
          refine hK.out _ _ (by first | exact hHeld | exact S9.out | exact S10.out | exact S11.out) (fun hHeld => ?_)
          clear hK
          try simp only [Act.put, List.setIfInBounds_toArray, List.set_cons_zero, List.set_cons_succ]
          refine rg_take 22 (some 144) _ (by kernel_rfl) (by kernel_rfl) (by kernel_rfl) (fun _ _ _ h => h) (by kernel_rfl) (by kernel_rfl) (by intro w' hSw op_ ho; obtain ⟨s0, s1, s2, s3, s4, s5, s6, s7, s8, s9, s10⟩ := hSw; simp only [List.getElem?_toArray, List.getElem?_cons_succ, List.getElem?_cons_zero, Option.some.injEq] at ho; subst ho; go_simp; with_reducible rfl) (by assumption) ?_
          try simp only [Act.put, List.setIfInBounds_toArray, List.set_cons_zero, List.set_cons_succ]
          refine rg_take 23 (some 145) _ (by kernel_rfl) (by kernel_rfl) (by kernel_rfl) (fun _ _ _ h => h) (by kernel_rfl) (by kernel_rfl) (by intro w' hSw op_ ho; obtain ⟨s0, s1, s2, s3, s4, s5, s6, s7, s8, s9, s10⟩ := hSw; simp only [List.getElem?_toArray, List.getElem?_cons_succ, List.getElem?_cons_zero, Option.some.injEq] at ho; subst ho; go_simp; with_reducible rfl) (by assumption) ?_
          try simp only [Act.put, List.setIfInBounds_toArray, List.set_cons_zero, List.set_cons_succ]
          refine rg_take 24 (some 4) _ (by kernel_rfl) (by kernel_rfl) (by kernel_rfl) (fun _ _ _ h => h) (by kernel_rfl) (by kernel_rfl) (by intro w' hSw op_ ho; obtain ⟨s0, s1, s2, s3, s4, s5, s6, s7, s8, s9, s10⟩ := hSw; simp only [List.getElem?_toArray, List.getElem?_cons_succ, List.getElem?_cons_zero, Option.some.injEq] at ho; subst ho; go_simp; with_reducible rfl) (by assumption) ?_
          try simp only [Act.put, List.setIfInBounds_toArray, List.set_cons_zero, List.set_cons_succ]
          refine wpAnyH_done (by kernel_rfl) ?_ _
          clear hHeld t0 t1 t2 t3 t4 t5 t6 ha11 kj hES hET
          go_wp2_with fail
          go_ret
          exact ⟨rfl, K11.out.below⟩)
end Go.Proofs.YtfikkjdkgigikaaDoor
