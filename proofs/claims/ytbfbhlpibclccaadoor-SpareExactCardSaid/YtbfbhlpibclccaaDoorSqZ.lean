/- The walk of the law SpareExact: whatever the deeds, it returns true. Condition: the one sentinel lies as the program's text lays it. -/
import Derived.Test.YtbfbhlpibclccaaDoorSqZc
import Derived.Test.YtbfbhlpibclccaaDoorSqZd
import Derived.Test.YtbfbhlpibclccaaDoorSqZe
import Derived.Test.YtbfbhlpibclccaaDoorSqF
import Derived.Test.YtbfbhlpibclccaaDoorRgC
import Derived.Deep.DeepCutAuto
import Derived.Deep.CutBlock
import Derived.Deep.RegionHeld3
import Derived.Deep.QuietTactic
import Derived.StillTailTactics
namespace Go.Proofs.YtbfbhlpibclccaaDoor
open Go Go.RowKit Go.Maps Go.Sort

theorem pre_sum (M : List Ct) (h : ∀ c ∈ M, 1 ≤ sumC c) (i : Nat) : 0 ≤ ((M.take i).map sumC).sum ∧ ((M.take i).map sumC).sum ≤ (M.map sumC).sum := by
  have h1 := sum_len (M.take i) fun c hc => h c (List.mem_of_mem_take hc)
  have h2 := sum_len (M.drop i) fun c hc => h c (List.mem_of_mem_drop hc)
  have h3 : (M.map sumC).sum = ((M.take i).map sumC).sum + ((M.drop i).map sumC).sum := by
    rw [← List.sum_append, ← List.map_append, List.take_append_drop]
  omega
theorem sum_take (M : List Ct) {i : Nat} {c : Ct} (h : M[i]? = some c) : ((M.take (i + 1)).map sumC).sum = ((M.take i).map sumC).sum + c.free + c.forced := by
  have e1 : M.take (i + 1) = M.take i ++ [c] := by rw [List.take_add_one, h]; rfl
  rw [e1, List.map_append, List.sum_append]
  simp only [List.map_cons, List.map_nil, List.sum_cons, List.sum_nil, sumC]; omega
set_option maxHeartbeats 6400000 in
set_option maxRecDepth 100000 in
theorem sexact_any (a : Addr) (A : Option Addr) (c : Nat) (X : List AcQ) (bud : Int) (w : World) (he : w.cell? ⟨0, 0, none⟩ = some (.iface 201 (.pointer (some a)))) (hr : ReadsE encAcQ w A X) (hX : ∀ x ∈ X, GoodAcQ x) (hll : X.length ≤ 9223372036854775807) (hbud : i64 bud) :
    Calls Tryd.prog 4 #[.slice A X.length c, .int .i64 bud] w fun e w' => e = .returned (.bool true) ∧ Below w.heap.size w w' := by
  have HER : Hid (∀ W, Below w.heap.size w W → W.cell? ⟨0, 0, none⟩ = some (.iface 201 (.pointer (some a)))) := Lib.hid fun W hb => (hb.cell (p := ⟨0, 0, none⟩) (lt_of_cell he)).trans he
  have HX := Lib.hid hX
  have HR : Hid (∀ W, Below w.heap.size w W → ReadsE encAcQ W A X) := Lib.hid fun W hb => hr.on hb
  have HLL := Lib.hid hll
  have HBD := Lib.hid hbud
  clear he hr hX hll hbud
  go_enter Tryd.func4, Tryd.ntmps4
  go_wp2_with fail
  refine (awake19_c w).mono ?_
  rintro e w0 ⟨rfl, b0⟩
  have HB0 := Lib.hid b0
  clear b0
  go_wp2_with fail
  refine (sx_new HB0.out).mono ?_
  rintro e w1 ⟨q, b, rfl, h1⟩
  obtain ⟨u, hu⟩ : ∃ u, w1.heap.size = u := ⟨_, rfl⟩
  obtain ⟨W2, hW2⟩ : ∃ W2, w1.alloc (.cells #[.slice none 0 0] 75) = W2 := ⟨_, rfl⟩
  have h2 : SZ w W2 q b u [] [] (fun _ => True) := by
    rw [← hW2, ← hu]
    have hl := h1.lt
    exact ⟨h1.on ((Below.refl _ _).alloc (Nat.le_refl _) _), ⟨.slice none 0 0, ⟨heap_alloc_new _ _, OwnE.nil _ _ _⟩, fun _ _ => trivial⟩, hl.1, hl.2, h1.below.size⟩
  have H2 := Lib.hid h2
  have HW2 := Lib.hid hW2
  have HU := Lib.hid hu
  clear h1 h2 HB0 hW2 hu
  go_upto_region 5 with fail
  rw [HW2.out, HU.out]
  go_upto_block 0 with fail
  go_cut [] (fun wx => ∃ E : List Ev, E.length ≤ 60 ∧ SZ w wx q b u E E (fun _ => True))
  case first =>
    go_wp2_with fail
    go_loopw [7] (fun v wr => ∃ (i : Nat) (E : List Ev), i ≤ 60 ∧ v = .int .i64 (i : Int) ∧ E.length ≤ i ∧ SZ w wr q b u E E (fun _ => True)) (fun v _ => 60 - natQ v)
    case atStart => exact ⟨0, [], by omega, rfl, Nat.le_refl _, H2.out⟩
    case round =>
      obtain ⟨i, E, hi60, rfl, hE, hK⟩ := hrel
      have HK := Lib.hid hK
      have HE := Lib.hid hE
      clear hK hE H2
      by_cases hlt : i < X.length ∧ i < 60
      · obtain ⟨h1, h2⟩ := hlt
        obtain ⟨x, hx⟩ : ∃ x, X[i]? = some x := ⟨_, List.getElem?_eq_getElem h1⟩
        have hi0 : (0 : Int) ≤ (i : Int) := by omega
        have hi1 : (i : Int) < (X.length : Int) := by omega
        have hd1 : decide ((i : Int) < (X.length : Int)) = true := decide_eq_true hi1
        have hd2 : decide ((i : Int) < 60) = true := decide_eq_true (by omega)
        have hw1 : wrap64 ((i : Int) + 1) = ((i + 1 : Nat) : Int) := by unfold wrap64; omega
        have HXX := Lib.hid hx
        clear hx
        go_upto_block 1 with fail
        refine wp_blk (bodyOf Tryd.f4 1) (by kernel_rfl) ?_
        refine spare_round _ _ _ _ _ _ _ _ _ _ _ _ _ _ _ _ _ _ _ _ _ _ _ _ _ _ _ _ _ _ _ _ _ _ _ _ _ _ _ _ _ _ _ _ _ _ _ _ _ _ _ _ _ _ _ _ _ _ _ _ _ _ _ _ _ _ _ _ _ _ _ _ _ _ _ _ _ _ _ _ _ _ _ _ _ _ _ _ _ _ _ _ _ _ _ _ _ _ _ _ _ _ _ _ _ _ _ _ _ _ _ _ _ _ _ _ _ _ _ _ _ _ _ _ _ _ _ _ _ _ _ _ _ _ _ _ _ _ _ _ _ _ _ _ _ _ _ _ _ _ _ _ _ _ _ _ _ _ _ _ _ _ _ _ _ _ _ _ _ _ _ _ _ _ _ _ _ _ _ _ _ _ _ _ _ _ _ _ _ _ _ _ _ _ _ _ _ _ _ _ _ _ _ _ _ _ _ _ _ _ _ _ _ _ _ _ _ _ _ _ _ _ _ _ _ _ _ _ _ _ _ _ _ _ _ _ A c i X w q b u E x bud _ wr (HR.out _ HK.out.below) HK.out HXX.out (HX.out x (List.mem_of_getElem? HXX.out)) (by have := HE.out; omega) HBD.out ?_
        intro _ _ _ _ _ _ _ _ _ _ _ _ _ _ _ _ _ _ _ _ _ _ _ _ _ _ _ _ _ _ _ _ _ _ _ _ _ _ _ _ _ _ _ _ _ _ _ _ _ _ _ _ _ _ _ _ _ _ _ _ _ _ _ _ _ _ _ _ _ _ _ _ _ _ _ _ _ _ _ _ _ _ _ _ _ _ _ _ _ _ _ _ _ _ _ _ _ _ w6 E' k1 l1
        have K1 := Lib.hid k1; have L1 := Lib.hid l1
        clear k1 l1 hd1 hd2
        go_wp2_with fail
        go_roundw
        case rel => exact ⟨i + 1, E', by omega, by first | (rw [← hw1]; done) | (rw [← hw1]; first | rfl | (congr 1; omega)), by have := L1.out; have := HE.out; omega, K1.out⟩
        case measure => simp [natQ] <;> omega
      · have hdd : ¬ ((i : Int) < (X.length : Int)) ∨ ((i : Int) < (X.length : Int) ∧ ¬ (i : Int) < 60) := by omega
        clear hlt
        rcases hdd with hd | ⟨hd, hd60⟩
        · have hd1 : decide ((i : Int) < (X.length : Int)) = false := decide_eq_false hd
          go_wp2_with fail
          go_meet
          exact ⟨E, by have := HE.out; omega, HK.out⟩
        · have hd1 : decide ((i : Int) < (X.length : Int)) = true := decide_eq_true hd
          have hd2 : decide ((i : Int) < 60) = false := decide_eq_false hd60
          go_wp2_with fail
          go_meet
          exact ⟨E, by have := HE.out; omega, HK.out⟩
  case rest =>
    obtain ⟨E, hE, hK⟩ := hcut
    have HK := Lib.hid hK
    have HE := Lib.hid hE
    clear hK hE H2 HX HR HLL
    go_wp2_with fail
    refine (HK.out.x.list_c (by have := HE.out; omega)).mono ?_
    rintro e w3 ⟨A3, c3, M, rfl, hls, hown, b3⟩
    obtain ⟨n, hn⟩ : ∃ n, M.length = n := ⟨_, rfl⟩
    rw [hn] at hown ⊢
    have HNN := Lib.hid hn; have HLS := Lib.hid hls; have HOW := Lib.hid hown
    have HK3 := Lib.hid (HK.out.on b3)
    have hn60 : n ≤ 60 := by rw [← hn]; exact Nat.le_trans hls.few HE.out
    clear hn hls hown b3 HK
    go_wp2_with fail
    go_loopw [12, 13, 14] (fun S I _ wr => ∃ i : Nat, i ≤ n ∧ S = .int .i64 ((M.take i).map sumC).sum ∧ I = .int .i64 (i : Int) ∧ Below w3.heap.size w3 wr) (fun _ I _ _ => n - natQ I)
    case atStart => exact ⟨0, Nat.zero_le _, rfl, rfl, Below.refl _ _⟩
    case round =>
      obtain ⟨i, hi, rfl, rfl, hb⟩ := hrel
      have HB := Lib.hid hb
      clear hb
      obtain ⟨S, hS⟩ : ∃ S, ((M.take i).map sumC).sum = S := ⟨_, rfl⟩
      rw [hS]
      have HS := Lib.hid hS
      by_cases hin : i < n
      · have hi1 : (i : Int) < (n : Int) := by omega
        have hi0 : (0 : Int) ≤ (i : Int) := by omega
        have hw1 : wrap64 ((i : Int) + 1) = ((i + 1 : Nat) : Int) := by unfold wrap64; omega
        obtain ⟨y, hy⟩ : ∃ y, M[i]? = some y := ⟨_, List.getElem?_eq_getElem (by rw [HNN.out]; exact hin)⟩
        obtain ⟨ad, g, hA3, ea, -, -, -, hcc⟩ := (HOW.out.on HB.out).at hy
        subst hA3
        have z0 : wr.cell? ⟨g, i * 4, none⟩ = some (.int .i64 y.job) := hcc 0 _ rfl
        have z1 := hcc 1 _ rfl
        have z2 := hcc 2 _ rfl
        have z3 := hcc 3 _ rfl
        have hym := List.mem_of_getElem? hy
        have hye := HLS.out.at_ y hym
        have hf : (cntE E y.job y.win false : Int) = y.free := congrArg Ct.free hye.symm
        have ht : (cntE E y.job y.win true : Int) = y.forced := congrArg Ct.forced hye.symm
        have hps := pre_sum M HLS.out.pos i
        have hps2 := pre_sum M HLS.out.pos (i + 1)
        have hst := sum_take M hy
        rw [hS] at hps hst
        rw [HLS.out.sum] at hps hps2
        rw [hst] at hps2
        have hE60 := HE.out
        have hw2 : wrap64 (S + y.free) = S + y.free := by unfold wrap64; omega
        have hw3 : wrap64 (S + y.free + y.forced) = S + y.free + y.forced := by unfold wrap64; omega
        have HST := Lib.hid hst; have HF := Lib.hid hf; have HT := Lib.hid ht; have HW2 := Lib.hid hw2; have HW3 := Lib.hid hw3; have HY := Lib.hid hy
        have HW1 := Lib.hid hw1
        obtain ⟨W5, hW5⟩ : ∃ W5, wr.alloc (.cells #[.int .i64 y.job, .int .i64 y.win, .int .i64 y.free, .int .i64 y.forced] 85) = W5 := ⟨_, rfl⟩
        obtain ⟨gc, hgc⟩ : ∃ gc, wr.heap.size = gc := ⟨_, rfl⟩
        have hb5 : Below wr.heap.size wr W5 := by rw [← hW5]; exact (Below.refl _ _).alloc (Nat.le_refl _) _
        have hg5 : W5.heap[gc]? = some (.cells #[.int .i64 y.job, .int .i64 y.win, .int .i64 y.free, .int .i64 y.forced] 85 (0, 0)) := by rw [← hW5, ← hgc]; exact heap_alloc_new _ _
        have HB5 := Lib.hid (HB.out.trans (hb5.mono HB.out.size)); have HG5 := Lib.hid hg5; have HW5 := Lib.hid hW5; have HGC := Lib.hid hgc
        have HEE : Hid (E.length ≤ 1000) := Lib.hid (by omega)
        have HIN := Lib.hid hin
        clear hcc hym hye hf ht hps hps2 hst hE60 hw2 hw3 hy hW5 hgc hb5 hg5 hS hw1 hi
        go_upto_region 31 with fail
        rw [HW5.out, HGC.out]
        clear z0 z1 z2 z3 ea
        have hfin : ∀ w7, Below W5.heap.size W5 w7 → Below w3.heap.size w3 w7 ∧ w7.cell? ⟨gc, 2, none⟩ = some (.int .i64 y.free) ∧ w7.cell? ⟨gc, 3, none⟩ = some (.int .i64 y.forced) := fun w7 b7 => by
          have hg7 := (b7.block gc (lt_of_row HG5.out)).trans HG5.out
          exact ⟨HB5.out.trans (b7.mono HB5.out.size), cell_of_heap hg7 2, cell_of_heap hg7 3⟩
        have HFIN := Lib.hid hfin
        clear hfin
        refine wp_reg (opsOf Tryd.f4 31) (by kernel_rfl) ?_
        by_cases h0 : i = 0
        · subst h0
          refine sz31a _ _ _ _ _ _ _ _ _ _ _ _ _ _ _ _ _ _ _ _ _ _ _ _ _ _ _ _ _ _ _ _ _ _ _ _ _ _ _ _ _ _ _ _ _ _ _ _ _ _ _ _ _ _ _ _ _ _ _ _ _ _ _ _ _ _ _ _ _ _ _ _ _ _ _ _ _ _ _ _ _ _ _ _ _ _ _ _ _ _ _ _ _ _ _ _ _ _ _ _ _ _ _ _ _ _ _ _ _ _ _ _ _ _ _ _ _ _ _ _ _ _ _ _ _ _ _ _ _ _ _ _ _ _ _ _ _ _ _ _ _ _ _ _ _ _ _ _ _ _ _ _ _ _ _ _ _ _ _ _ _ _ _ _ _ _ _ _ _ _ _ _ _ _ _ _ _ _ _ _ _ _ _ _ _ _ _ _ _ _ _ _ _ _ _ _ _ _ _ _ _ _ _ _ _ _ _ _ _ _ _ _ _ _ _ _ _ _ _ _ _ _ _ _ _ _ _ _ _ _ _ _ _ _ _ _ _ _ w q b u gc E y _ W5 (HK3.out.on HB5.out) HEE.out HF.out HT.out HG5.out ?_
          intro _ _ _ _ _ _ _ _ _ _ _ _ _ _ _ _ _ _ _ _ _ _ _ _ _ _ _ _ _ _ _ _ _ _ _ _ _ _ _ _ _ _ _ _ _ _ _ _ _ _ _ _ _ _ _ _ w7 b7
          obtain ⟨hb7, x2, x3⟩ := HFIN.out w7 b7
          have HB7 := Lib.hid hb7
          have hw2 := HW2.out
          have hw3 := HW3.out
          clear b7 hb7
          go_wp2_with fail
          go_roundw
          case rel => exact ⟨0 + 1, HIN.out, by rw [HST.out, HW3.out], by first | exact congrArg (Value.int .i64) HW1.out | rfl | (congr 1; have := HW1.out; omega), HB7.out⟩
          case measure => simp [natQ] <;> (have := HIN.out; omega)
        · obtain ⟨k, rfl⟩ : ∃ k, i = k + 1 := ⟨i - 1, by omega⟩
          obtain ⟨p, hp⟩ : ∃ p, M[k]? = some p := ⟨_, List.getElem?_eq_getElem (by rw [HNN.out]; have := HIN.out; omega)⟩
          have hlt : ltC p y := by
            obtain ⟨p1, p2⟩ := List.getElem?_eq_some_iff.1 hp
            obtain ⟨p3, p4⟩ := List.getElem?_eq_some_iff.1 HY.out
            have := List.pairwise_iff_getElem.1 HLS.out.ord k (k + 1) p1 p3 (by omega)
            rw [p2, p4] at this; exact this
          obtain ⟨ad', g', hA', ea', -, -, -, hcc'⟩ := (HOW.out.on HB5.out).at hp
          obtain rfl := Option.some.inj hA'
          have r0 : W5.cell? ⟨g', k * 4, none⟩ = some (.int .i64 p.job) := hcc' 0 _ rfl
          have r1 := hcc' 1 _ rfl
          have hkn : k < n := by have := HIN.out; omega
          by_cases hj : p.job = y.job
          · refine sz31b _ _ _ _ _ _ _ _ _ _ _ _ _ _ _ _ _ _ _ _ _ _ _ _ _ _ _ _ _ _ _ _ _ _ _ _ _ _ _ _ _ _ _ _ _ _ _ _ _ _ _ _ _ _ _ _ _ _ _ _ _ _ _ _ _ _ _ _ _ _ _ _ _ _ _ _ _ _ _ _ _ _ _ _ _ _ _ _ _ _ _ _ _ _ _ _ _ _ _ _ _ _ _ _ _ _ _ _ _ _ _ _ _ _ _ _ _ _ _ _ _ _ _ _ _ _ _ _ _ _ _ _ _ _ _ _ _ _ _ _ _ _ _ _ _ _ _ _ _ _ _ _ _ _ _ _ _ _ _ _ _ _ _ _ _ _ _ _ _ _ _ _ _ _ _ _ _ _ _ _ _ _ _ _ _ _ _ _ _ _ _ _ _ _ _ _ _ _ _ _ _ _ _ _ _ _ _ _ _ _ _ _ _ _ _ _ _ _ _ _ _ _ _ _ _ _ _ _ _ _ _ _ _ _ _ _ _ w q b u gc E y k n c3 g' ad p _ W5 (HK3.out.on HB5.out) HEE.out HF.out HT.out HG5.out hkn (by omega) ea' r0 r1 hlt hj ?_
            intro _ _ _ _ _ _ _ _ _ _ _ _ _ _ _ _ _ _ _ _ _ _ _ _ _ _ _ _ _ _ _ _ _ _ _ _ _ _ _ _ _ _ _ _ _ _ _ _ _ _ _ _ _ _ _ _ w7 b7
            clear hcc' r0 r1 hp hlt ea' hA' h0
            obtain ⟨hb7, x2, x3⟩ := HFIN.out w7 b7
            have HB7 := Lib.hid hb7
            have hw2 := HW2.out
            have hw3 := HW3.out
            clear b7 hb7
            go_wp2_with fail
            go_roundw
            case rel => exact ⟨(k + 1) + 1, HIN.out, by rw [HST.out, HW3.out], by first | exact congrArg (Value.int .i64) HW1.out | rfl | (congr 1; have := HW1.out; omega), HB7.out⟩
            case measure => simp [natQ] <;> (have := HIN.out; omega)
          · refine sz31c _ _ _ _ _ _ _ _ _ _ _ _ _ _ _ _ _ _ _ _ _ _ _ _ _ _ _ _ _ _ _ _ _ _ _ _ _ _ _ _ _ _ _ _ _ _ _ _ _ _ _ _ _ _ _ _ _ _ _ _ _ _ _ _ _ _ _ _ _ _ _ _ _ _ _ _ _ _ _ _ _ _ _ _ _ _ _ _ _ _ _ _ _ _ _ _ _ _ _ _ _ _ _ _ _ _ _ _ _ _ _ _ _ _ _ _ _ _ _ _ _ _ _ _ _ _ _ _ _ _ _ _ _ _ _ _ _ _ _ _ _ _ _ _ _ _ _ _ _ _ _ _ _ _ _ _ _ _ _ _ _ _ _ _ _ _ _ _ _ _ _ _ _ _ _ _ _ _ _ _ _ _ _ _ _ _ _ _ _ _ _ _ _ _ _ _ _ _ _ _ _ _ _ _ _ _ _ _ _ _ _ _ _ _ _ _ _ _ _ _ _ _ _ _ _ _ _ _ _ _ _ _ _ _ _ _ _ w q b u gc E y k n c3 g' ad p _ W5 (HK3.out.on HB5.out) HEE.out HF.out HT.out HG5.out hkn (by omega) ea' r0 r1 hlt hj ?_
            intro _ _ _ _ _ _ _ _ _ _ _ _ _ _ _ _ _ _ _ _ _ _ _ _ _ _ _ _ _ _ _ _ _ _ _ _ _ _ _ _ _ _ _ _ _ _ _ _ _ _ _ _ _ _ _ _ w7 b7
            clear hcc' r0 r1 hp hlt ea' hA' h0
            obtain ⟨hb7, x2, x3⟩ := HFIN.out w7 b7
            have HB7 := Lib.hid hb7
            have hw2 := HW2.out
            have hw3 := HW3.out
            clear b7 hb7
            go_wp2_with fail
            go_roundw
            case rel => exact ⟨(k + 1) + 1, HIN.out, by rw [HST.out, HW3.out], by first | exact congrArg (Value.int .i64) HW1.out | rfl | (congr 1; have := HW1.out; omega), HB7.out⟩
            case measure => simp [natQ] <;> (have := HIN.out; omega)
      · obtain rfl : i = n := by omega
        have hS2 : S = (E.length : Int) := by
          rw [← hS, List.take_of_length_le (by rw [HNN.out]; exact Nat.le_refl _)]; exact HLS.out.sum
        subst hS2
        have HK9 := Lib.hid (HK3.out.on HB.out)
        clear hS HS HOW HK3
        go_wp2_with fail
        refine (sexpire_nil 1 wr).mono ?_
        rintro e w4 ⟨rfl, b4⟩
        have HK4 := Lib.hid (HK9.out.on b4)
        clear b4 HK9
        go_wp2_with fail
        refine (sdrop_nil 1 w4).mono ?_
        rintro e w5 ⟨rfl, b5⟩
        have HK5 := Lib.hid (HK4.out.on b5)
        clear b5 HK4
        obtain ⟨v, hv, -⟩ := HK5.out.r
        obtain ⟨A2, c2, -, k1, -⟩ := hv.at
        have HV := Lib.hid k1
        have HE5 := Lib.hid (HER.out w5 HK5.out.below)
        clear hv k1
        go_upto_region 37 with fail
        refine wp_reg (opsOf Tryd.f4 37) (by kernel_rfl) ?_
        refine sz37 _ _ _ _ _ _ _ _ _ _ _ _ _ _ _ _ _ _ _ _ _ _ _ _ _ _ _ _ _ _ _ _ _ _ _ _ _ _ _ _ _ _ _ _ _ _ _ _ _ _ _ _ _ _ _ _ _ _ _ _ _ _ _ _ _ _ _ _ _ _ _ _ _ _ _ _ _ _ _ _ _ _ _ _ _ _ _ _ _ _ _ _ _ _ _ _ _ _ _ _ _ _ _ _ _ _ _ _ _ _ _ _ _ _ _ _ _ _ _ _ _ _ _ _ _ _ _ _ _ _ _ _ _ _ _ _ _ _ _ _ _ _ _ _ _ _ _ _ _ _ _ _ _ _ _ _ _ _ _ _ _ _ _ _ _ _ _ _ _ _ _ _ _ _ _ _ _ _ _ _ _ _ _ _ _ _ _ _ _ _ _ _ _ _ _ _ _ _ _ _ _ _ _ _ _ _ _ _ _ _ _ _ _ _ _ _ _ _ _ _ _ _ _ _ _ _ _ _ _ _ _ _ _ _ _ _ _ _ u E.length c2 A2 a _ w5 HE5.out HV.out ?_
        intro _ _ _ _ _ _ _ _ _ _ _ _ _ _ _ _ _ _ _ _ _ _ _ _ _ _ _ _ _ _ _ _ _ _ _ w9 b9
        have HB9 := Lib.hid (HK5.out.on b9).below
        clear b9
        go_wp2_with fail
        go_ret
        exact ⟨rfl, HB9.out⟩
end Go.Proofs.YtbfbhlpibclccaaDoor
