/- The reference's book of envelopes: the tasks inside, in order. Condition: the book lies in memory as its rows have it. -/
import Derived.Test.YtbdnfppbiplpmaaDoorMxA
import Derived.Test.YtbdnfppbiplpmaaDoorMaC
import Derived.IntWalk
import Derived.Deep.DeepCutAuto
import Derived.Deep.QuietTactic
import Derived.Deep.CutBlock
import Derived.Test.YtbdnfppbiplpmaaDoorRwS
import Derived.Test.YtbdnfppbiplpmaaDoorRgo
import Derived.Deep.RegionHeld3
import Derived.Test.YtbdnfppbiplpmaaDoorMaE
namespace Go.Proofs.YtbdnfppbiplpmaaDoor
open Go Go.RowKit

/-- Inside an envelope, or, below 0, inside any of the set. -/
def inR (id pos : Int) (x : InA) : Bool := decide (x.set = id) && (decide (pos < 0) || decide (x.pos = pos))
def insR (G : AG) (id pos : Int) (j : Nat) : List Tk := sortT (((G.tasks.take j).filter (inR id pos)).map (·.tk))
theorem insR_zero (G : AG) (id pos : Int) : insR G id pos 0 = [] := rfl
theorem insR_succ {G : AG} (id pos : Int) {j : Nat} {x : InA} (hx : G.tasks[j]? = some x) : insR G id pos (j + 1) = if inR id pos x = true then insT x.tk (insR G id pos j) else insR G id pos j := by
  have ht : G.tasks.take (j + 1) = G.tasks.take j ++ [x] := by rw [List.take_add_one, hx]; rfl
  unfold insR
  rw [ht, List.filter_append, List.map_append, List.filter_cons]
  by_cases h : inR id pos x = true
  · rw [if_pos h, if_pos h]; unfold sortT; rw [List.foldl_append]; rfl
  · rw [if_neg h, if_neg h, List.filter_nil, List.map_nil, List.append_nil]
theorem insR_inside (G : AG) (id : Int) {pos : Int} (hp : 0 ≤ pos) {j : Nat} (hj : G.tasks.length ≤ j) : insR G id pos j = insideA G id pos := by
  unfold insR insideA
  rw [List.take_of_length_le hj]
  congr 3
  funext x
  unfold inR inE
  rw [show decide (pos < 0) = false from decide_eq_false (by omega), Bool.false_or]
theorem insR_len (G : AG) (id pos : Int) (j : Nat) : (insR G id pos j).length ≤ G.tasks.length := by
  unfold insR
  rw [sortT_len, List.length_map]
  exact Nat.le_trans (List.length_filter_le _ _) (by rw [List.length_take]; omega)
theorem insT_at (x : Tk) : ∀ (L : List Tk) (k : Nat), (∀ r y, r < k → L[r]? = some y → lessT y x) → (∀ y, L[k]? = some y → ¬ lessT y x) → k ≤ L.length → insT x L = L.take k ++ x :: L.drop k
  | [], k, _, _, hk => by simp at hk; subst hk; rfl
  | y :: L, 0, _, h, _ => by
    unfold insT
    rw [if_neg (h y rfl)]; rfl
  | y :: L, k + 1, h, h2, hk => by
    unfold insT
    rw [if_pos (h 0 y (Nat.succ_pos k) rfl), insT_at x L k (fun r z hr hz => h (r + 1) z (Nat.succ_lt_succ hr) hz) (fun z hz => h2 z hz) (by simpa using hk)]
    rfl
theorem Tryd.sizeTk (W : World) : (sizeOf 32).run Tryd.prog W = .ok 2 W := by kernel_rfl
set_option maxRecDepth 100000 in
set_option maxHeartbeats 6400000 in
/-- The tasks inside. -/
theorem rxinside_c {w : World} {u : Nat} {v1 v2 : Value} {G : AG} (h : RfA w u v1 v2 G) (id pos : Int) (hn : G.tasks.length ≤ 100000) :
    Calls Tryd.prog 15 #[.pointer (some ⟨u, 0, none⟩), .int .i64 id, .int .i64 pos] w fun e w' => ∃ v, e = .returned v ∧ OwnE encTk 32 w' w.heap.size v (insR G id pos G.tasks.length) ∧ Below w.heap.size w w' := by
  obtain ⟨N, hN⟩ : ∃ N, G.tasks.length = N := ⟨_, rfl⟩
  obtain ⟨A2, c2, hv2⟩ := h.t.form
  rw [hN] at hv2 hn
  subst hv2
  have HNN := Lib.hid hN
  have HLE := Lib.hid (fun j => insR_len G id pos j)
  have HH := Lib.hid h
  obtain ⟨X0, hX0⟩ : ∃ X0, w.heap.size = X0 := ⟨_, rfl⟩
  rw [hN]
  have hb1 : Below w.heap.size w (w.alloc (.cells #[] 32)) := (Below.refl _ _).alloc (Nat.le_refl _) _
  have HB1 := Lib.hid hb1
  have HO1 : Hid (OwnE encTk 32 (w.alloc (.cells #[] 32)) w.heap.size (.slice (some ⟨w.heap.size, 0, none⟩) 0 0) (insR G id pos 0)) := Lib.hid (OwnE.none w (Nat.le_refl _))
  clear h hN hb1 hX0
  go_enter Tryd.func15, Tryd.ntmps15
  go_wp2_with fail
  go_loopw [7, 8] (fun V J wr => ∃ j : Nat, j ≤ N ∧ J = .int .i64 (j : Int) ∧ OwnE encTk 32 wr w.heap.size V (insR G id pos j) ∧ Below w.heap.size w wr) (fun _ J _ => N - natOf J)
  case atStart => exact ⟨0, Nat.zero_le _, rfl, HO1.out, HB1.out⟩
  case round =>
    obtain ⟨j, hj, rfl, ho, hb⟩ := hrel
    clear HO1 HB1
    have HB := Lib.hid hb
    have c10 : wr.cell? ⟨u, 1, none⟩ = some (.slice A2 N c2) := cell_of_heap (HH.out.on hb).box 1
    obtain ⟨S, hS⟩ : ∃ S, insR G id pos j = S := ⟨_, rfl⟩
    have hsl : S.length ≤ 100000 := by rw [← hS]; have := HLE.out j; have := HNN.out; omega
    rw [hS] at ho
    obtain ⟨A, c, hv⟩ := ho.form
    subst hv
    obtain ⟨m, hm⟩ : ∃ m, S.length = m := ⟨_, rfl⟩
    rw [hm] at ho hsl ⊢
    have HO := Lib.hid ho
    have HS := Lib.hid hS
    have HM := Lib.hid hm
    clear hb ho hS hm
    by_cases hlt : j < N
    · obtain ⟨x, hx⟩ : ∃ x, G.tasks[j]? = some x := ⟨_, List.getElem?_eq_getElem (by have := HNN.out; omega)⟩
      have j0 : (0 : Int) ≤ (j : Int) := by omega
      have j1 : (j : Int) < (N : Int) := by omega
      have HW1 : Hid (wrap64 ((j : Int) + 1) = ((j + 1 : Nat) : Int)) := Lib.hid (by unfold wrap64; omega)
      obtain ⟨ad2, g2, hA, ea2, -, -, -, hcc⟩ := (HH.out.on HB.out).t.at hx
      subst hA
      have x0 : wr.cell? ⟨g2, j * 8, none⟩ = some (.int .i64 x.tk.job) := hcc 0 _ rfl
      have x1 : wr.cell? ⟨g2, j * 8 + 1, none⟩ = some (.int .i64 x.tk.ix) := hcc 1 _ rfl
      have x2 : wr.cell? ⟨g2, j * 8 + 2, none⟩ = some (.int .i64 x.set) := hcc 2 _ rfl
      have x3 : wr.cell? ⟨g2, j * 8 + 3, none⟩ = some (.int .i64 x.pos) := hcc 3 _ rfl
      have x4 : wr.cell? ⟨g2, j * 8 + 4, none⟩ = some (.int .i64 x.need.a) := hcc 4 _ rfl
      have x5 : wr.cell? ⟨g2, j * 8 + 5, none⟩ = some (.int .i64 x.need.b) := hcc 5 _ rfl
      have x6 : wr.cell? ⟨g2, j * 8 + 6, none⟩ = some (.int .i64 x.need.c) := hcc 6 _ rfl
      have x7 : wr.cell? ⟨g2, j * 8 + 7, none⟩ = some (.int .i64 x.need.d) := hcc 7 _ rfl
      have HSUC := Lib.hid (insR_succ id pos hx)
      have HJ := Lib.hid hlt
      clear hcc hx hlt
      go_upto_region 6 with fail
      obtain ⟨Z, hZ⟩ : ∃ Z, wr.heap.size = Z := ⟨_, rfl⟩
      obtain ⟨W1, hW1⟩ : ∃ W1, wr.alloc (.cells #[.int .i64 x.tk.job, .int .i64 x.tk.ix, .int .i64 x.set, .int .i64 x.pos, .int .i64 x.need.a, .int .i64 x.need.b, .int .i64 x.need.c, .int .i64 x.need.d] 58) = W1 := ⟨_, rfl⟩
      have hbw : Below wr.heap.size wr W1 := by rw [← hW1]; exact (Below.refl _ _).alloc (Nat.le_refl _) _
      have hzw : W1.heap[Z]? = some (.cells #[.int .i64 x.tk.job, .int .i64 x.tk.ix, .int .i64 x.set, .int .i64 x.pos, .int .i64 x.need.a, .int .i64 x.need.b, .int .i64 x.need.c, .int .i64 x.need.d] 58 (0, 0)) := by rw [← hW1, ← hZ]; exact heap_alloc_new _ _
      have HB2 : Hid (Below w.heap.size w W1) := Lib.hid (HB.out.trans (hbw.mono HB.out.size))
      have HO2 := Lib.hid (HO.out.on hbw)
      have HZW := Lib.hid hzw
      rw [hW1, hZ]
      clear hW1 hZ hbw x0 x1 x2 x3 x4 x5 x6 x7 HO HB c10 ea2
      have z2 : W1.cell? ⟨Z, 2, none⟩ = some (.int .i64 x.set) := cell_of_heap hzw 2
      have z3 : W1.cell? ⟨Z, 3, none⟩ = some (.int .i64 x.pos) := cell_of_heap hzw 3
      clear hzw
      by_cases hin : inR id pos x = true
      · have hst := HSUC.out
        rw [if_pos hin, HS.out] at hst
        have HST := Lib.hid hst
        have e1 : x.set = id := by unfold inR at hin; simp at hin; exact hin.1
        have e2 : pos < 0 ∨ x.pos = pos := by unfold inR at hin; simp at hin; exact hin.2
        have f1 : (x.set != id) = false := by simp [e1]
        have f1b : (x.set == id) = true := by simp [e1]
        clear hst hin HSUC
        have hcs : (decide (0 ≤ pos) = true ∧ (x.pos != pos) = false) ∨ decide (0 ≤ pos) = false := by
          by_cases hp : 0 ≤ pos
          · refine .inl ⟨decide_eq_true hp, ?_⟩
            have e3 : x.pos = pos := by omega
            simp [e3]
          · exact .inr (decide_eq_false hp)
        rcases hcs with ⟨f2, f3⟩ | f2
        all_goals go_upto_block 2 with fail
        all_goals try clear f3
        all_goals (
          clear f1 f1b f2 e1 e2 z2 z3
          go_cut [10] (fun K wk => ∃ k : Nat, k ≤ m ∧ K = .int .i64 (k : Int) ∧ insT x.tk S = S.take k ++ x.tk :: S.drop k ∧ Below W1.heap.size W1 wk)
          case first =>
            go_wp2_with fail
            go_loopw [10] (fun K wk => ∃ k : Nat, k ≤ m ∧ K = .int .i64 (k : Int) ∧ (∀ r y, r < k → S[r]? = some y → lessT y x.tk) ∧ Below W1.heap.size W1 wk) (fun K _ => m - natOf K)
            case atStart => exact ⟨0, Nat.zero_le _, rfl, fun r y hr => by omega, Below.refl _ _⟩
            case round =>
              obtain ⟨k, hk, rfl, hls, hb⟩ := hrel
              have HLS := Lib.hid hls
              have HBK := Lib.hid hb
              have hz := (hb.block Z (lt_of_row HZW.out)).trans HZW.out
              have t0 : wr.cell? ⟨Z, 0, none⟩ = some (.int .i64 x.tk.job) := cell_of_heap hz 0
              have t1 : wr.cell? ⟨Z, 1, none⟩ = some (.int .i64 x.tk.ix) := cell_of_heap hz 1
              have hok := HO2.out.on hb
              have k0 : (0 : Int) ≤ (k : Int) := by omega
              clear hls hb hz
              by_cases hkm : k < m
              · obtain ⟨y, hy⟩ : ∃ y, S[k]? = some y := ⟨_, List.getElem?_eq_getElem (by have := HM.out; omega)⟩
                obtain ⟨ad, g, hA, ea, -, -, -, hcc⟩ := hok.at hy
                subst hA
                have y0 : wr.cell? ⟨g, k * 2, none⟩ = some (.int .i64 y.job) := hcc 0 _ rfl
                have y1 : wr.cell? ⟨g, k * 2 + 1, none⟩ = some (.int .i64 y.ix) := hcc 1 _ rfl
                have k1 : (k : Int) < (m : Int) := by omega
                have HKM := Lib.hid hkm
                have HY := Lib.hid hy
                have HWK : Hid (wrap64 ((k : Int) + 1) = ((k + 1 : Nat) : Int)) := Lib.hid (by unfold wrap64; omega)
                clear hcc hok hy
                have hll : (lessT y x.tk ∧ (decide (y.job < x.tk.job) = true ∨ (decide (y.job < x.tk.job) = false ∧ (y.job == x.tk.job) = true ∧ decide (y.ix < x.tk.ix) = true))) ∨ (¬ lessT y x.tk ∧ decide (y.job < x.tk.job) = false ∧ ((y.job == x.tk.job) = false ∨ ((y.job == x.tk.job) = true ∧ decide (y.ix < x.tk.ix) = false))) := by
                  unfold lessT
                  by_cases l1 : y.job < x.tk.job
                  · exact .inl ⟨.inl l1, .inl (decide_eq_true l1)⟩
                  · by_cases l2 : y.job = x.tk.job
                    · by_cases l3 : y.ix < x.tk.ix
                      · exact .inl ⟨.inr ⟨l2, l3⟩, .inr ⟨decide_eq_false l1, by simpa using l2, decide_eq_true l3⟩⟩
                      · exact .inr ⟨by omega, decide_eq_false l1, .inr ⟨by simpa using l2, decide_eq_false l3⟩⟩
                    · exact .inr ⟨by omega, decide_eq_false l1, .inl (by simpa using l2)⟩
                rcases hll with ⟨hl, l1 | ⟨l1, l2, l3⟩⟩ | ⟨hl, l1, l2 | ⟨l2, l3⟩⟩
                · have HL := Lib.hid hl
                  clear hl
                  go_upto_region 8 with fail
                  go_quiet (fail)
                  clear l1 y0 y1 t0 t1 ea
                  have hwk := HWK.out
                  go_wp2_with fail
                  go_roundw
                  case rel => exact ⟨k + 1, HKM.out, by rw [← HWK.out]; first | rfl | (congr 1; omega), fun r z hr hz => by
                    rcases Nat.lt_succ_iff_lt_or_eq.1 hr with hr | rfl
                    · exact HLS.out r z hr hz
                    · rw [HY.out] at hz; obtain rfl := Option.some.inj hz; exact HL.out, HBK.out.trans (below_drewN (Below.refl _ _) nq)⟩
                  case measure => simp [natOf]; omega
                · have HL := Lib.hid hl
                  clear hl
                  go_upto_region 8 with fail
                  go_quiet (fail)
                  clear l1 l2 l3 y0 y1 t0 t1 ea
                  have hwk := HWK.out
                  go_wp2_with fail
                  go_roundw
                  case rel => exact ⟨k + 1, HKM.out, by rw [← HWK.out]; first | rfl | (congr 1; omega), fun r z hr hz => by
                    rcases Nat.lt_succ_iff_lt_or_eq.1 hr with hr | rfl
                    · exact HLS.out r z hr hz
                    · rw [HY.out] at hz; obtain rfl := Option.some.inj hz; exact HL.out, HBK.out.trans (below_drewN (Below.refl _ _) nq)⟩
                  case measure => simp [natOf]; omega
                · have HI := Lib.hid (insT_at x.tk S k (fun r z hr hz => HLS.out r z hr hz) (fun z hz => by rw [HY.out] at hz; obtain rfl := Option.some.inj hz; exact hl) (by have := HM.out; omega))
                  clear hl
                  go_upto_region 8 with fail
                  go_quiet (fail)
                  clear l1 l2 y0 y1 t0 t1 ea
                  go_wp2_with fail
                  go_meet
                  exact ⟨k, Nat.le_of_lt HKM.out, by (first | rfl | (simp; done) | kernel_rfl), HI.out, HBK.out.trans (below_drewN (Below.refl _ _) nq)⟩
                · have HI := Lib.hid (insT_at x.tk S k (fun r z hr hz => HLS.out r z hr hz) (fun z hz => by rw [HY.out] at hz; obtain rfl := Option.some.inj hz; exact hl) (by have := HM.out; omega))
                  clear hl
                  go_upto_region 8 with fail
                  go_quiet (fail)
                  clear l1 l2 l3 y0 y1 t0 t1 ea
                  go_wp2_with fail
                  go_meet
                  exact ⟨k, Nat.le_of_lt HKM.out, by (first | rfl | (simp; done) | kernel_rfl), HI.out, HBK.out.trans (below_drewN (Below.refl _ _) nq)⟩
              · obtain rfl : k = m := by omega
                have HI := Lib.hid (insT_at x.tk S k (fun r z hr hz => HLS.out r z hr hz) (fun z hz => by have := (List.getElem?_eq_some_iff.1 hz).1; have := HM.out; omega) (by have := HM.out; omega))
                clear hok t0 t1
                go_upto_region 8 with fail
                go_quiet (fail)
                go_wp2_with fail
                go_meet
                exact ⟨k, Nat.le_refl _, by (first | rfl | (simp; done) | kernel_rfl), HI.out, HBK.out.trans (below_drewN (Below.refl _ _) nq)⟩
          case rest =>
            obtain ⟨k, hk, rfl, hins, hb⟩ := hcut
            have hoc := HO2.out.on hb
            have hz := (hb.block Z (lt_of_row HZW.out)).trans HZW.out
            have hbc : Below w.heap.size w wc := HB2.out.trans (hb.mono HB2.out.size)
            have HZC := Lib.hid hz
            obtain ⟨X1, hX1, lX1⟩ := hoc.lies.upto Tryd.underlying46 Tryd.sizeTk .i64 (k : Int) k rfl (by have := HM.out; omega)
            obtain ⟨X2, hX2, lX2⟩ := hoc.lies.from Tryd.underlying46 Tryd.sizeTk .i64 (k : Int) k rfl (by have := HM.out; omega)
            have k0 : (0 : Int) ≤ (k : Int) := by omega
            have hlt : (S.take k).length = k := by rw [List.length_take]; have := HM.out; omega
            have hld : (S.drop k).length ≤ m := by rw [List.length_drop]; have := HM.out; omega
            obtain ⟨ii, h0, q0, q1, q2⟩ := infoTk_parts
            have hb3 : Below wc.heap.size wc (wc.alloc (.cells #[] 32)) := (Below.refl _ _).alloc (Nat.le_refl _) _
            have A1 : Hid (OwnE encTk 32 (wc.alloc (.cells #[] 32)) w.heap.size (.slice (some ⟨wc.heap.size, 0, none⟩) 0 0) []) := Lib.hid (OwnE.none wc hbc.size)
            have A2 : Hid (LiesE encTk (wc.alloc (.cells #[] 32)) X1 (S.take k)) := Lib.hid (lX1.onB hb3)
            have A3 : Hid (([] : List Tk).length + (S.take k).length ≤ maxLen) := Lib.hid (by rw [hlt]; simp only [List.length_nil, maxLen]; omega)
            have A4 : Hid ((([] : List Tk).length + (S.take k).length) * 16 ≤ 140737488355328) := Lib.hid (by rw [hlt]; simp only [List.length_nil]; omega)
            have A5 : Hid (w.heap.size ≤ (wc.alloc (.cells #[] 32)).heap.size) := Lib.hid (Nat.le_trans hbc.size hb3.size)
            have HL2 := Lib.hid lX2
            have HBC := Lib.hid hbc
            have HB3 := Lib.hid hb3
            have HLT := Lib.hid hlt
            have HLD := Lib.hid hld
            have HINS := Lib.hid hins
            have m1 : True := trivial
            clear lX1 lX2 hbc hb3 hlt hld hins hoc hz hb
            go_wp2_with (first
              | (at_builtin
                 refine wpList_append_E (E := encTk) rfl _ _ 46 rfl ii _ 16 Tryd.underlying46 h0 q0 q1 q2 rfl (by decide) rfl A1.out rfl A2.out A3.out A4.out A5.out ?_
                 intro v4 w4 own4 gr4 lo4
                 clear m1 hX1 A1 A2 A3 A4 A5
                 have hB4 : Below wc.heap.size wc w4 := HB3.out.grown gr4 (by have := HB3.out.size; omega) (fun k hk => by have e : some wc.heap.size = some k := hk; cases e; exact Nat.le_refl _)
                 have hO4 : ∀ k, v4.ownBlock = some k → wc.heap.size ≤ k := fun k hk => by
                   rcases lo4 with h | h
                   · have e : some wc.heap.size = some k := h.symm.trans hk; cases e; exact Nat.le_refl _
                   · rw [h] at hk; simp only [World.size_alloc, Option.some.injEq] at hk; omega
                 have hz := (hB4.block Z (lt_of_row HZC.out)).trans HZC.out
                 have t0 : w4.cell? ⟨Z, 0, none⟩ = some (.int .i64 x.tk.job) := cell_of_heap hz 0
                 have t1 : w4.cell? ⟨Z, 1, none⟩ = some (.int .i64 x.tk.ix) := cell_of_heap hz 1
                 have hb5 : Below w4.heap.size w4 (w4.alloc (.cells #[.int .i64 x.tk.job, .int .i64 x.tk.ix] 32)) := (Below.refl _ _).alloc (Nat.le_refl _) _
                 have A1 := Lib.hid (own4.on hb5)
                 have A2 : Hid (LiesE encTk (w4.alloc (.cells #[.int .i64 x.tk.job, .int .i64 x.tk.ix] 32)) (.slice (some ⟨w4.heap.size, 0, none⟩) 1 1) [x.tk]) := Lib.hid (lies_lit encTk [x.tk] (heap_alloc_new w4 _))
                 have A3 : Hid (([] ++ S.take k).length + [x.tk].length ≤ maxLen) := Lib.hid (by rw [List.nil_append, HLT.out]; simp only [List.length_singleton, maxLen]; omega)
                 have A4 : Hid ((([] ++ S.take k).length + [x.tk].length) * 16 ≤ 140737488355328) := Lib.hid (by rw [List.nil_append, HLT.out]; simp only [List.length_singleton]; omega)
                 have A5 : Hid (w.heap.size ≤ (w4.alloc (.cells #[.int .i64 x.tk.job, .int .i64 x.tk.ix] 32)).heap.size) := Lib.hid (Nat.le_trans HBC.out.size (Nat.le_trans hB4.size hb5.size))
                 have HB4 := Lib.hid hB4
                 have HO4 := Lib.hid hO4
                 have HB5 := Lib.hid hb5
                 have m2 : True := trivial
                 clear own4 gr4 lo4 hB4 hO4 hz hb5 HB3)
              | (at_builtin
                 refine wpList_append_E (E := encTk) rfl _ _ 46 rfl ii _ 16 Tryd.underlying46 h0 q0 q1 q2 rfl (by decide) rfl A1.out rfl A2.out A3.out A4.out A5.out ?_
                 intro v5 w5 own5 gr5 lo5
                 clear m2 A1 A2 A3 A4 A5 t0 t1
                 have hB5 : Below wc.heap.size wc w5 := (HB4.out.trans (HB5.out.mono HB4.out.size)).grown gr5 (by have := HB4.out.size; have := HB5.out.size; omega) (fun k hk => HO4.out k hk)
                 have hO5 : ∀ k, v5.ownBlock = some k → wc.heap.size ≤ k := fun k hk => by
                   rcases lo5 with h | h
                   · rw [h] at hk; exact HO4.out k hk
                   · rw [h] at hk; simp only [World.size_alloc, Option.some.injEq] at hk; have := HB4.out.size; omega
                 have A1 := Lib.hid own5
                 have A2 : Hid (LiesE encTk w5 X2 (S.drop k)) := Lib.hid (HL2.out.onB hB5)
                 have A3 : Hid (([] ++ S.take k ++ [x.tk]).length + (S.drop k).length ≤ maxLen) := Lib.hid (by rw [List.nil_append, List.length_append, HLT.out]; have := HLD.out; simp only [List.length_singleton, maxLen]; omega)
                 have A4 : Hid ((([] ++ S.take k ++ [x.tk]).length + (S.drop k).length) * 16 ≤ 140737488355328) := Lib.hid (by rw [List.nil_append, List.length_append, HLT.out]; have := HLD.out; simp only [List.length_singleton]; omega)
                 have A5 : Hid (w.heap.size ≤ w5.heap.size) := Lib.hid (Nat.le_trans HBC.out.size hB5.size)
                 have HB6 := Lib.hid hB5
                 have HO6 := Lib.hid hO5
                 have m3 : True := trivial
                 clear own5 gr5 lo5 hB5 hO5 HB4 HB5 HO4 HL2)
              | (at_builtin
                 refine wpList_append_E (E := encTk) rfl _ _ 46 rfl ii _ 16 Tryd.underlying46 h0 q0 q1 q2 rfl (by decide) rfl A1.out rfl A2.out A3.out A4.out A5.out ?_
                 intro v6 w6 own6 gr6 lo6
                 clear m3 hX2 A1 A2 A3 A4 A5
                 have HB7 : Hid (Below w.heap.size w w6) := Lib.hid (HBC.out.trans ((HB6.out.grown gr6 HB6.out.size (fun k hk => HO6.out k hk)).mono HBC.out.size))
                 have HO7 : Hid (OwnE encTk 32 w6 w.heap.size v6 (insR G id pos (j + 1))) := Lib.hid (by
                   rw [HST.out, HINS.out]
                   have e : [] ++ S.take k ++ [x.tk] ++ S.drop k = S.take k ++ x.tk :: S.drop k := by simp
                   rw [← e]; exact own6)
                 have hw1 := HW1.out
                 clear own6 gr6 lo6 HB6 HO6))
            go_roundw
            case rel => exact ⟨j + 1, HJ.out, by rw [← HW1.out]; first | rfl | (congr 1; omega), HO7.out, HB7.out⟩
            case measure => simp [natOf]; omega)
      · have hst := HSUC.out
        rw [if_neg hin, HS.out] at hst
        have HST := Lib.hid hst
        have hcs : (x.set != id) = true ∧ (x.set == id) = false ∨ (x.set != id) = false ∧ (x.set == id) = true ∧ decide (0 ≤ pos) = true ∧ (x.pos != pos) = true := by
          unfold inR at hin
          simp at hin
          by_cases e1 : x.set = id
          · obtain ⟨k1, k2⟩ := hin e1
            exact .inr ⟨by simp [e1], by simp [e1], decide_eq_true k1, by simpa using k2⟩
          · exact .inl ⟨by simpa using e1, by simpa using e1⟩
        clear hst hin HSUC
        rcases hcs with ⟨f1, f1b⟩ | ⟨f1, f1b, f2, f3⟩
        all_goals (
          have hw1 := HW1.out
          go_wp2_with fail
          go_roundw
          case rel => exact ⟨j + 1, HJ.out, by rw [← HW1.out]; first | rfl | (congr 1; omega), by rw [HST.out]; exact HO2.out, HB2.out⟩
          case measure => simp [natOf]; omega)
    · obtain rfl : j = N := by omega
      go_wp2_with fail
      go_ret
      exact ⟨_, rfl, by rw [HS.out]; exact HO.out, HB.out⟩
end Go.Proofs.YtbdnfppbiplpmaaDoor

/- The reference's book of envelopes: a set goes. Condition: the book lies in memory as its rows have it. -/
namespace Go.Proofs.YtbdnfppbiplpmaaDoor
open Go Go.RowKit

def closeG (G : AG) (id : Int) : AG := ⟨G.sets.filter fun s => !decide (s.id = id), G.tasks⟩
theorem Tryd.infoSet17 : (Tryd.prog.info? 63).map (fun i => (i.zero, i.size, i.bytes)) = some (some (.agg #[.int .i64 0, .int .i64 0, .int .i64 0, .int .i64 0, .int .i64 0, .int .i64 0, .bool false, .bool false, .bool false, .bool false, .bool false, .bool false, .bool false, .bool false]), 14, 56) := by kernel_rfl
theorem Tryd.sizeSet17 (W : World) : (sizeOf 63).run Tryd.prog W = .ok 14 W := by kernel_rfl
theorem insR_one (G : AG) (id : Int) : (insR G id (-1) G.tasks.length).length = (G.tasks.filter fun x => decide (x.set = id)).length := by
  unfold insR
  rw [sortT_len, List.length_map, List.take_of_length_le (Nat.le_refl _)]
  congr 2
  funext x
  unfold inR
  rw [show decide ((-1 : Int) < 0) = true from rfl, Bool.true_or, Bool.and_true]
theorem insR_none {G : AG} {id : Int} (h : G.tasks.any (fun x => decide (x.set = id)) = false) : (insR G id (-1) G.tasks.length).length = 0 := by
  rw [insR_one, List.filter_eq_nil_iff.2 fun x hx => by have := List.any_eq_false.1 h x hx; simpa using this]; rfl
theorem insR_some {G : AG} {id : Int} (h : G.tasks.any (fun x => decide (x.set = id)) = true) : 0 < (insR G id (-1) G.tasks.length).length := by
  rw [insR_one]
  obtain ⟨x, hx, e⟩ := List.any_eq_true.1 h
  exact List.length_pos_of_mem (List.mem_filter.2 ⟨hx, e⟩)
set_option maxRecDepth 100000 in
set_option maxHeartbeats 1600000 in
/-- Close: there is none, or a task is inside. -/
theorem rxclose_no {w : World} {u : Nat} {v1 v2 : Value} {G : AG} (h : RfA w u v1 v2 G) (id : Int) (hn : G.tasks.length ≤ 100000) (hc : (closeA G id).2 ≠ 0) :
    Calls Tryd.prog 12 #[.pointer (some ⟨u, 0, none⟩), .int .i64 id] w fun e w' => e = .returned (.int .i64 ((closeA G id).2 : Nat)) ∧ Below w.heap.size w w' := by
  have HF := Lib.hid (rxfind_c h id)
  have HIN := Lib.hid (rxinside_c h id (-1) hn)
  rcases posS_cases h.good id with ⟨hp, e⟩ | ⟨i, y, hp, _, _, e⟩
  · have hcl : (closeA G id).2 = 5 := by unfold closeA; rw [if_pos (by rw [e]; rfl)]
    rw [hcl]
    rw [hp] at HF
    clear h hp e hcl hc HIN
    go_enter Tryd.func12, Tryd.ntmps12
    go_wp2_with fail
    refine HF.out.mono ?_
    rintro e wf ⟨rfl, rfl⟩
    go_wp2_with fail
    go_ret
    exact ⟨rfl, Below.refl _ _⟩
  · have hany : G.tasks.any (fun x => decide (x.set = id)) = true := by
      cases ha : G.tasks.any (fun x => decide (x.set = id)) with
      | true => rfl
      | false =>
        exfalso; apply hc
        unfold closeA
        rw [if_neg (by rw [e]; simp), if_neg (by rw [ha]; simp)]
    have hcl : (closeA G id).2 = 13 := by unfold closeA; rw [if_neg (by rw [e]; simp), if_pos hany]
    have hpos := insR_some hany
    rw [hcl]
    rw [hp] at HF
    clear h hp e hcl hc hany
    go_enter Tryd.func12, Tryd.ntmps12
    go_wp2_with fail
    refine HF.out.mono ?_
    rintro e wf ⟨rfl, rfl⟩
    have hi0 : (0 : Int) ≤ (i : Int) := by omega
    go_wp2_with fail
    refine HIN.out.mono ?_
    rintro e w2 ⟨vi, rfl, hoi, hB2⟩
    obtain ⟨Ai, ci, hvi⟩ := hoi.form
    subst hvi
    obtain ⟨z, hz⟩ : ∃ z, (insR G id (-1) G.tasks.length).length = z := ⟨_, rfl⟩
    rw [hz] at hpos ⊢
    have d1 : decide ((0 : Int) < (z : Int)) = true := decide_eq_true (by omega)
    have HB2 := Lib.hid hB2
    clear hoi hB2 HF HIN hz
    go_wp2_with fail
    go_ret
    exact ⟨rfl, HB2.out⟩
set_option maxRecDepth 100000 in
set_option maxHeartbeats 3200000 in
/-- Close: the set goes. -/
theorem rxclose_ok {w : World} {u : Nat} {v1 v2 : Value} {G : AG} (h : RfA w u v1 v2 G) {id : Int} {x : SetA} (hx : setA G id = some x) (hno : G.tasks.any (fun x => decide (x.set = id)) = false) (hn' : G.tasks.length ≤ 100000) :
    Calls Tryd.prog 12 #[.pointer (some ⟨u, 0, none⟩), .int .i64 id] w fun e w' => e = .returned (.int .i64 0) ∧ ∃ v1', RfA w' u v1' v2 (closeG G id) ∧ (∀ k, v1'.ownBlock = some k → w.heap.size ≤ k) ∧ ChP (fun k => k = u) w w' := by
  rcases posS_cases h.good id with ⟨_, e⟩ | ⟨i, y, hpi, hi, his, e⟩
  · rw [hx] at e; cases e
  obtain rfl : x = y := by rw [hx] at e; exact Option.some.inj e
  have hcut : G.sets.take i ++ G.sets.drop (i + 1) = (closeG G id).sets := by
    rw [cut_filter SetA.id h.good.ids his, set_id h.good hx]; rfl
  have hgood : GA (closeG G id) := by
    have := h.good.close id
    unfold closeA at this
    rw [if_neg (by rw [hx]; simp), if_neg (by rw [hno]; simp)] at this
    exact this
  have hf := rxfind_c h id
  rw [hpi] at hf
  have HF := Lib.hid hf
  have hi8 : (rxinside_c h id (-1) hn') = (rxinside_c h id (-1) hn') := rfl
  have HIN := Lib.hid (rxinside_c h id (-1) hn')
  have hu := lt_of_row h.box
  have HOLD := Lib.hid h.old
  have H0 := Lib.hid h
  have hlen0 := insR_none hno
  have HL0 := Lib.hid hlen0
  obtain ⟨N, hN⟩ : ∃ N, G.sets.length = N := ⟨_, rfl⟩
  have hn : N ≤ 8 := by rw [← hN]; exact h.good.few
  rw [hN] at hi
  have HNN := Lib.hid hN
  have HCUT := Lib.hid hcut
  have HGD := Lib.hid hgood
  clear h hf hpi his e hN hcut hgood hx hno hn' hi8 hlen0
  go_enter Tryd.func12, Tryd.ntmps12
  go_wp2_with fail
  refine HF.out.mono ?_
  rintro e wf ⟨rfl, rfl⟩
  have hi0 : (0 : Int) ≤ (i : Int) := by omega
  go_wp2_with fail
  refine HIN.out.mono ?_
  rintro e w2 ⟨vi, rfl, hoi, hB2⟩
  obtain ⟨Ai, ci, hvi⟩ := hoi.form
  subst hvi
  rw [HL0.out]
  have H2 := Lib.hid (H0.out.on hB2)
  clear hoi HF HIN H0 hi0
  obtain ⟨A, c, hv⟩ := H2.out.s.form
  rw [HNN.out] at hv
  subst hv
  have c1 : w2.cell? ⟨u, 0, none⟩ = some (.slice A N c) := cell_of_heap H2.out.box 0
  obtain ⟨X1, hX1, lX1⟩ := H2.out.s.lies.upto Tryd.underlying27 Tryd.sizeSet17 .i64 (i : Int) i rfl (by have := HNN.out; omega)
  obtain ⟨X2, hX2, lX2⟩ := H2.out.s.lies.from Tryd.underlying27 Tryd.sizeSet17 .i64 ((i : Int) + 1) (i + 1) (by omega) (by have := HNN.out; omega)
  have hi0 : (0 : Int) ≤ (i : Int) := by omega
  have hi1 : (i : Int) < (N : Int) := by omega
  have hwr : IntKind.i64.wrap ((i : Int) + 1) = (i : Int) + 1 := IntWalk.i64_in _ (by omega)
  have hu2 : u < w2.heap.size := Nat.lt_of_lt_of_le hu hB2.size
  have hlt : (G.sets.take i).length = i := by rw [List.length_take]; have := HNN.out; omega
  have hld : (G.sets.drop (i + 1)).length ≤ N := by rw [List.length_drop]; have := HNN.out; omega
  obtain ⟨i0, hi', hz0, hz1, hz2⟩ := info_parts Tryd.infoSet17
  have hb3 : Below w2.heap.size w2 (w2.alloc (.cells #[] 63)) := (Below.refl _ _).alloc (Nat.le_refl _) _
  have A1 : Hid (OwnE encSet 63 (w2.alloc (.cells #[] 63)) w.heap.size (.slice (some ⟨w2.heap.size, 0, none⟩) 0 0) []) := Lib.hid (OwnE.none w2 hB2.size)
  have A2 : Hid (LiesE encSet (w2.alloc (.cells #[] 63)) X1 (G.sets.take i)) := Lib.hid (lX1.onB hb3)
  have A3 : Hid (([] : List SetA).length + (G.sets.take i).length ≤ maxLen) := Lib.hid (by rw [hlt]; simp only [List.length_nil, maxLen]; omega)
  have A4 : Hid ((([] : List SetA).length + (G.sets.take i).length) * 56 ≤ 140737488355328) := Lib.hid (by rw [hlt]; simp only [List.length_nil]; omega)
  have A5 : Hid (w.heap.size ≤ (w2.alloc (.cells #[] 63)).heap.size) := Lib.hid (Nat.le_trans hB2.size hb3.size)
  have HL2 := Lib.hid lX2
  have HB2 := Lib.hid hB2
  have HB3 := Lib.hid hb3
  have HLT := Lib.hid hlt
  have HLD := Lib.hid hld
  have HO2 := Lib.hid H2.out.old
  clear lX1 lX2 hB2 hb3 hlt hld hu
  go_wp2_with (first
    | (at_builtin
       refine wpList_append_E (E := encSet) rfl _ _ 27 rfl i0 _ 56 Tryd.underlying27 hi' hz0 hz1 hz2 rfl (by decide) rfl A1.out rfl A2.out A3.out A4.out A5.out ?_
       intro v4 w4 own4 gr4 lo4
       clear hX1 A1 A2 A3 A4 A5 c1
       have hB4 : Below w2.heap.size w2 w4 := HB3.out.grown gr4 (by have := HB3.out.size; omega) (fun k hk => by have e : some w2.heap.size = some k := hk; cases e; exact Nat.le_refl _)
       have hO4 : ∀ k, v4.ownBlock = some k → w2.heap.size ≤ k := fun k hk => by
         rcases lo4 with h | h
         · have e : some w2.heap.size = some k := h.symm.trans hk; cases e; exact Nat.le_refl _
         · rw [h] at hk; simp only [World.size_alloc, Option.some.injEq] at hk; omega
       have H4 := Lib.hid (H2.out.on hB4)
       have c1 : w4.cell? ⟨u, 0, none⟩ = some (.slice A N c) := cell_of_heap H4.out.box 0
       have A1 := Lib.hid own4
       have A2 : Hid (LiesE encSet w4 X2 (G.sets.drop (i + 1))) := Lib.hid (HL2.out.onB hB4)
       have A3 : Hid (([] ++ G.sets.take i).length + (G.sets.drop (i + 1)).length ≤ maxLen) := Lib.hid (by rw [List.nil_append, HLT.out]; have := HLD.out; simp only [maxLen]; omega)
       have A4 : Hid ((([] ++ G.sets.take i).length + (G.sets.drop (i + 1)).length) * 56 ≤ 140737488355328) := Lib.hid (by rw [List.nil_append, HLT.out]; have := HLD.out; omega)
       have A5 : Hid (w.heap.size ≤ w4.heap.size) := Lib.hid (Nat.le_trans HB2.out.size hB4.size)
       have HB4 := Lib.hid hB4
       have HO4 := Lib.hid hO4
       clear own4 gr4 lo4 hB4 hO4 HL2 H2)
    | (at_builtin
       refine wpList_append_E (E := encSet) rfl _ _ 27 rfl i0 _ 56 Tryd.underlying27 hi' hz0 hz1 hz2 rfl (by decide) rfl A1.out rfl A2.out A3.out A4.out A5.out ?_
       intro v5 w5 own5 gr5 lo5
       clear hX2 A1 A2 A3 A4 A5 c1
       have hB5 : Below w2.heap.size w4 w5 := (Below.refl _ _).grown gr5 HB4.out.size (fun k hk => HO4.out k hk)
       have hO5 : ∀ k, v5.ownBlock = some k → w2.heap.size ≤ k := fun k hk => by
         rcases lo5 with h | h
         · rw [h] at hk; exact HO4.out k hk
         · rw [h] at hk; simp only [Option.some.injEq] at hk; have := HB4.out.size; omega
       have H5 := Lib.hid (H4.out.same fun k hk => hB5.block k (HO2.out k hk))
       have cf := frozen_of_heap H5.out.box 0
       have c1 : w5.cell? ⟨u, 0, none⟩ = some (.slice A N c) := cell_of_heap H5.out.box 0
       obtain ⟨A5, c5, rfl⟩ := own5.form
       have O5 := Lib.hid own5
       have HB5 := Lib.hid (HB4.out.trans hB5)
       have HO5 := Lib.hid hO5
       clear own5 gr5 lo5 hB5 hO5 H4 HB4 HO4))
  go_ret
  have hu : u < w2.heap.size := HO2.out u (.inl rfl)
  have huw : u < w.heap.size := HOLD.out u (.inl rfl)
  have hlen : min i G.sets.length + (G.sets.length - (i + 1)) = (closeG G id).sets.length := by rw [← HCUT.out]; simp
  have hl : ([] ++ G.sets.take i ++ G.sets.drop (i + 1)).length = (closeG G id).sets.length := by rw [List.nil_append, HCUT.out]
  have HO := HO5.out
  have h5 := O5.out.base (base' := u + 1) (by omega)
  rw [hl] at HO h5
  rw [List.nil_append, HCUT.out] at h5
  rw [hlen]
  refine ⟨rfl, _, ⟨(heap_setCell_same _ _ _ _ _ _ H5.out.box).trans rfl, ?_, H5.out.t.same fun k hk => ?_, fun k hk e => ?_, HGD.out⟩, fun k hk => Nat.le_trans HB2.out.size (HO k hk), ?_⟩
  · refine OwnE.same h5 fun k hk => heap_setCell_other _ _ _ _ ?_
    have := HO k hk
    show k ≠ u
    omega
  · have := (H5.out.t.lt k hk).1
    exact heap_setCell_other _ _ _ _ (by show k ≠ u; omega)
  · have k1 := HO k hk
    have k2 := HO2.out k (.inr (.inr e))
    omega
  · exact ChP.setCell (P := fun k => k = u) (ad := ⟨u, 0, none⟩) (ChP.of_below (HB2.out.trans (HB5.out.mono HB2.out.size))) (.inl rfl) _
end Go.Proofs.YtbdnfppbiplpmaaDoor

/- The reference's book of envelopes: a set is opened. Condition: the book lies in memory as its rows have it. -/
namespace Go.Proofs.YtbdnfppbiplpmaaDoor
open Go Go.RowKit

/-- Two blocks. -/
def BS (u X : Nat) (o1 o2 : Obj) (W : World) : Prop := W.heap[u]? = some o1 ∧ W.heap[X]? = some o2
theorem BS.on {u X : Nat} {o1 o2 : Obj} {W W' : World} (h : BS u X o1 o2 W) (hb : Below W.heap.size W W') : BS u X o1 o2 W' := ⟨(hb.block u (lt_of_row h.1)).trans h.1, (hb.block X (lt_of_row h.2)).trans h.2⟩
theorem BS.alloc {u X : Nat} {o1 o2 : Obj} {W : World} (h : BS u X o1 o2 W) (o : Obj) : BS u X o1 o2 (W.alloc o) := h.on ((Below.refl _ _).alloc (Nat.le_refl _) _)
theorem BS.grown {u X : Nat} {o1 o2 : Obj} {W W' : World} {r : Option Nat} (h : BS u X o1 o2 W) (hg : W.grownBy W' r) (hr : ∀ k, r = some k → k ≠ u ∧ k ≠ X) : BS u X o1 o2 W' :=
  ⟨(hg.block u (lt_of_row h.1) (fun e => (hr u e.symm).1 rfl)).trans h.1, (hg.block X (lt_of_row h.2) (fun e => (hr X e.symm).2 rfl)).trans h.2⟩
theorem cells_lit {α : Type} {n : Nat} {E : EncK α n} {w : World} {g : Nat} {t : TypeId} (L : List α) (h : w.heap[g]? = some (.cells (cellsE E L).toArray t (0, 0))) : ∀ j u, (cellsE E L)[j]? = some u → w.cell? ((⟨g, 0, none⟩ : Addr).add j) = some u :=
  fun j u hu => by rw [Addr.add_lit, Nat.zero_add, cell_of_heap h, List.getElem?_toArray]; exact hu
def nw (id : Int) (m : Nat) (v : V4) : SetA := ⟨id, m, v, fun _ => false⟩
set_option maxRecDepth 100000 in
set_option maxHeartbeats 6400000 in
/-- Open: it does. -/
theorem rxopen_ok {w : World} {u : Nat} {v1 v2 : Value} {G : AG} (h : RfA w u v1 v2 G) {id n : Int} {v : V4} (hc : (openA G id n v).2 = 0) :
    Calls Tryd.prog 10 #[.pointer (some ⟨u, 0, none⟩), .int .i64 id, .int .i64 n, .agg #[.int .i64 v.a, .int .i64 v.b, .int .i64 v.c, .int .i64 v.d]] w fun e w' => e = .returned (.int .i64 0) ∧ ∃ v1', RfA w' u v1' v2 (openA G id n v).1 ∧ (∀ k, v1'.ownBlock = some k → v1.ownBlock = some k ∨ w.heap.size ≤ k) ∧ ChP (fun k => k = u ∨ v1.ownBlock = some k) w w' := by
  have hbad : ¬ (id < 1 ∨ 999 < id ∨ n < 1 ∨ 8 < n ∨ goodV v = false) := fun hb => by unfold openA at hc; rw [if_pos hb] at hc; simp at hc
  have hsm : setA G id = none := by
    cases e : setA G id with
    | none => rfl
    | some x => unfold openA at hc; rw [if_neg hbad, if_pos (by rw [e]; rfl)] at hc; simp at hc
  have h8 : ¬ 8 ≤ G.sets.length := fun h8 => by unfold openA at hc; rw [if_neg hbad, if_neg (by rw [hsm]; simp), if_pos h8] at hc; simp at hc
  have hgood := h.good.open id n v
  have hG : (openA G id n v).1 = ⟨G.sets ++ [nw id n.toNat v], G.tasks⟩ := by unfold openA; rw [if_neg hbad, if_neg (by rw [hsm]; simp), if_neg h8]; rfl
  rw [hG] at hgood ⊢
  obtain ⟨m, hm⟩ : ∃ m : Nat, n = (m : Int) := ⟨n.toNat, by omega⟩
  subst hm
  rw [Int.toNat_natCast] at hgood ⊢
  have hp : posS G id = -1 := by
    rcases posS_cases h.good id with ⟨hp, _⟩ | ⟨i, x, _, _, _, e⟩
    · exact hp
    · rw [hsm] at e; cases e
  have k1 : decide (id < 1) = false := decide_eq_false fun h => hbad (.inl h)
  have k2 : decide (999 < id) = false := decide_eq_false fun h => hbad (.inr (.inl h))
  have k3 : decide ((m : Int) < 1) = false := decide_eq_false fun h => hbad (.inr (.inr (.inl h)))
  have k4 : decide (8 < (m : Int)) = false := decide_eq_false fun h => hbad (.inr (.inr (.inr (.inl h))))
  have k5 : goodV v = true := by cases hg : goodV v; exact absurd (.inr (.inr (.inr (.inr hg)))) hbad; rfl
  have HG := Lib.hid (fun W => rgood_x v W)
  rw [k5] at HG
  obtain ⟨X, hX⟩ : ∃ X, w.heap.size = X := ⟨_, rfl⟩
  obtain ⟨A, c, hv⟩ := h.s.form
  obtain ⟨N, hN⟩ : ∃ N, G.sets.length = N := ⟨_, rfl⟩
  rw [hN] at hv h8
  subst hv
  have hb1 : Below w.heap.size w (w.alloc (.cells #[.int .i64 v.a, .int .i64 v.b, .int .i64 v.c, .int .i64 v.d] 34)) := (Below.refl _ _).alloc (Nat.le_refl _) _
  obtain ⟨W2, hW2⟩ : ∃ W2, (w.alloc (.cells #[.int .i64 v.a, .int .i64 v.b, .int .i64 v.c, .int .i64 v.d] 34)).alloc (.cells #[.int .i64 v.a, .int .i64 v.b, .int .i64 v.c, .int .i64 v.d] 34) = W2 := ⟨_, rfl⟩
  have hb2 : Below w.heap.size w W2 := by rw [← hW2]; exact hb1.alloc hb1.size _
  have hx2 : W2.heap[X]? = some (.cells #[.int .i64 v.a, .int .i64 v.b, .int .i64 v.c, .int .i64 v.d] 34 (0, 0)) := by rw [← hW2, ← hX]; exact (Below.heap_alloc _ _ _ (by simp)).trans (heap_alloc_new w _)
  have h2 := h.on hb2
  have HF := Lib.hid (rxfind_c h2 id)
  rw [hp] at HF
  have HS2 : Hid (BS u X (.cells #[.slice A N c, v2] 30 (0, 0)) (.cells #[.int .i64 v.a, .int .i64 v.b, .int .i64 v.c, .int .i64 v.d] 34 (0, 0)) W2.drew) := Lib.hid ⟨h2.box, hx2⟩
  have c0 : W2.cell? ⟨u, 0, none⟩ = some (.slice A N c) := cell_of_heap h2.box 0
  have k8 : decide ((8 : Int) ≤ (N : Int)) = false := decide_eq_false (by omega)
  obtain ⟨ii, h0, q0, q1, q2⟩ := info_parts Tryd.infoSet17
  have hbl : Below W2.heap.size W2 (W2.drew.alloc (.cells #[.int .i64 id, .int .i64 (m : Int), .int .i64 v.a, .int .i64 v.b, .int .i64 v.c, .int .i64 v.d, .bool false, .bool false, .bool false, .bool false, .bool false, .bool false, .bool false, .bool false] 63)) := ((Below.refl _ _).drew).alloc (Nat.le_refl _) _
  have A1 : Hid (OwnE encSet 63 (W2.drew.alloc (.cells #[.int .i64 id, .int .i64 (m : Int), .int .i64 v.a, .int .i64 v.b, .int .i64 v.c, .int .i64 v.d, .bool false, .bool false, .bool false, .bool false, .bool false, .bool false, .bool false, .bool false] 63)) (u + 1) (.slice A N c) G.sets) := Lib.hid (h2.s.on hbl)
  have A3 : Hid (G.sets.length + [nw id m v].length ≤ maxLen) := Lib.hid (by rw [hN]; simp only [List.length_singleton, maxLen]; omega)
  have A4 : Hid ((G.sets.length + [nw id m v].length) * 56 ≤ 140737488355328) := Lib.hid (by rw [hN]; simp only [List.length_singleton]; omega)
  have A5 : Hid (u + 1 ≤ (W2.drew.alloc (.cells #[.int .i64 id, .int .i64 (m : Int), .int .i64 v.a, .int .i64 v.b, .int .i64 v.c, .int .i64 v.d, .bool false, .bool false, .bool false, .bool false, .bool false, .bool false, .bool false, .bool false] 63)).heap.size) := Lib.hid (by have k1 := lt_of_row h2.box; have := hbl.size; omega)
  have HNE : Hid (∀ k, (Value.slice A N c).ownBlock = some k → k ≠ u ∧ k ≠ X) := Lib.hid fun k hk => by
    have k1 := h.s.lt k hk
    omega
  have HOLD := Lib.hid h.old
  have HH := Lib.hid h
  have HW2 := Lib.hid hW2
  have HX := Lib.hid hX
  have HB2 := Lib.hid hb2
  have HGD := Lib.hid hgood
  have HBL := Lib.hid hbl
  have H2 := Lib.hid h2
  clear h hbad hsm h8 hgood hG hp k5 hX hN hb1 hb2 hx2 h2 hbl hW2 hc
  go_enter Tryd.func10, Tryd.ntmps10
  go_wp2_with fail
  refine (HG.out _).mono ?_
  rintro e w2 ⟨rfl, rfl⟩
  rw [HW2.out]
  go_wp2_with fail
  refine HF.out.mono ?_
  rintro e w3 ⟨rfl, rfl⟩
  go_upto_region 7 with fail
  rw [HX.out]
  clear k1 k2 k3 k4 k8 c0 HG HF HW2
  refine wp_region_last (z := 13) (S := fun W => BS u X (.cells #[.slice A N c, v2] 30 (0, 0)) (.cells #[.int .i64 v.a, .int .i64 v.b, .int .i64 v.c, .int .i64 v.d] 34 (0, 0)) W) (by kernel_rfl) ?_ (fun hHeld => ?_)
  · exact HS2.out
  refine rgl_take 0 (some 38) _ (by kernel_rfl) (by kernel_rfl) (by kernel_rfl) (by kernel_rfl) (fun _ _ _ h => h) (by kernel_rfl) (by kernel_rfl) (by intro w' hSw op_ ho; obtain ⟨sb, sx⟩ := hSw; have s0 := cell_of_heap sb 0; have x0 := cell_of_heap sx 0; have x1 := cell_of_heap sx 1; have x2 := cell_of_heap sx 2; have x3 := cell_of_heap sx 3; simp only [List.getElem?_toArray, List.getElem?_cons_zero, Option.some.injEq] at ho; subst ho; go_simp; with_reducible rfl) (by assumption) ?_
  try simp only [Act.put, List.setIfInBounds_toArray, List.set_cons_zero, List.set_cons_succ]
  refine rgl_take 1 (some 39) _ (by kernel_rfl) (by kernel_rfl) (by kernel_rfl) (by kernel_rfl) (fun _ _ _ h => h) (by kernel_rfl) (by kernel_rfl) (by intro w' hSw op_ ho; obtain ⟨sb, sx⟩ := hSw; have s0 := cell_of_heap sb 0; have x0 := cell_of_heap sx 0; have x1 := cell_of_heap sx 1; have x2 := cell_of_heap sx 2; have x3 := cell_of_heap sx 3; simp only [List.getElem?_toArray, List.getElem?_cons_succ, List.getElem?_cons_zero, Option.some.injEq] at ho; subst ho; go_simp; with_reducible rfl) (by assumption) ?_
  try simp only [Act.put, List.setIfInBounds_toArray, List.set_cons_zero, List.set_cons_succ]
  refine rgl_take 2 (some 40) _ (by kernel_rfl) (by kernel_rfl) (by kernel_rfl) (by kernel_rfl) (fun _ _ _ h => h) (by kernel_rfl) (by kernel_rfl) (by intro w' hSw op_ ho; obtain ⟨sb, sx⟩ := hSw; have s0 := cell_of_heap sb 0; have x0 := cell_of_heap sx 0; have x1 := cell_of_heap sx 1; have x2 := cell_of_heap sx 2; have x3 := cell_of_heap sx 3; simp only [List.getElem?_toArray, List.getElem?_cons_succ, List.getElem?_cons_zero, Option.some.injEq] at ho; subst ho; go_simp; with_reducible rfl) (by assumption) ?_
  try simp only [Act.put, List.setIfInBounds_toArray, List.set_cons_zero, List.set_cons_succ]
  refine rgl_take 3 (some 41) _ (by kernel_rfl) (by kernel_rfl) (by kernel_rfl) (by kernel_rfl) (fun _ _ _ h => h) (by kernel_rfl) (by kernel_rfl) (by intro w' hSw op_ ho; obtain ⟨sb, sx⟩ := hSw; have s0 := cell_of_heap sb 0; have x0 := cell_of_heap sx 0; have x1 := cell_of_heap sx 1; have x2 := cell_of_heap sx 2; have x3 := cell_of_heap sx 3; simp only [List.getElem?_toArray, List.getElem?_cons_succ, List.getElem?_cons_zero, Option.some.injEq] at ho; subst ho; go_simp; with_reducible rfl) (by assumption) ?_
  try simp only [Act.put, List.setIfInBounds_toArray, List.set_cons_zero, List.set_cons_succ]
  refine rgl_take 4 (some 42) _ (by kernel_rfl) (by kernel_rfl) (by kernel_rfl) (by kernel_rfl) (fun _ _ _ h => h) (by kernel_rfl) (by kernel_rfl) (by intro w' hSw op_ ho; obtain ⟨sb, sx⟩ := hSw; have s0 := cell_of_heap sb 0; have x0 := cell_of_heap sx 0; have x1 := cell_of_heap sx 1; have x2 := cell_of_heap sx 2; have x3 := cell_of_heap sx 3; simp only [List.getElem?_toArray, List.getElem?_cons_succ, List.getElem?_cons_zero, Option.some.injEq] at ho; subst ho; go_simp; with_reducible rfl) (by assumption) ?_
  try simp only [Act.put, List.setIfInBounds_toArray, List.set_cons_zero, List.set_cons_succ]
  refine rgl_take 5 (some 43) _ (by kernel_rfl) (by kernel_rfl) (by kernel_rfl) (by kernel_rfl) (fun _ _ _ h => h) (by kernel_rfl) (by kernel_rfl) (by intro w' hSw op_ ho; obtain ⟨sb, sx⟩ := hSw; have s0 := cell_of_heap sb 0; have x0 := cell_of_heap sx 0; have x1 := cell_of_heap sx 1; have x2 := cell_of_heap sx 2; have x3 := cell_of_heap sx 3; simp only [List.getElem?_toArray, List.getElem?_cons_succ, List.getElem?_cons_zero, Option.some.injEq] at ho; subst ho; go_simp; with_reducible rfl) (by assumption) ?_
  try simp only [Act.put, List.setIfInBounds_toArray, List.set_cons_zero, List.set_cons_succ]
  refine rgl_take 6 (some 44) _ (by kernel_rfl) (by kernel_rfl) (by kernel_rfl) (by kernel_rfl) (fun _ _ _ h => h) (by kernel_rfl) (by kernel_rfl) (by intro w' hSw op_ ho; obtain ⟨sb, sx⟩ := hSw; have s0 := cell_of_heap sb 0; have x0 := cell_of_heap sx 0; have x1 := cell_of_heap sx 1; have x2 := cell_of_heap sx 2; have x3 := cell_of_heap sx 3; simp only [List.getElem?_toArray, List.getElem?_cons_succ, List.getElem?_cons_zero, Option.some.injEq] at ho; subst ho; go_simp; with_reducible rfl) (by assumption) ?_
  try simp only [Act.put, List.setIfInBounds_toArray, List.set_cons_zero, List.set_cons_succ]
  refine rgl_take 7 (some 45) _ (by kernel_rfl) (by kernel_rfl) (by kernel_rfl) (by kernel_rfl) (fun _ _ _ h => h) (by kernel_rfl) (by kernel_rfl) (by intro w' hSw op_ ho; obtain ⟨sb, sx⟩ := hSw; have s0 := cell_of_heap sb 0; have x0 := cell_of_heap sx 0; have x1 := cell_of_heap sx 1; have x2 := cell_of_heap sx 2; have x3 := cell_of_heap sx 3; simp only [List.getElem?_toArray, List.getElem?_cons_succ, List.getElem?_cons_zero, Option.some.injEq] at ho; subst ho; go_simp; with_reducible rfl) (by assumption) ?_
  try simp only [Act.put, List.setIfInBounds_toArray, List.set_cons_zero, List.set_cons_succ]
  refine rgl_take 8 (some 46) _ (by kernel_rfl) (by kernel_rfl) (by kernel_rfl) (by kernel_rfl) (fun _ _ _ h => h) (by kernel_rfl) (by kernel_rfl) (by intro w' hSw op_ ho; obtain ⟨sb, sx⟩ := hSw; have s0 := cell_of_heap sb 0; have x0 := cell_of_heap sx 0; have x1 := cell_of_heap sx 1; have x2 := cell_of_heap sx 2; have x3 := cell_of_heap sx 3; simp only [List.getElem?_toArray, List.getElem?_cons_succ, List.getElem?_cons_zero, Option.some.injEq] at ho; subst ho; go_simp; with_reducible rfl) (by assumption) ?_
  try simp only [Act.put, List.setIfInBounds_toArray, List.set_cons_zero, List.set_cons_succ]
  refine rgl_one 9 (by kernel_rfl) (by kernel_rfl) (by decide) (fun op_ ho K hK => ?_)
  simp only [List.getElem?_toArray, List.getElem?_cons_succ, List.getElem?_cons_zero, Option.some.injEq] at ho
  subst ho
  go_simp
  go_wp2_with fail
  refine hK.out _ _ (by first | exact hHeld | exact BS.alloc hHeld _ | exact HS9.out) (fun hHeld => ?_)
  clear hK
  try simp only [Act.put, List.setIfInBounds_toArray, List.set_cons_zero, List.set_cons_succ]
  refine rgl_one 10 (by kernel_rfl) (by kernel_rfl) (by decide) (fun op_ ho K hK => ?_)
  simp only [List.getElem?_toArray, List.getElem?_cons_succ, List.getElem?_cons_zero, Option.some.injEq] at ho
  subst ho
  have HS6 := Lib.hid hHeld
  refine step_append_E (E := encSet) rfl (.tmp 42) (.tmp 47) _ rfl ii _ 56 Tryd.underlying27 h0 q0 q1 q2 rfl (by decide) (base := u + 1) (v := .slice A N c) (L := G.sets) (M := [nw id m v]) rfl A1.out (ad := ⟨W2.heap.size, 0, none⟩) (c := 1) rfl (cells_lit [nw id m v] (heap_alloc_new W2.drew _)) A3.out A4.out A5.out ?_
  intro v9 w9 own9 gr9 lo9
  obtain ⟨Au, cu, rfl⟩ := own9.form
  have O9 := Lib.hid own9
  have G9 := Lib.hid gr9
  have L9 := Lib.hid lo9
  have HS9 : Hid (BS u X (.cells #[.slice A N c, v2] 30 (0, 0)) (.cells #[.int .i64 v.a, .int .i64 v.b, .int .i64 v.c, .int .i64 v.d] 34 (0, 0)) w9) := Lib.hid (HS6.out.grown gr9 (fun k hk => HNE.out k hk))
  clear own9 gr9 lo9
  refine hK.out _ _ (by first | exact hHeld | exact BS.alloc hHeld _ | exact HS9.out) (fun hHeld => ?_)
  clear hK
  try simp only [Act.put, List.setIfInBounds_toArray, List.set_cons_zero, List.set_cons_succ]
  refine rgl_one 11 (by kernel_rfl) (by kernel_rfl) (by decide) (fun op_ ho K hK => ?_)
  simp only [List.getElem?_toArray, List.getElem?_cons_succ, List.getElem?_cons_zero, Option.some.injEq] at ho
  subst ho
  go_simp
  go_wp2_with fail
  refine hK.out _ _ (by first | exact hHeld | exact BS.alloc hHeld _ | exact HS9.out) (fun hHeld => ?_)
  clear hK
  try simp only [Act.put, List.setIfInBounds_toArray, List.set_cons_zero, List.set_cons_succ]
  refine rgl_take 12 (some 50) _ (by kernel_rfl) (by kernel_rfl) (by kernel_rfl) (by kernel_rfl) (fun _ _ _ h => h) (by kernel_rfl) (by kernel_rfl) (by intro w' hSw op_ ho; obtain ⟨sb, sx⟩ := hSw; have s0 := cell_of_heap sb 0; have x0 := cell_of_heap sx 0; have x1 := cell_of_heap sx 1; have x2 := cell_of_heap sx 2; have x3 := cell_of_heap sx 3; simp only [List.getElem?_toArray, List.getElem?_cons_succ, List.getElem?_cons_zero, Option.some.injEq] at ho; subst ho; go_simp; with_reducible rfl) (by assumption) ?_
  try simp only [Act.put, List.setIfInBounds_toArray, List.set_cons_zero, List.set_cons_succ]
  refine rgl_last (by kernel_rfl) (by kernel_rfl) (by kernel_rfl) (fun op_ ho K hK => ?_)
  simp only [List.getElem?_toArray, List.getElem?_cons_succ, List.getElem?_cons_zero, Option.some.injEq] at ho
  subst ho
  have sf := frozen_of_heap hHeld.1 0
  have s0 := cell_of_heap hHeld.1 0
  go_simp
  clear sf s0
  refine hK.out _ _ ?_
  clear hK
  try simp only [Act.put, List.setIfInBounds_toArray, List.set_cons_zero, List.set_cons_succ]
  go_wp2_with fail
  go_ret
  have hl : (G.sets ++ [nw id m v]).length = G.sets.length + 1 := by simp
  have O9' := O9.out
  rw [hl] at O9'
  have hL9 : ∀ k, (Value.slice Au (G.sets.length + 1) cu).ownBlock = some k → (Value.slice A N c).ownBlock = some k ∨ w.heap.size ≤ k := fun k hk => by
    rcases L9.out with h | h
    · rw [hl] at h; exact .inl (h ▸ hk)
    · rw [hl] at h
      have e : some (W2.drew.alloc (.cells #[.int .i64 id, .int .i64 (m : Int), .int .i64 v.a, .int .i64 v.b, .int .i64 v.c, .int .i64 v.d, .bool false, .bool false, .bool false, .bool false, .bool false, .bool false, .bool false, .bool false] 63)).heap.size = some k := h.symm.trans hk
      have := HBL.out.size
      have := HB2.out.size
      cases e
      exact .inr (by omega)
  have hlu := lt_of_row H2.out.box
  have hch9 : ChP (fun k => k = u ∨ (Value.slice A N c).ownBlock = some k) w w9 := (ChP.of_below (HB2.out.trans (HBL.out.mono HB2.out.size))).grown G9.out (fun k hk => .inl (.inr hk))
  refine ⟨rfl, _, ⟨(heap_setCell_same _ _ _ _ _ _ HS9.out.1).trans rfl, O9'.same fun k hk => heap_setCell_other _ _ _ _ ?_, ?_, fun k hk e => ?_, HGD.out⟩, hL9, hch9.setCell (.inl (.inl rfl)) _⟩
  · have := (O9'.lt k hk).1
    show k ≠ u
    omega
  · refine (HH.out.t.same (w' := w9) fun k hk => ?_).same fun k hk => heap_setCell_other _ _ _ _ ?_
    · refine hch9.block k (HOLD.out k (.inr (.inr hk))) fun hq => ?_
      rcases hq with hq | hq
      · have := (HH.out.t.lt k hk).1; omega
      · exact HH.out.ne k hq hk
    · have := (HH.out.t.lt k hk).1
      show k ≠ u
      omega
  · rcases hL9 k hk with h | h
    · exact HH.out.ne k h e
    · have := HOLD.out k (.inr (.inr e)); omega
end Go.Proofs.YtbdnfppbiplpmaaDoor

/- The reference's book of envelopes: a task goes in. Condition: the book lies in memory as its rows have it. -/
namespace Go.Proofs.YtbdnfppbiplpmaaDoor
open Go Go.RowKit

/-- Three blocks. -/
def BS3 (u X Y : Nat) (o1 o2 o3 : Obj) (W : World) : Prop := W.heap[u]? = some o1 ∧ W.heap[X]? = some o2 ∧ W.heap[Y]? = some o3
theorem BS3.on {u X Y : Nat} {o1 o2 o3 : Obj} {W W' : World} (h : BS3 u X Y o1 o2 o3 W) (hb : Below W.heap.size W W') : BS3 u X Y o1 o2 o3 W' := ⟨(hb.block u (lt_of_row h.1)).trans h.1, (hb.block X (lt_of_row h.2.1)).trans h.2.1, (hb.block Y (lt_of_row h.2.2)).trans h.2.2⟩
theorem BS3.alloc {u X Y : Nat} {o1 o2 o3 : Obj} {W : World} (h : BS3 u X Y o1 o2 o3 W) (o : Obj) : BS3 u X Y o1 o2 o3 (W.alloc o) := h.on ((Below.refl _ _).alloc (Nat.le_refl _) _)
theorem BS3.grown {u X Y : Nat} {o1 o2 o3 : Obj} {W W' : World} {r : Option Nat} (h : BS3 u X Y o1 o2 o3 W) (hg : W.grownBy W' r) (hr : ∀ k, r = some k → k ≠ u ∧ k ≠ X ∧ k ≠ Y) : BS3 u X Y o1 o2 o3 W' :=
  ⟨(hg.block u (lt_of_row h.1) (fun e => (hr u e.symm).1 rfl)).trans h.1, (hg.block X (lt_of_row h.2.1) (fun e => (hr X e.symm).2.1 rfl)).trans h.2.1, (hg.block Y (lt_of_row h.2.2) (fun e => (hr Y e.symm).2.2 rfl)).trans h.2.2⟩
set_option maxRecDepth 100000 in
set_option maxHeartbeats 6400000 in
/-- Put: it does. -/
theorem rxput_ok {w : World} {u : Nat} {v1 v2 : Value} {G : AG} (h : RfA w u v1 v2 G) {t : Tk} {id pos : Int} {v : V4} (hc : (putA G t id pos v).2 = 0) (hn : G.tasks.length ≤ 100000) :
    Calls Tryd.prog 21 #[.pointer (some ⟨u, 0, none⟩), .agg #[.int .i64 t.job, .int .i64 t.ix], .int .i64 id, .int .i64 pos, .agg #[.int .i64 v.a, .int .i64 v.b, .int .i64 v.c, .int .i64 v.d]] w fun e w' => e = .returned (.int .i64 0) ∧ ∃ v2', RfA w' u v1 v2' (putA G t id pos v).1 ∧ (∀ k, v2'.ownBlock = some k → v2.ownBlock = some k ∨ w.heap.size ≤ k) ∧ ChP (fun k => k = u ∨ v2.ownBlock = some k) w w' := by
  obtain ⟨s, e, h1, hg, hup, htk, hft, hG⟩ : ∃ s, setA G id = some s ∧ ¬ (pos < 0 ∨ (s.n : Int) ≤ pos) ∧ goodV v = true ∧ s.up pos = true ∧ tkA G t = none ∧ fitsV v (leftA G s pos) = true ∧ (putA G t id pos v).1 = ⟨G.sets, G.tasks ++ [⟨t, id, pos, v⟩]⟩ := by
    unfold putA at hc ⊢
    cases e : setA G id with
    | none => rw [e] at hc; simp at hc
    | some s =>
      rw [e] at hc
      simp only at hc ⊢
      by_cases k1 : (pos < 0 ∨ (s.n : Int) ≤ pos) ∨ goodV v = false
      · rw [if_pos k1] at hc; simp at hc
      · rw [if_neg k1] at hc ⊢
        by_cases k2 : s.up pos = false
        · rw [if_pos k2] at hc; simp at hc
        · rw [if_neg k2] at hc ⊢
          by_cases k3 : (tkA G t).isSome = true
          · rw [if_pos k3] at hc; simp at hc
          · rw [if_neg k3] at hc ⊢
            by_cases k4 : fitsV v (leftA G s pos) = false
            · rw [if_pos k4] at hc; simp at hc
            · rw [if_neg k4]
              refine ⟨s, rfl, fun h => k1 (.inl h), by cases hg : goodV v; exact absurd (.inr hg) k1; rfl, by simpa using k2, by simpa using k3, by simpa using k4, rfl⟩
  have hgood := h.good.put t id pos v
  rw [hG] at hgood ⊢
  rcases posS_cases h.good id with ⟨_, e'⟩ | ⟨i, s', hp, hi, his, e'⟩
  · rw [e] at e'; cases e'
  obtain rfl := Option.some.inj (e.symm.trans e')
  have ht1 : posT G t = -1 := by
    rcases posT_cases h.good t with ⟨hp, _⟩ | ⟨_, y, _, _, _, e2⟩
    · exact hp
    · rw [htk] at e2; cases e2
  obtain ⟨p, rfl⟩ : ∃ p : Nat, pos = (p : Int) := ⟨pos.toNat, by omega⟩
  have hn8 := (h.good.set s (set_mem h.good e)).2.2.2.1
  have hp8 : p < 8 := by omega
  obtain ⟨X, hX⟩ : ∃ X, w.heap.size = X := ⟨_, rfl⟩
  obtain ⟨Y, hY⟩ : ∃ Y, X + 1 = Y := ⟨_, rfl⟩
  obtain ⟨A0, c0', hv0⟩ := h.s.form
  obtain ⟨M, hM⟩ : ∃ M, G.sets.length = M := ⟨_, rfl⟩
  obtain ⟨A, c, hv⟩ := h.t.form
  obtain ⟨N, hN⟩ : ∃ N, G.tasks.length = N := ⟨_, rfl⟩
  rw [hN] at hv
  rw [hM] at hv0 hi
  subst hv hv0
  obtain ⟨W1, hW1⟩ : ∃ W1, (w.alloc (.cells #[.int .i64 t.job, .int .i64 t.ix] 32)).alloc (.cells #[.int .i64 v.a, .int .i64 v.b, .int .i64 v.c, .int .i64 v.d] 34) = W1 := ⟨_, rfl⟩
  have hb1 : Below w.heap.size w W1 := by rw [← hW1]; exact ((Below.refl _ _).alloc (Nat.le_refl _) _).alloc (by simp) _
  have hx1 : W1.heap[X]? = some (.cells #[.int .i64 t.job, .int .i64 t.ix] 32 (0, 0)) := by rw [← hW1, ← hX]; exact (Below.heap_alloc _ _ _ (by simp)).trans (heap_alloc_new w _)
  have hy1 : W1.heap[Y]? = some (.cells #[.int .i64 v.a, .int .i64 v.b, .int .i64 v.c, .int .i64 v.d] 34 (0, 0)) := by
    have := heap_alloc_new (w.alloc (.cells #[.int .i64 t.job, .int .i64 t.ix] 32)) (.cells #[.int .i64 v.a, .int .i64 v.b, .int .i64 v.c, .int .i64 v.d] 34 (0, 0))
    rw [World.size_alloc, hX, hY] at this
    rw [← hW1]; exact this
  obtain ⟨ad, gs, hA0, ea, -, -, -, -⟩ := h.s.at his
  subst hA0
  have HALL : Hid (∀ W, Below W1.heap.size W1 W → RfA W u (.slice (some ad) M c0') (.slice A N c) G ∧ Below w.heap.size w W ∧ W.heap[X]? = some (.cells #[.int .i64 t.job, .int .i64 t.ix] 32 (0, 0)) ∧ W.heap[Y]? = some (.cells #[.int .i64 v.a, .int .i64 v.b, .int .i64 v.c, .int .i64 v.d] 34 (0, 0))) := Lib.hid fun W hb =>
    ⟨(h.on hb1).on hb, hb1.trans (hb.mono hb1.size), (hb.block X (lt_of_row hx1)).trans hx1, (hb.block Y (lt_of_row hy1)).trans hy1⟩
  have HSC : Hid (∀ W, Below W1.heap.size W1 W → W.cell? ⟨u, 0, none⟩ = some (.slice (some ad) M c0') ∧ W.cell? ⟨gs, i * 14 + 1, none⟩ = some (.int .i64 (s.n : Int)) ∧ W.cell? ⟨gs, i * 14 + 6 + p, none⟩ = some (.bool true)) := Lib.hid fun W hb => by
    obtain ⟨k0, _, k1⟩ := (HALL.out W hb).1.sCell his ea
    refine ⟨k0, k1 1 _ rfl, ?_⟩
    rw [Nat.add_assoc, ← hup]; exact k1 (6 + p) _ (enc_up s hp8)
  have HF : Hid (∀ W, Below W1.heap.size W1 W → Calls Tryd.prog 25 #[.pointer (some ⟨u, 0, none⟩), .int .i64 id] W fun e w' => e = .returned (.int .i64 (i : Int)) ∧ W = w') := Lib.hid fun W hb => by
    have := rxfind_c (HALL.out W hb).1 id
    rw [hp] at this
    exact this
  have HWH : Hid (∀ W, Below W1.heap.size W1 W → Calls Tryd.prog 23 #[.pointer (some ⟨u, 0, none⟩), .agg #[.int .i64 t.job, .int .i64 t.ix]] W fun e w' => e = .returned (.int .i64 (-1)) ∧ Below W1.heap.size W1 w') := Lib.hid fun W hb => by
    have := rxwhere_c (HALL.out W hb).1 t hn
    rw [ht1] at this
    exact this.mono fun _ _ ⟨k1, k2⟩ => ⟨k1, hb.trans (k2.mono hb.size)⟩
  have HLF : Hid (∀ W, Below W1.heap.size W1 W → Calls Tryd.prog 27 #[.pointer (some ⟨u, 0, none⟩), .int .i64 id, .int .i64 (p : Int)] W fun e w' => e = .returned (.agg #[.int .i64 (leftA G s (p : Int)).a, .int .i64 (leftA G s (p : Int)).b, .int .i64 (leftA G s (p : Int)).c, .int .i64 (leftA G s (p : Int)).d]) ∧ Below W1.heap.size W1 w') := Lib.hid fun W hb =>
    (rxleft_c (HALL.out W hb).1 e (p : Int) hn).mono fun _ _ ⟨k1, k2⟩ => ⟨k1, hb.trans (k2.mono hb.size)⟩
  have HFT : Hid (∀ W, Below W1.heap.size W1 W → Calls Tryd.prog 61 #[.agg #[.int .i64 v.a, .int .i64 v.b, .int .i64 v.c, .int .i64 v.d], .agg #[.int .i64 (leftA G s (p : Int)).a, .int .i64 (leftA G s (p : Int)).b, .int .i64 (leftA G s (p : Int)).c, .int .i64 (leftA G s (p : Int)).d]] W fun e w' => e = .returned (.bool true) ∧ Below W1.heap.size W1 w') := Lib.hid fun W hb => by
    have := rfits_c v (leftA G s (p : Int)) W
    rw [hft] at this
    exact this.mono fun _ _ ⟨k1, k2⟩ => ⟨k1, hb.trans (k2.mono hb.size)⟩
  have HG : Hid (∀ W, Below W1.heap.size W1 W → Calls Tryd.prog 57 #[.agg #[.int .i64 v.a, .int .i64 v.b, .int .i64 v.c, .int .i64 v.d]] W fun e w' => e = .returned (.bool true) ∧ Below W1.heap.size W1 w') := Lib.hid fun W hb => by
    have := rgood_x v W
    rw [hg] at this
    exact this.mono fun _ _ ⟨k1, k2⟩ => ⟨k1, by rw [k2]; exact hb.alloc hb.size _⟩
  have i0 : (0 : Int) ≤ (i : Int) := by omega
  have i1 : (i : Int) < (M : Int) := by omega
  have p0 : (0 : Int) ≤ (p : Int) := by omega
  have p8 : (p : Int) < 8 := by omega
  have d1 : decide ((p : Int) < 0) = false := decide_eq_false (by omega)
  have d2 : decide ((s.n : Int) ≤ (p : Int)) = false := decide_eq_false (by omega)
  have d2n : decide (s.n ≤ p) = false := decide_eq_false (by omega)
  have hau : (⟨gs, i * 14 + 6, none⟩ : Addr).add p = ⟨gs, i * 14 + 6 + p, none⟩ := Addr.add_lit ..
  obtain ⟨l, hl⟩ : ∃ l, leftA G s (p : Int) = l := ⟨_, rfl⟩
  rw [hl] at HLF HFT
  have HX := Lib.hid hX
  have HY := Lib.hid hY
  have HW1 := Lib.hid hW1
  have HGD := Lib.hid hgood
  have HH := Lib.hid h
  have HB1 := Lib.hid hb1
  have HN := Lib.hid hN
  have HNL := Lib.hid hn
  clear h e e' h1 hg hup htk hft hG hgood hp hi his ht1 hn8 hp8 hX hY hM hN hW1 hb1 hx1 hy1 hn hc hl
  go_enter Tryd.func21, Tryd.ntmps21
  go_upto_region 1 with fail
  rw [HX.out, HY.out, HW1.out]
  obtain ⟨c0, x1, xu⟩ := HSC.out W1 (Below.refl _ _)
  have y := (HALL.out W1 (Below.refl _ _)).2.2.2
  have y0 : W1.cell? ⟨Y, 0, none⟩ = some (.int .i64 v.a) := cell_of_heap y 0
  have y1 : W1.cell? ⟨Y, 1, none⟩ = some (.int .i64 v.b) := cell_of_heap y 1
  have y2 : W1.cell? ⟨Y, 2, none⟩ = some (.int .i64 v.c) := cell_of_heap y 2
  have y3 : W1.cell? ⟨Y, 3, none⟩ = some (.int .i64 v.d) := cell_of_heap y 3
  clear y
  go_wp2_with fail
  refine (HF.out _ (Below.refl _ _)).mono ?_
  rintro e wf ⟨rfl, rfl⟩
  go_wp2_with fail
  refine (HG.out _ (Below.refl _ _)).mono ?_
  rintro e w2 ⟨rfl, b2⟩
  have HB2 := Lib.hid b2
  clear c0 x1 xu y0 y1 y2 y3
  obtain ⟨c0, x1, xu⟩ := HSC.out w2 b2
  have xx := (HALL.out w2 b2).2.2.1
  have t0 := cell_of_heap xx 0
  have t1 := cell_of_heap xx 1
  clear xx b2
  go_wp2_with fail
  refine (HWH.out _ HB2.out).mono ?_
  rintro e w3 ⟨rfl, b3⟩
  have HB3 := Lib.hid b3
  clear b3 c0 x1 xu t0 t1 HB2
  have HYC : Hid (∀ W, Below W1.heap.size W1 W → W.cell? ⟨Y, 0, none⟩ = some (.int .i64 v.a) ∧ W.cell? ⟨Y, 1, none⟩ = some (.int .i64 v.b) ∧ W.cell? ⟨Y, 2, none⟩ = some (.int .i64 v.c) ∧ W.cell? ⟨Y, 3, none⟩ = some (.int .i64 v.d)) := Lib.hid fun W hb => by
    have y := (HALL.out W hb).2.2.2
    exact ⟨cell_of_heap y 0, cell_of_heap y 1, cell_of_heap y 2, cell_of_heap y 3⟩
  have S3 := Lib.hid (HYC.out w3 HB3.out)
  go_upto_region 10 with fail
  go_region_held3 (fun W => W.cell? ⟨Y, 0, none⟩ = some (.int .i64 v.a) ∧ W.cell? ⟨Y, 1, none⟩ = some (.int .i64 v.b) ∧ W.cell? ⟨Y, 2, none⟩ = some (.int .i64 v.c) ∧ W.cell? ⟨Y, 3, none⟩ = some (.int .i64 v.d))
    (first | exact S3.out | exact S4.out | exact S5.out)
    (first
      | (go_at_call 27; refine (HLF.out _ (by first | exact HB3.out | exact HB3.out.drew)).mono ?_; rintro e w4 ⟨rfl, b4⟩; have HB4 := Lib.hid b4; have S4 := Lib.hid (HYC.out w4 b4); clear b4)
      | (go_at_call 61; refine (HFT.out _ HB4.out).mono ?_; rintro e w5 ⟨rfl, b5⟩; have HB5 := Lib.hid b5; have S5 := Lib.hid (HYC.out w5 b5); clear b5))
  all_goals clear d1 d2 d2n hau i0 i1 p0 p8 HF HWH HLF HFT HG HSC S3 S4 S5 HB3 HB4 ea
  all_goals (
    go_wp2_with fail
    obtain ⟨h5, hb5, hx5, hy5⟩ := HALL.out w5 HB5.out
    have HS5 : Hid (BS3 u X Y (.cells #[.slice (some ad) M c0', .slice A N c] 30 (0, 0)) (.cells #[.int .i64 t.job, .int .i64 t.ix] 32 (0, 0)) (.cells #[.int .i64 v.a, .int .i64 v.b, .int .i64 v.c, .int .i64 v.d] 34 (0, 0)) w5.drew) := Lib.hid ⟨h5.box, hx5, hy5⟩
    obtain ⟨ii, h0, q0, q1, q2⟩ := info_parts Tryd.infoIn17
    have hbl : Below w5.heap.size w5 (w5.drew.alloc (.cells #[.int .i64 t.job, .int .i64 t.ix, .int .i64 id, .int .i64 (p : Int), .int .i64 v.a, .int .i64 v.b, .int .i64 v.c, .int .i64 v.d] 58)) := ((Below.refl _ _).drew).alloc (Nat.le_refl _) _
    have A1 : Hid (OwnE encIn 58 (w5.drew.alloc (.cells #[.int .i64 t.job, .int .i64 t.ix, .int .i64 id, .int .i64 (p : Int), .int .i64 v.a, .int .i64 v.b, .int .i64 v.c, .int .i64 v.d] 58)) (u + 1) (.slice A N c) G.tasks) := Lib.hid (h5.t.on hbl)
    have A3 : Hid (G.tasks.length + [(⟨t, id, (p : Int), v⟩ : InA)].length ≤ maxLen) := Lib.hid (by have := HNL.out; simp only [List.length_singleton, maxLen]; omega)
    have A4 : Hid ((G.tasks.length + [(⟨t, id, (p : Int), v⟩ : InA)].length) * 64 ≤ 140737488355328) := Lib.hid (by have := HNL.out; simp only [List.length_singleton]; omega)
    have A5 : Hid (u + 1 ≤ (w5.drew.alloc (.cells #[.int .i64 t.job, .int .i64 t.ix, .int .i64 id, .int .i64 (p : Int), .int .i64 v.a, .int .i64 v.b, .int .i64 v.c, .int .i64 v.d] 58)).heap.size) := Lib.hid (by have k1 := lt_of_row h5.box; have := hbl.size; omega)
    have HNE : Hid (∀ k, (Value.slice A N c).ownBlock = some k → k ≠ u ∧ k ≠ X ∧ k ≠ Y) := Lib.hid fun k hk => by
      have k1 := HH.out.t.lt k hk
      have k2 := HX.out
      have k3 := HY.out
      omega
    have HOLD := Lib.hid HH.out.old
    have HB5' := Lib.hid hb5
    have HBL := Lib.hid hbl
    have H5 := Lib.hid h5
    clear h5 hb5 hx5 hy5 hbl
    go_upto_region 12 with fail
    refine wp_region_last (z := 14) (S := fun W => BS3 u X Y (.cells #[.slice (some ad) M c0', .slice A N c] 30 (0, 0)) (.cells #[.int .i64 t.job, .int .i64 t.ix] 32 (0, 0)) (.cells #[.int .i64 v.a, .int .i64 v.b, .int .i64 v.c, .int .i64 v.d] 34 (0, 0)) W) (by kernel_rfl) ?_ (fun hHeld => ?_)
    · exact ⟨HS5.out.1, HS5.out.2.1, HS5.out.2.2⟩
    refine rgl_take 0 (some 58) _ (by kernel_rfl) (by kernel_rfl) (by kernel_rfl) (by kernel_rfl) (fun _ _ _ h => h) (by kernel_rfl) (by kernel_rfl) (by intro w' hSw op_ ho; obtain ⟨sb, sx, sy⟩ := hSw; have s0 := cell_of_heap sb 1; have x0 := cell_of_heap sx 0; have x1 := cell_of_heap sx 1; have y0 := cell_of_heap sy 0; have y1 := cell_of_heap sy 1; have y2 := cell_of_heap sy 2; have y3 := cell_of_heap sy 3; simp only [List.getElem?_toArray, List.getElem?_cons_zero, Option.some.injEq] at ho; subst ho; go_simp; with_reducible rfl) (by assumption) ?_
    try simp only [Act.put, List.setIfInBounds_toArray, List.set_cons_zero, List.set_cons_succ]
    refine rgl_take 1 (some 59) _ (by kernel_rfl) (by kernel_rfl) (by kernel_rfl) (by kernel_rfl) (fun _ _ _ h => h) (by kernel_rfl) (by kernel_rfl) (by intro w' hSw op_ ho; obtain ⟨sb, sx, sy⟩ := hSw; have s0 := cell_of_heap sb 1; have x0 := cell_of_heap sx 0; have x1 := cell_of_heap sx 1; have y0 := cell_of_heap sy 0; have y1 := cell_of_heap sy 1; have y2 := cell_of_heap sy 2; have y3 := cell_of_heap sy 3; simp only [List.getElem?_toArray, List.getElem?_cons_succ, List.getElem?_cons_zero, Option.some.injEq] at ho; subst ho; go_simp; with_reducible rfl) (by assumption) ?_
    try simp only [Act.put, List.setIfInBounds_toArray, List.set_cons_zero, List.set_cons_succ]
    refine rgl_take 2 (some 60) _ (by kernel_rfl) (by kernel_rfl) (by kernel_rfl) (by kernel_rfl) (fun _ _ _ h => h) (by kernel_rfl) (by kernel_rfl) (by intro w' hSw op_ ho; obtain ⟨sb, sx, sy⟩ := hSw; have s0 := cell_of_heap sb 1; have x0 := cell_of_heap sx 0; have x1 := cell_of_heap sx 1; have y0 := cell_of_heap sy 0; have y1 := cell_of_heap sy 1; have y2 := cell_of_heap sy 2; have y3 := cell_of_heap sy 3; simp only [List.getElem?_toArray, List.getElem?_cons_succ, List.getElem?_cons_zero, Option.some.injEq] at ho; subst ho; go_simp; with_reducible rfl) (by assumption) ?_
    try simp only [Act.put, List.setIfInBounds_toArray, List.set_cons_zero, List.set_cons_succ]
    refine rgl_take 3 (some 61) _ (by kernel_rfl) (by kernel_rfl) (by kernel_rfl) (by kernel_rfl) (fun _ _ _ h => h) (by kernel_rfl) (by kernel_rfl) (by intro w' hSw op_ ho; obtain ⟨sb, sx, sy⟩ := hSw; have s0 := cell_of_heap sb 1; have x0 := cell_of_heap sx 0; have x1 := cell_of_heap sx 1; have y0 := cell_of_heap sy 0; have y1 := cell_of_heap sy 1; have y2 := cell_of_heap sy 2; have y3 := cell_of_heap sy 3; simp only [List.getElem?_toArray, List.getElem?_cons_succ, List.getElem?_cons_zero, Option.some.injEq] at ho; subst ho; go_simp; with_reducible rfl) (by assumption) ?_
    try simp only [Act.put, List.setIfInBounds_toArray, List.set_cons_zero, List.set_cons_succ]
    refine rgl_take 4 (some 62) _ (by kernel_rfl) (by kernel_rfl) (by kernel_rfl) (by kernel_rfl) (fun _ _ _ h => h) (by kernel_rfl) (by kernel_rfl) (by intro w' hSw op_ ho; obtain ⟨sb, sx, sy⟩ := hSw; have s0 := cell_of_heap sb 1; have x0 := cell_of_heap sx 0; have x1 := cell_of_heap sx 1; have y0 := cell_of_heap sy 0; have y1 := cell_of_heap sy 1; have y2 := cell_of_heap sy 2; have y3 := cell_of_heap sy 3; simp only [List.getElem?_toArray, List.getElem?_cons_succ, List.getElem?_cons_zero, Option.some.injEq] at ho; subst ho; go_simp; with_reducible rfl) (by assumption) ?_
    try simp only [Act.put, List.setIfInBounds_toArray, List.set_cons_zero, List.set_cons_succ]
    refine rgl_take 5 (some 63) _ (by kernel_rfl) (by kernel_rfl) (by kernel_rfl) (by kernel_rfl) (fun _ _ _ h => h) (by kernel_rfl) (by kernel_rfl) (by intro w' hSw op_ ho; obtain ⟨sb, sx, sy⟩ := hSw; have s0 := cell_of_heap sb 1; have x0 := cell_of_heap sx 0; have x1 := cell_of_heap sx 1; have y0 := cell_of_heap sy 0; have y1 := cell_of_heap sy 1; have y2 := cell_of_heap sy 2; have y3 := cell_of_heap sy 3; simp only [List.getElem?_toArray, List.getElem?_cons_succ, List.getElem?_cons_zero, Option.some.injEq] at ho; subst ho; go_simp; with_reducible rfl) (by assumption) ?_
    try simp only [Act.put, List.setIfInBounds_toArray, List.set_cons_zero, List.set_cons_succ]
    refine rgl_take 6 (some 64) _ (by kernel_rfl) (by kernel_rfl) (by kernel_rfl) (by kernel_rfl) (fun _ _ _ h => h) (by kernel_rfl) (by kernel_rfl) (by intro w' hSw op_ ho; obtain ⟨sb, sx, sy⟩ := hSw; have s0 := cell_of_heap sb 1; have x0 := cell_of_heap sx 0; have x1 := cell_of_heap sx 1; have y0 := cell_of_heap sy 0; have y1 := cell_of_heap sy 1; have y2 := cell_of_heap sy 2; have y3 := cell_of_heap sy 3; simp only [List.getElem?_toArray, List.getElem?_cons_succ, List.getElem?_cons_zero, Option.some.injEq] at ho; subst ho; go_simp; with_reducible rfl) (by assumption) ?_
    try simp only [Act.put, List.setIfInBounds_toArray, List.set_cons_zero, List.set_cons_succ]
    refine rgl_take 7 (some 65) _ (by kernel_rfl) (by kernel_rfl) (by kernel_rfl) (by kernel_rfl) (fun _ _ _ h => h) (by kernel_rfl) (by kernel_rfl) (by intro w' hSw op_ ho; obtain ⟨sb, sx, sy⟩ := hSw; have s0 := cell_of_heap sb 1; have x0 := cell_of_heap sx 0; have x1 := cell_of_heap sx 1; have y0 := cell_of_heap sy 0; have y1 := cell_of_heap sy 1; have y2 := cell_of_heap sy 2; have y3 := cell_of_heap sy 3; simp only [List.getElem?_toArray, List.getElem?_cons_succ, List.getElem?_cons_zero, Option.some.injEq] at ho; subst ho; go_simp; with_reducible rfl) (by assumption) ?_
    try simp only [Act.put, List.setIfInBounds_toArray, List.set_cons_zero, List.set_cons_succ]
    refine rgl_take 8 (some 66) _ (by kernel_rfl) (by kernel_rfl) (by kernel_rfl) (by kernel_rfl) (fun _ _ _ h => h) (by kernel_rfl) (by kernel_rfl) (by intro w' hSw op_ ho; obtain ⟨sb, sx, sy⟩ := hSw; have s0 := cell_of_heap sb 1; have x0 := cell_of_heap sx 0; have x1 := cell_of_heap sx 1; have y0 := cell_of_heap sy 0; have y1 := cell_of_heap sy 1; have y2 := cell_of_heap sy 2; have y3 := cell_of_heap sy 3; simp only [List.getElem?_toArray, List.getElem?_cons_succ, List.getElem?_cons_zero, Option.some.injEq] at ho; subst ho; go_simp; with_reducible rfl) (by assumption) ?_
    try simp only [Act.put, List.setIfInBounds_toArray, List.set_cons_zero, List.set_cons_succ]
    refine rgl_take 9 (some 67) _ (by kernel_rfl) (by kernel_rfl) (by kernel_rfl) (by kernel_rfl) (fun _ _ _ h => h) (by kernel_rfl) (by kernel_rfl) (by intro w' hSw op_ ho; obtain ⟨sb, sx, sy⟩ := hSw; have s0 := cell_of_heap sb 1; have x0 := cell_of_heap sx 0; have x1 := cell_of_heap sx 1; have y0 := cell_of_heap sy 0; have y1 := cell_of_heap sy 1; have y2 := cell_of_heap sy 2; have y3 := cell_of_heap sy 3; simp only [List.getElem?_toArray, List.getElem?_cons_succ, List.getElem?_cons_zero, Option.some.injEq] at ho; subst ho; go_simp; with_reducible rfl) (by assumption) ?_
    try simp only [Act.put, List.setIfInBounds_toArray, List.set_cons_zero, List.set_cons_succ]
    refine rgl_one 10 (by kernel_rfl) (by kernel_rfl) (by decide) (fun op_ ho K hK => ?_)
    simp only [List.getElem?_toArray, List.getElem?_cons_succ, List.getElem?_cons_zero, Option.some.injEq] at ho
    subst ho
    go_simp
    go_wp2_with fail
    refine hK.out _ _ (by first | exact hHeld | exact BS3.alloc hHeld _ | exact HS9.out) (fun hHeld => ?_)
    clear hK
    try simp only [Act.put, List.setIfInBounds_toArray, List.set_cons_zero, List.set_cons_succ]
    refine rgl_one 11 (by kernel_rfl) (by kernel_rfl) (by decide) (fun op_ ho K hK => ?_)
    simp only [List.getElem?_toArray, List.getElem?_cons_succ, List.getElem?_cons_zero, Option.some.injEq] at ho
    subst ho
    have HS6 := Lib.hid hHeld
    refine step_append_E (E := encIn) rfl (.tmp 62) (.tmp 68) _ rfl ii _ 64 Tryd.underlying28 h0 q0 q1 q2 rfl (by decide) (base := u + 1) (v := .slice A N c) (L := G.tasks) (M := [(⟨t, id, (p : Int), v⟩ : InA)]) rfl A1.out (ad := ⟨w5.heap.size, 0, none⟩) (c := 1) rfl (cells_lit [(⟨t, id, (p : Int), v⟩ : InA)] (heap_alloc_new w5.drew _)) A3.out A4.out A5.out ?_
    intro v9 w9 own9 gr9 lo9
    obtain ⟨Au, cu, rfl⟩ := own9.form
    have O9 := Lib.hid own9
    have G9 := Lib.hid gr9
    have L9 := Lib.hid lo9
    have HS9 : Hid (BS3 u X Y (.cells #[.slice (some ad) M c0', .slice A N c] 30 (0, 0)) (.cells #[.int .i64 t.job, .int .i64 t.ix] 32 (0, 0)) (.cells #[.int .i64 v.a, .int .i64 v.b, .int .i64 v.c, .int .i64 v.d] 34 (0, 0)) w9) := Lib.hid (HS6.out.grown gr9 (fun k hk => HNE.out k hk))
    clear own9 gr9 lo9
    refine hK.out _ _ (by first | exact hHeld | exact BS3.alloc hHeld _ | exact HS9.out) (fun hHeld => ?_)
    clear hK
    try simp only [Act.put, List.setIfInBounds_toArray, List.set_cons_zero, List.set_cons_succ]
    refine rgl_one 12 (by kernel_rfl) (by kernel_rfl) (by decide) (fun op_ ho K hK => ?_)
    simp only [List.getElem?_toArray, List.getElem?_cons_succ, List.getElem?_cons_zero, Option.some.injEq] at ho
    subst ho
    go_simp
    go_wp2_with fail
    refine hK.out _ _ (by first | exact hHeld | exact BS3.alloc hHeld _ | exact HS9.out) (fun hHeld => ?_)
    clear hK
    try simp only [Act.put, List.setIfInBounds_toArray, List.set_cons_zero, List.set_cons_succ]
    refine rgl_take 13 (some 71) _ (by kernel_rfl) (by kernel_rfl) (by kernel_rfl) (by kernel_rfl) (fun _ _ _ h => h) (by kernel_rfl) (by kernel_rfl) (by intro w' hSw op_ ho; obtain ⟨sb, sx, sy⟩ := hSw; have s0 := cell_of_heap sb 1; have x0 := cell_of_heap sx 0; have x1 := cell_of_heap sx 1; have y0 := cell_of_heap sy 0; have y1 := cell_of_heap sy 1; have y2 := cell_of_heap sy 2; have y3 := cell_of_heap sy 3; simp only [List.getElem?_toArray, List.getElem?_cons_succ, List.getElem?_cons_zero, Option.some.injEq] at ho; subst ho; go_simp; with_reducible rfl) (by assumption) ?_
    try simp only [Act.put, List.setIfInBounds_toArray, List.set_cons_zero, List.set_cons_succ]
    refine rgl_last (by kernel_rfl) (by kernel_rfl) (by kernel_rfl) (fun op_ ho K hK => ?_)
    simp only [List.getElem?_toArray, List.getElem?_cons_succ, List.getElem?_cons_zero, Option.some.injEq] at ho
    subst ho
    have sf := frozen_of_heap hHeld.1 1
    have s0 := cell_of_heap hHeld.1 1
    go_simp
    clear sf s0
    refine hK.out _ _ ?_
    clear hK
    try simp only [Act.put, List.setIfInBounds_toArray, List.set_cons_zero, List.set_cons_succ]
    go_wp2_with fail
    go_ret
    have hl : (G.tasks ++ [(⟨t, id, (p : Int), v⟩ : InA)]).length = G.tasks.length + 1 := by simp
    have O9' := O9.out
    rw [hl] at O9'
    have hL9 : ∀ k, (Value.slice Au (G.tasks.length + 1) cu).ownBlock = some k → (Value.slice A N c).ownBlock = some k ∨ w.heap.size ≤ k := fun k hk => by
      rcases L9.out with h | h
      · rw [hl] at h; exact .inl (h ▸ hk)
      · rw [hl] at h
        have e : some (w5.drew.alloc (.cells #[.int .i64 t.job, .int .i64 t.ix, .int .i64 id, .int .i64 (p : Int), .int .i64 v.a, .int .i64 v.b, .int .i64 v.c, .int .i64 v.d] 58)).heap.size = some k := h.symm.trans hk
        have := HBL.out.size
        have := HB5'.out.size
        cases e
        exact .inr (by omega)
    have hlu := lt_of_row H5.out.box
    have hch9 : ChP (fun k => k = u ∨ (Value.slice A N c).ownBlock = some k) w w9 := (ChP.of_below (HB5'.out.trans (HBL.out.mono HB5'.out.size))).grown G9.out (fun k hk => .inl (.inr hk))
    refine ⟨rfl, _, ⟨(heap_setCell_same _ _ _ _ _ _ HS9.out.1).trans rfl, ?_, O9'.same fun k hk => heap_setCell_other _ _ _ _ ?_, fun k hk e => ?_, HGD.out⟩, hL9, hch9.setCell (.inl (.inl rfl)) _⟩
    · refine (HH.out.s.same (w' := w9) fun k hk => ?_).same fun k hk => heap_setCell_other _ _ _ _ ?_
      · refine hch9.block k (HOLD.out k (.inr (.inl hk))) fun hq => ?_
        rcases hq with hq | hq
        · have := (HH.out.s.lt k hk).1; omega
        · exact HH.out.ne k hk hq
      · have := (HH.out.s.lt k hk).1
        show k ≠ u
        omega
    · have := (O9'.lt k hk).1
      show k ≠ u
      omega
    · rcases hL9 k e with h | h
      · exact HH.out.ne k hk h
      · have := HOLD.out k (.inr (.inl hk)); omega)
end Go.Proofs.YtbdnfppbiplpmaaDoor

/- The reference's book of envelopes, each method whatever it answers. Condition: the book lies in memory as its rows have it. -/
namespace Go.Proofs.YtbdnfppbiplpmaaDoor
open Go Go.RowKit

theorem ChP.wider {P Q : Nat → Prop} {a b : World} (h : ChP P a b) (hq : ∀ k, P k → Q k) : ChP Q a b := ⟨h.os, h.tape, h.output, h.size, fun k hk hn => h.block k hk fun hp => hn (hq k hp)⟩
/-- The reference's book, its blocks by a predicate. -/
def RfW (w : World) (Q : Nat → Prop) (u : Nat) (G : AG) : Prop := ∃ v1 v2, RfA w u v1 v2 G ∧ (∀ k, RfQ u v1 v2 k → Q k) ∧ ∀ k, Q k → k < w.heap.size
section
variable {w w' : World} {Q : Nat → Prop} {u : Nat} {G : AG}
theorem RfW.good (h : RfW w Q u G) : GA G := by obtain ⟨_, _, k, _⟩ := h; exact k.good
theorem RfW.old (h : RfW w Q u G) : ∀ k, Q k → k < w.heap.size := by obtain ⟨_, _, _, _, k⟩ := h; exact k
theorem RfW.far {R : Nat → Prop} (h : RfW w Q u G) (hc : ChP R w w') (hR : ∀ k, Q k → ¬ R k) : RfW w' Q u G := by
  obtain ⟨v1, v2, h, hQ, hO⟩ := h
  exact ⟨v1, v2, h.same fun k hk => hc.block k (h.old k hk) (hR k (hQ k hk)), hQ, fun k hk => Nat.lt_of_lt_of_le (hO k hk) hc.size⟩
theorem RfW.on (h : RfW w Q u G) (hb : Below w.heap.size w w') : RfW w' Q u G := h.far (ChP.of_below (P := fun _ => False) hb) fun _ _ h => h
/-- What a method makes of it. -/
def RfThen (w w' : World) (Q : Nat → Prop) (u : Nat) (G' : AG) : Prop := ∃ Q', RfW w' Q' u G' ∧ (∀ k, Q' k → Q k ∨ w.heap.size ≤ k) ∧ ChP Q w w'
theorem RfThen.same (h : RfW w Q u G) (hb : Below w.heap.size w w') : RfThen w w' Q u G := ⟨Q, h.on hb, fun _ hk => .inl hk, ChP.of_below hb⟩
theorem RfThen.turn {v1 v2 v1' v2' : Value} {G' : AG} (h : RfA w u v1 v2 G) (hQ : ∀ k, RfQ u v1 v2 k → Q k) (hO : ∀ k, Q k → k < w.heap.size) (k' : RfA w' u v1' v2' G')
    (n1 : ∀ k, v1'.ownBlock = some k → v1.ownBlock = some k ∨ w.heap.size ≤ k) (n2 : ∀ k, v2'.ownBlock = some k → v2.ownBlock = some k ∨ w.heap.size ≤ k) (hc : ChP (RfQ u v1 v2) w w') : RfThen w w' Q u G' := by
  refine ⟨fun k => Q k ∨ (w.heap.size ≤ k ∧ k < w'.heap.size), ⟨v1', v2', k', fun k hk => ?_, fun k hk => ?_⟩, fun k hk => ?_, hc.wider hQ⟩
  · have hlt := k'.old k hk
    rcases hk with hk | hk | hk
    · exact .inl (hQ k (.inl hk))
    · rcases n1 k hk with h1 | h1
      · exact .inl (hQ k (.inr (.inl h1)))
      · exact .inr ⟨h1, hlt⟩
    · rcases n2 k hk with h1 | h1
      · exact .inl (hQ k (.inr (.inr h1)))
      · exact .inr ⟨h1, hlt⟩
  · rcases hk with hk | hk
    · exact Nat.lt_of_lt_of_le (hO k hk) hc.size
    · exact hk.2
  · rcases hk with hk | hk
    · exact .inl hk
    · exact .inr hk.1
theorem putA_same (G : AG) (t : Tk) (id pos : Int) (v : V4) (h : (putA G t id pos v).2 ≠ 0) : (putA G t id pos v).1 = G := by
  revert h
  unfold putA
  cases setA G id with
  | none => intro _; rfl
  | some s => simp only; (repeat' split) <;> intro h <;> first | rfl | exact absurd rfl h
theorem openA_same (G : AG) (id n : Int) (v : V4) (h : (openA G id n v).2 ≠ 0) : (openA G id n v).1 = G := by
  unfold openA at h ⊢; (repeat' split at h) <;> (repeat' split) <;> simp_all
theorem closeA_same (G : AG) (id : Int) (h : (closeA G id).2 ≠ 0) : (closeA G id).1 = G := by
  unfold closeA at h ⊢; (repeat' split at h) <;> (repeat' split) <;> simp_all
theorem turnA_same (G : AG) (id pos : Int) (b : Bool) (h : (turnA G id pos b).2 ≠ 0) : (turnA G id pos b).1 = G := by
  revert h
  unfold turnA
  cases setA G id with
  | none => intro _; rfl
  | some s => simp only; (repeat' split) <;> intro h <;> first | rfl | exact absurd rfl h
theorem turnA_turns (G : AG) (id pos : Int) (b : Bool) (h : (turnA G id pos b).2 = 0) : (turnA G id pos b).1 = turnG G id pos b := by
  revert h
  unfold turnA
  cases setA G id with
  | none => intro h; simp at h
  | some s => simp only; (repeat' split) <;> intro h <;> first | rfl | (simp at h)
theorem RfW.put_c (h : RfW w Q u G) (t : Tk) (id pos : Int) (v : V4) (hn : G.tasks.length ≤ 100000) :
    Calls Tryd.prog 21 #[.pointer (some ⟨u, 0, none⟩), .agg #[.int .i64 t.job, .int .i64 t.ix], .int .i64 id, .int .i64 pos, .agg #[.int .i64 v.a, .int .i64 v.b, .int .i64 v.c, .int .i64 v.d]] w fun e w' => e = .returned (.int .i64 ((putA G t id pos v).2 : Nat)) ∧ RfThen w w' Q u (putA G t id pos v).1 := by
  have hW := h
  obtain ⟨v1, v2, h, hQ, hO⟩ := h
  by_cases hc : (putA G t id pos v).2 = 0
  · refine (rxput_ok h hc hn).mono ?_
    rintro e w' ⟨rfl, v2', k', n2, hch⟩
    exact ⟨by rw [hc]; rfl, RfThen.turn h hQ hO k' (fun _ hk => .inl hk) n2 (hch.wider fun k hk => hk.elim .inl (fun h => .inr (.inr h)))⟩
  · refine (rxput_no h t id pos v hn hc).mono ?_
    rintro e w' ⟨rfl, hb⟩
    rw [putA_same G t id pos v hc]
    exact ⟨rfl, RfThen.same hW hb⟩
theorem RfW.open_c (h : RfW w Q u G) (id n : Int) (v : V4) :
    Calls Tryd.prog 10 #[.pointer (some ⟨u, 0, none⟩), .int .i64 id, .int .i64 n, .agg #[.int .i64 v.a, .int .i64 v.b, .int .i64 v.c, .int .i64 v.d]] w fun e w' => e = .returned (.int .i64 ((openA G id n v).2 : Nat)) ∧ RfThen w w' Q u (openA G id n v).1 := by
  have hW := h
  obtain ⟨v1, v2, h, hQ, hO⟩ := h
  by_cases hc : (openA G id n v).2 = 0
  · refine (rxopen_ok h hc).mono ?_
    rintro e w' ⟨rfl, v1', k', n1, hch⟩
    exact ⟨by rw [hc]; rfl, RfThen.turn h hQ hO k' n1 (fun _ hk => .inl hk) (hch.wider fun k hk => hk.elim .inl (fun h => .inr (.inl h)))⟩
  · refine (rxopen_no h id n v hc).mono ?_
    rintro e w' ⟨rfl, hb⟩
    rw [openA_same G id n v hc]
    exact ⟨rfl, RfThen.same hW hb⟩
theorem RfW.close_c (h : RfW w Q u G) (id : Int) (hn : G.tasks.length ≤ 100000) :
    Calls Tryd.prog 12 #[.pointer (some ⟨u, 0, none⟩), .int .i64 id] w fun e w' => e = .returned (.int .i64 ((closeA G id).2 : Nat)) ∧ RfThen w w' Q u (closeA G id).1 := by
  have hW := h
  obtain ⟨v1, v2, h, hQ, hO⟩ := h
  by_cases hc : (closeA G id).2 = 0
  · obtain ⟨x, hx, hno⟩ : ∃ x, setA G id = some x ∧ G.tasks.any (fun x => decide (x.set = id)) = false := by
      unfold closeA at hc
      cases e : setA G id with
      | none => rw [if_pos (by rw [e]; rfl)] at hc; simp at hc
      | some x =>
        rw [if_neg (by rw [e]; simp)] at hc
        by_cases ha : G.tasks.any (fun x => decide (x.set = id)) = true
        · rw [if_pos ha] at hc; simp at hc
        · exact ⟨x, rfl, by simpa using ha⟩
    have hG : (closeA G id).1 = closeG G id := by unfold closeA; rw [if_neg (by rw [hx]; simp), if_neg (by rw [hno]; simp)]; rfl
    rw [hG]
    refine (rxclose_ok h hx hno hn).mono ?_
    rintro e w' ⟨rfl, v1', k', n1, hch⟩
    exact ⟨by rw [hc]; rfl, RfThen.turn h hQ hO k' (fun k hk => .inr (n1 k hk)) (fun _ hk => .inl hk) (hch.wider fun k hk => .inl hk)⟩
  · refine (rxclose_no h id hn hc).mono ?_
    rintro e w' ⟨rfl, hb⟩
    rw [closeA_same G id hc]
    exact ⟨rfl, RfThen.same hW hb⟩
theorem RfW.turn_c (h : RfW w Q u G) (id pos : Int) (b : Bool) (hn : G.tasks.length ≤ 100000) :
    Calls Tryd.prog 14 #[.pointer (some ⟨u, 0, none⟩), .int .i64 id, .int .i64 pos, .bool b] w fun e w' => e = .returned (.int .i64 ((turnA G id pos b).2 : Nat)) ∧ RfThen w w' Q u (turnA G id pos b).1 := by
  have hW := h
  obtain ⟨v1, v2, h, hQ, hO⟩ := h
  by_cases hc : (turnA G id pos b).2 = 0
  · rw [turnA_turns G id pos b hc]
    refine (rxturn_ok h hc hn).mono ?_
    rintro e w' ⟨rfl, v2', k', n2, hch⟩
    exact ⟨by rw [hc]; rfl, RfThen.turn h hQ hO k' (fun _ hk => .inl hk) (fun k hk => .inr (n2 k hk)) (hch.wider fun k hk => hk.elim .inl (fun h => .inr (.inl h)))⟩
  · refine (rxturn_no h id pos b hc).mono ?_
    rintro e w' ⟨rfl, hb⟩
    rw [turnA_same G id pos b hc]
    exact ⟨rfl, RfThen.same hW hb⟩
theorem RfW.take_c (h : RfW w Q u G) (t : Tk) (hn : G.tasks.length ≤ 100000) :
    Calls Tryd.prog 19 #[.pointer (some ⟨u, 0, none⟩), .agg #[.int .i64 t.job, .int .i64 t.ix]] w fun e w' => e = .returned (.int .i64 ((takeA G t).2 : Nat)) ∧ RfThen w w' Q u (takeA G t).1 := by
  have hW := h
  obtain ⟨v1, v2, h, hQ, hO⟩ := h
  cases e : tkA G t with
  | none =>
    have hc : takeA G t = (G, 5) := by unfold takeA; rw [if_pos (by rw [e]; rfl)]
    rw [hc]
    refine (rxtake_no h e hn).mono ?_
    rintro e w' ⟨rfl, hb⟩
    exact ⟨rfl, RfThen.same hW hb⟩
  | some x =>
    have hc : takeA G t = (takeG G t, 0) := by unfold takeA; rw [if_neg (by rw [e]; simp)]
    rw [hc]
    refine (rxtake_ok h e hn).mono ?_
    rintro e w' ⟨rfl, v2', k', n2, hch⟩
    exact ⟨rfl, RfThen.turn h hQ hO k' (fun _ hk => .inl hk) (fun k hk => .inr (n2 k hk)) (hch.wider fun k hk => .inl hk)⟩
theorem RfW.find_c (h : RfW w Q u G) (id : Int) :
    Calls Tryd.prog 25 #[.pointer (some ⟨u, 0, none⟩), .int .i64 id] w fun e w' => e = .returned (.int .i64 (posS G id)) ∧ w = w' := by
  obtain ⟨v1, v2, h, _⟩ := h; exact rxfind_c h id
theorem RfW.where_c (h : RfW w Q u G) (t : Tk) (hn : G.tasks.length ≤ 100000) :
    Calls Tryd.prog 23 #[.pointer (some ⟨u, 0, none⟩), .agg #[.int .i64 t.job, .int .i64 t.ix]] w fun e w' => e = .returned (.int .i64 (posT G t)) ∧ Below w.heap.size w w' := by
  obtain ⟨v1, v2, h, _⟩ := h; exact rxwhere_c h t hn
theorem RfW.left_c (h : RfW w Q u G) {id : Int} {s : SetA} (hs : setA G id = some s) (p : Int) (hn : G.tasks.length ≤ 100000) :
    Calls Tryd.prog 27 #[.pointer (some ⟨u, 0, none⟩), .int .i64 id, .int .i64 p] w fun e w' => e = .returned (.agg #[.int .i64 (leftA G s p).a, .int .i64 (leftA G s p).b, .int .i64 (leftA G s p).c, .int .i64 (leftA G s p).d]) ∧ Below w.heap.size w w' := by
  obtain ⟨v1, v2, h, _⟩ := h; exact rxleft_c h hs p hn
theorem RfW.inside_c (h : RfW w Q u G) (id : Int) {pos : Int} (hp : 0 ≤ pos) (hn : G.tasks.length ≤ 100000) :
    Calls Tryd.prog 15 #[.pointer (some ⟨u, 0, none⟩), .int .i64 id, .int .i64 pos] w fun e w' => ∃ v, e = .returned v ∧ OwnE encTk 32 w' w.heap.size v (insideA G id pos) ∧ Below w.heap.size w w' := by
  obtain ⟨v1, v2, h, _⟩ := h
  have := rxinside_c h id pos hn
  rw [insR_inside G id hp (Nat.le_refl _)] at this
  exact this
end
end Go.Proofs.YtbdnfppbiplpmaaDoor

/- Both books of the law, the program's and the reference's, beside what the law keeps: what each call answers and makes of them. Condition: the sentinels lie as the program's text lays them. -/
namespace Go.Proofs.YtbdnfppbiplpmaaDoor
open Go Go.RowKit Go.Maps Go.Sort

structure AxB2 (w0 w : World) (P Q : Nat → Prop) (q u : Nat) (G H : AG) (K : World → Prop) : Prop where
  l : AlL w0 w P q G
  r : RfW w Q u H
  far : ∀ k, P k → ¬ Q k
  low : ∀ k, Q k → w0.heap.size ≤ k
  k : Keeps (fun k => P k ∨ Q k) K w
/-- The program's book q has G, the reference's u has H, and K is kept. -/
def AX (w0 w : World) (q u : Nat) (G H : AG) (K : World → Prop) : Prop := ∃ P Q, AxB2 w0 w P Q q u G H K
section
variable {s : Nat → Addr} {w0 w w' : World} {P Q P' : Nat → Prop} {q u : Nat} {G H G' H' : AG} {K : World → Prop}
theorem AxB2.stepP (h : AxB2 w0 w P Q q u G H K) (k : AlW w' P' q G') (hP : ∀ k, P' k → P k ∨ w.heap.size ≤ k) (hc : ChP P w w') : AxB2 w0 w' P' Q q u G' H K := by
  refine ⟨h.l.step' k hP hc, h.r.far hc fun k hq hp => h.far k hp hq, fun k hk hq => ?_, h.low, h.k.chp (hc.wider fun _ h => .inl h) fun i hi => ?_⟩
  · rcases hP k hk with h1 | h1
    · exact h.far k h1 hq
    · have := h.r.old k hq; omega
  · rcases hi with hi | hi
    · rcases hP i hi with h1 | h1
      · exact .inl (.inl h1)
      · exact .inr h1
    · exact .inl (.inr hi)
theorem AxB2.stepR (h : AxB2 w0 w P Q q u G H K) (k : RfThen w w' Q u H') : ∃ Q', AxB2 w0 w' P Q' q u G H' K := by
  obtain ⟨Q', kr, kq, hc⟩ := k
  refine ⟨Q', ⟨h.l.book.far hc h.far, h.l.below.trans (hc.below h.low h.l.below.size), h.l.low⟩, kr, fun k hp hq => ?_, fun k hk => ?_, h.k.chp (hc.wider fun _ h => .inr h) fun i hi => ?_⟩
  · rcases kq k hq with h1 | h1
    · exact h.far k hp h1
    · have := h.l.book.old k hp; omega
  · rcases kq k hk with h1 | h1
    · exact h.low k h1
    · exact Nat.le_trans h.l.below.size h1
  · rcases hi with hi | hi
    · exact .inl (.inl hi)
    · rcases kq i hi with h1 | h1
      · exact .inl (.inr h1)
      · exact .inr h1
theorem AX.on (h : AX w0 w q u G H K) (hb : Below w.heap.size w w') : AX w0 w' q u G H K := by
  obtain ⟨P, Q, h⟩ := h
  exact ⟨P, Q, h.l.on hb, h.r.on hb, h.far, h.low, h.k.chp (ChP.of_below hb) fun _ h => .inl h⟩
theorem AX.drew (h : AX w0 w q u G H K) : AX w0 w.drew q u G H K := h.on (Below.refl _ _).drew
theorem AX.drewN (h : AX w0 w q u G H K) (n : Nat) : AX w0 (w.drewN n) q u G H K := h.on (below_drewN (Below.refl _ _) n)
theorem AX.drop {K' : World → Prop} (h : AX w0 w q u G H K) (hk : ∀ W, K W → K' W) : AX w0 w q u G H K' := by
  obtain ⟨P, Q, h⟩ := h
  exact ⟨P, Q, h.l, h.r, h.far, h.low, fun W hW => hk W (h.k W hW)⟩
theorem AX.has (h : AX w0 w q u G H K) : K w := by obtain ⟨P, Q, h⟩ := h; exact h.k.here
theorem AX.below (h : AX w0 w q u G H K) : Below w0.heap.size w0 w := by obtain ⟨P, Q, h⟩ := h; exact h.l.below
theorem AX.sentw (h : AX w0 w q u G H K) (hs : Sent s w0) : Sent s w := hs.below h.below (Nat.le_refl _)
theorem AX.goodG (h : AX w0 w q u G H K) : GA G := by obtain ⟨P, Q, h⟩ := h; exact h.l.book.good
theorem AX.goodH (h : AX w0 w q u G H K) : GA H := by obtain ⟨P, Q, h⟩ := h; exact h.r.good
theorem AxB2.fresh (h : AxB2 w0 w P Q q u G H K) {g : Nat} (hg : w.heap.size ≤ g) : ¬ (P g ∨ Q g) := fun hp => by
  rcases hp with hp | hp
  · have := h.l.book.old g hp; omega
  · have := h.r.old g hp; omega
theorem AX.new (h : AX w0 w q u G H K) (o : Obj) : AX w0 (w.alloc o) q u G H (fun W => K W ∧ W.heap[w.heap.size]? = some o) := by
  have h2 := h.on ((Below.refl w.heap.size w).alloc (Nat.le_refl _) o)
  obtain ⟨P, Q, h⟩ := h
  exact ⟨P, Q, h.l.on ((Below.refl _ _).alloc (Nat.le_refl _) o), h.r.on ((Below.refl _ _).alloc (Nat.le_refl _) o), h.far, h.low, fun W hW =>
    ⟨h.k.chp (ChP.of_below ((Below.refl _ _).alloc (Nat.le_refl _) o)) (fun _ h => .inl h) W hW, keep_block (heap_alloc_new w o) (h.fresh (Nat.le_refl _)) W hW⟩⟩
theorem AX.row {α : Type} {n : Nat} {E : EncK α n} {e : TypeId} {v : Value} {L : List α} (h : AX w0 w q u G H K) (hb : Below w.heap.size w w') (ho : OwnE E e w' w.heap.size v L) : AX w0 w' q u G H (fun W => K W ∧ OwnE E e W w.heap.size v L) := by
  obtain ⟨P, Q, h⟩ := h
  exact ⟨P, Q, h.l.on hb, h.r.on hb, h.far, h.low, fun W hW => ⟨h.k.chp (ChP.of_below hb) (fun _ h => .inl h) W hW, keep_row ho (fun i hi => h.fresh (ho.lt i hi).1) W hW⟩⟩
/-! ### the program's calls -/
theorem AX.put_c (h : AX w0 w q u G H K) (hs : Sent s w0) {t : Tk} (ht : okT t) {id : Int} (hid : i64 id) (pos : Int) (v : V4) (hlen : G.tasks.length ≤ 100000) :
    Calls Tryd.prog 20 #[.pointer (some ⟨q, 0, none⟩), .agg #[.int .i64 t.job, .int .i64 t.ix], .int .i64 id, .int .i64 pos, .agg #[.int .i64 v.a, .int .i64 v.b, .int .i64 v.c, .int .i64 v.d]] w fun e w' => e = .returned (errV s (putA G t id pos v).2) ∧ AX w0 w' q u (putA G t id pos v).1 H K := by
  obtain ⟨P, Q, h⟩ := h
  exact (h.l.book.put_c s (h.l.sent hs) ht hid pos v hlen).mono fun _ _ ⟨k1, k2, k3⟩ => ⟨k1, P, Q, h.stepP k2 (fun _ h => .inl h) k3⟩
theorem AX.take_c (h : AX w0 w q u G H K) (hs : Sent s w0) {t : Tk} (ht : okT t) :
    Calls Tryd.prog 18 #[.pointer (some ⟨q, 0, none⟩), .agg #[.int .i64 t.job, .int .i64 t.ix]] w fun e w' => e = .returned (errV s (takeA G t).2) ∧ AX w0 w' q u (takeA G t).1 H K := by
  obtain ⟨P, Q, h⟩ := h
  exact (h.l.book.take_c s (h.l.sent hs) ht).mono fun _ _ ⟨k1, k2, k3⟩ => ⟨k1, P, Q, h.stepP k2 (fun _ h => .inl h) k3⟩
theorem AX.raise_c (h : AX w0 w q u G H K) (hs : Sent s w0) {id : Int} (hid : i64 id) (pos : Int) :
    Calls Tryd.prog 13 #[.pointer (some ⟨q, 0, none⟩), .int .i64 id, .int .i64 pos] w fun e w' => e = .returned (errV s (turnA G id pos true).2) ∧ AX w0 w' q u (turnA G id pos true).1 H K := by
  obtain ⟨P, Q, h⟩ := h
  exact (h.l.book.raise_c s (h.l.sent hs) hid pos).mono fun _ _ ⟨k1, k2, k3⟩ => ⟨k1, P, Q, h.stepP k2 (fun _ h => .inl h) k3⟩
theorem AX.close_c (h : AX w0 w q u G H K) (hs : Sent s w0) {id : Int} (hid : i64 id) :
    Calls Tryd.prog 11 #[.pointer (some ⟨q, 0, none⟩), .int .i64 id] w fun e w' => e = .returned (errV s (closeA G id).2) ∧ AX w0 w' q u (closeA G id).1 H K := by
  obtain ⟨P, Q, h⟩ := h
  exact (h.l.book.close_c s (h.l.sent hs) hid).mono fun _ _ ⟨k1, k2, k3⟩ => ⟨k1, P, Q, h.stepP k2 (fun _ h => .inl h) k3⟩
theorem AX.open_c (h : AX w0 w q u G H K) (hs : Sent s w0) (id N : Int) (v : V4) :
    Calls Tryd.prog 9 #[.pointer (some ⟨q, 0, none⟩), .int .i64 id, .int .i64 N, .agg #[.int .i64 v.a, .int .i64 v.b, .int .i64 v.c, .int .i64 v.d]] w fun e w' => e = .returned (errV s (openA G id N v).2) ∧ AX w0 w' q u (openA G id N v).1 H K := by
  obtain ⟨P, Q, h⟩ := h
  exact (h.l.book.open_c s (h.l.sent hs) id N v).mono fun _ _ ⟨k1, ⟨P', k2, k4⟩, k3⟩ => ⟨k1, P', Q, h.stepP k2 k4 k3⟩
theorem AX.fall_c (h : AX w0 w q u G H K) (hs : Sent s w0) {id : Int} (hid : i64 id) (pos : Int) (hlen : G.tasks.length ≤ 100000) :
    Calls Tryd.prog 16 #[.pointer (some ⟨q, 0, none⟩), .int .i64 id, .int .i64 pos] w fun e w' => ∃ v, e = .returned (.tuple #[v, errV s (turnA G id pos false).2]) ∧ AX w0 w' q u (turnA G id pos false).1 H (fun W => K W ∧ OwnE encTk 32 W w.heap.size v (if (turnA G id pos false).2 = 0 then insideA G id pos else [])) := by
  obtain ⟨P, Q, h⟩ := h
  exact (h.l.book.fall_c s (h.l.sent hs) hid pos hlen).mono fun _ _ ⟨v, k1, k2, k3, k4⟩ => ⟨v, k1, P, Q, (h.stepP k2 (fun _ h => .inl h) k3).l, (h.stepP k2 (fun _ h => .inl h) k3).r, h.far, h.low, fun W hW =>
    ⟨(h.stepP k2 (fun _ h => .inl h) k3).k W hW, keep_row k4 (fun i hi => h.fresh (k4.lt i hi).1) W hW⟩⟩
theorem AX.where_c (h : AX w0 w q u G H K) {t : Tk} (ht : okT t) :
    Calls Tryd.prog 22 #[.pointer (some ⟨q, 0, none⟩), .agg #[.int .i64 t.job, .int .i64 t.ix]] w fun e w' => e = .returned (.tuple #[.int .i64 (seatA G t).set, .int .i64 (seatA G t).pos, .bool (tkA G t).isSome]) ∧ AX w0 w' q u G H K := by
  have h0 := h
  obtain ⟨P, Q, h⟩ := h
  exact (h.l.book.where_c ht).mono fun _ _ ⟨k1, k2⟩ => ⟨k1, h0.on k2⟩
theorem AX.spots_c (h : AX w0 w q u G H K) {id : Int} (hid : i64 id) :
    Calls Tryd.prog 24 #[.pointer (some ⟨q, 0, none⟩), .int .i64 id] w fun e w' => ∃ v, e = .returned v ∧ AX w0 w' q u G H (fun W => K W ∧ OwnE encSpt 65 W w.heap.size v (spotsOf G id)) := by
  have h0 := h
  obtain ⟨P, Q, h⟩ := h
  exact (h.l.book.spots_c hid).mono fun _ _ ⟨v, k1, k2, k3⟩ => ⟨v, k1, h0.row k3 k2⟩
theorem AX.inside_c (h : AX w0 w q u G H K) (id pos : Int) (hlen : G.tasks.length ≤ 100000) :
    Calls Tryd.prog 26 #[.pointer (some ⟨q, 0, none⟩), .int .i64 id, .int .i64 pos] w fun e w' => ∃ v, e = .returned v ∧ AX w0 w' q u G H (fun W => K W ∧ OwnE encTk 32 W w.heap.size v (insideA G id pos)) := by
  have h0 := h
  obtain ⟨P, Q, h⟩ := h
  exact (h.l.book.inside_c id pos hlen).mono fun _ _ ⟨v, k1, k2, k3⟩ => ⟨v, k1, h0.row k3 k2⟩
theorem AX.sets_c (h : AX w0 w q u G H K) :
    Calls Tryd.prog 28 #[.pointer (some ⟨q, 0, none⟩)] w fun e w' => ∃ v, e = .returned v ∧ IOwn w' w.heap.size v (setsOf G) ∧ AX w0 w' q u G H K := by
  have h0 := h
  obtain ⟨P, Q, h⟩ := h
  exact h.l.book.sets_c.mono fun _ _ ⟨v, k1, k2, k3⟩ => ⟨v, k1, k2, h0.on k3⟩
theorem AX.kind_c (h : AX w0 w q u G H K) (hs : Sent s w0) {d : Nat} (hd : d ≤ 14) :
    Calls Tryd.prog 8 #[errV s d] w fun e w' => e = .returned (.int .i64 (d : Nat)) ∧ AX w0 w' q u G H K :=
  (kind_errV s d w (h.sentw hs) hd).mono fun _ _ ⟨k1, k2⟩ => ⟨k1, h.on k2⟩
/-! ### the reference's calls -/
theorem AX.rput_c (h : AX w0 w q u G H K) (t : Tk) (id pos : Int) (v : V4) (hn : H.tasks.length ≤ 100000) :
    Calls Tryd.prog 21 #[.pointer (some ⟨u, 0, none⟩), .agg #[.int .i64 t.job, .int .i64 t.ix], .int .i64 id, .int .i64 pos, .agg #[.int .i64 v.a, .int .i64 v.b, .int .i64 v.c, .int .i64 v.d]] w fun e w' => e = .returned (.int .i64 ((putA H t id pos v).2 : Nat)) ∧ AX w0 w' q u G (putA H t id pos v).1 K := by
  obtain ⟨P, Q, h⟩ := h
  exact (h.r.put_c t id pos v hn).mono fun _ _ ⟨k1, k2⟩ => ⟨k1, P, h.stepR k2⟩
theorem AX.ropen_c (h : AX w0 w q u G H K) (id n : Int) (v : V4) :
    Calls Tryd.prog 10 #[.pointer (some ⟨u, 0, none⟩), .int .i64 id, .int .i64 n, .agg #[.int .i64 v.a, .int .i64 v.b, .int .i64 v.c, .int .i64 v.d]] w fun e w' => e = .returned (.int .i64 ((openA H id n v).2 : Nat)) ∧ AX w0 w' q u G (openA H id n v).1 K := by
  obtain ⟨P, Q, h⟩ := h
  exact (h.r.open_c id n v).mono fun _ _ ⟨k1, k2⟩ => ⟨k1, P, h.stepR k2⟩
theorem AX.rclose_c (h : AX w0 w q u G H K) (id : Int) (hn : H.tasks.length ≤ 100000) :
    Calls Tryd.prog 12 #[.pointer (some ⟨u, 0, none⟩), .int .i64 id] w fun e w' => e = .returned (.int .i64 ((closeA H id).2 : Nat)) ∧ AX w0 w' q u G (closeA H id).1 K := by
  obtain ⟨P, Q, h⟩ := h
  exact (h.r.close_c id hn).mono fun _ _ ⟨k1, k2⟩ => ⟨k1, P, h.stepR k2⟩
theorem AX.rturn_c (h : AX w0 w q u G H K) (id pos : Int) (b : Bool) (hn : H.tasks.length ≤ 100000) :
    Calls Tryd.prog 14 #[.pointer (some ⟨u, 0, none⟩), .int .i64 id, .int .i64 pos, .bool b] w fun e w' => e = .returned (.int .i64 ((turnA H id pos b).2 : Nat)) ∧ AX w0 w' q u G (turnA H id pos b).1 K := by
  obtain ⟨P, Q, h⟩ := h
  exact (h.r.turn_c id pos b hn).mono fun _ _ ⟨k1, k2⟩ => ⟨k1, P, h.stepR k2⟩
theorem AX.rtake_c (h : AX w0 w q u G H K) (t : Tk) (hn : H.tasks.length ≤ 100000) :
    Calls Tryd.prog 19 #[.pointer (some ⟨u, 0, none⟩), .agg #[.int .i64 t.job, .int .i64 t.ix]] w fun e w' => e = .returned (.int .i64 ((takeA H t).2 : Nat)) ∧ AX w0 w' q u G (takeA H t).1 K := by
  obtain ⟨P, Q, h⟩ := h
  exact (h.r.take_c t hn).mono fun _ _ ⟨k1, k2⟩ => ⟨k1, P, h.stepR k2⟩
theorem AX.rfind_c (h : AX w0 w q u G H K) (id : Int) :
    Calls Tryd.prog 25 #[.pointer (some ⟨u, 0, none⟩), .int .i64 id] w fun e w' => e = .returned (.int .i64 (posS H id)) ∧ w = w' := by
  obtain ⟨P, Q, h⟩ := h
  exact h.r.find_c id
theorem AX.rwhere_c (h : AX w0 w q u G H K) (t : Tk) (hn : H.tasks.length ≤ 100000) :
    Calls Tryd.prog 23 #[.pointer (some ⟨u, 0, none⟩), .agg #[.int .i64 t.job, .int .i64 t.ix]] w fun e w' => e = .returned (.int .i64 (posT H t)) ∧ AX w0 w' q u G H K := by
  have h0 := h
  obtain ⟨P, Q, h⟩ := h
  exact (h.r.where_c t hn).mono fun _ _ ⟨k1, k2⟩ => ⟨k1, h0.on k2⟩
theorem AX.rleft_c (h : AX w0 w q u G H K) {id : Int} {sa : SetA} (e : setA H id = some sa) (p : Int) (hn : H.tasks.length ≤ 100000) :
    Calls Tryd.prog 27 #[.pointer (some ⟨u, 0, none⟩), .int .i64 id, .int .i64 p] w fun e w' => e = .returned (.agg #[.int .i64 (leftA H sa p).a, .int .i64 (leftA H sa p).b, .int .i64 (leftA H sa p).c, .int .i64 (leftA H sa p).d]) ∧ AX w0 w' q u G H K := by
  have h0 := h
  obtain ⟨P, Q, h⟩ := h
  exact (h.r.left_c e p hn).mono fun _ _ ⟨k1, k2⟩ => ⟨k1, h0.on k2⟩
theorem AX.rinside_c (h : AX w0 w q u G H K) (id : Int) {pos : Int} (hp : 0 ≤ pos) (hn : H.tasks.length ≤ 100000) :
    Calls Tryd.prog 15 #[.pointer (some ⟨u, 0, none⟩), .int .i64 id, .int .i64 pos] w fun e w' => ∃ v, e = .returned v ∧ AX w0 w' q u G H (fun W => K W ∧ OwnE encTk 32 W w.heap.size v (insideA H id pos)) := by
  have h0 := h
  obtain ⟨P, Q, h⟩ := h
  exact (h.r.inside_c id hp hn).mono fun _ _ ⟨v, k1, k2, k3⟩ => ⟨v, k1, h0.row k3 k2⟩
theorem AX.setAt (h : AX w0 w q u G H K) : ∃ A c, w.cell? ⟨u, 0, none⟩ = some (.slice A H.sets.length c) ∧ ∀ (i : Nat) (s : SetA), H.sets[i]? = some s → ∃ ad g, A = some ad ∧ ad.add (i * 14) = ⟨g, i * 14, none⟩ ∧ ∀ r x, (encSet.enc s)[r]? = some x → w.cell? ⟨g, i * 14 + r, none⟩ = some x := by
  obtain ⟨P, Q, h⟩ := h
  obtain ⟨v1, v2, k, _⟩ := h.r
  obtain ⟨A, c, _, k2, k3⟩ := k.setAt
  exact ⟨A, c, k2, fun i s hi => by obtain ⟨ad, g, a1, a2, _, a4⟩ := k3 i s hi; exact ⟨ad, g, a1, a2, a4⟩⟩
theorem AX.tkAt (h : AX w0 w q u G H K) : ∃ A c, w.cell? ⟨u, 1, none⟩ = some (.slice A H.tasks.length c) ∧ ∀ (i : Nat) (s : InA), H.tasks[i]? = some s → ∃ ad g, A = some ad ∧ ad.add (i * 8) = ⟨g, i * 8, none⟩ ∧ ∀ r x, (encIn.enc s)[r]? = some x → w.cell? ⟨g, i * 8 + r, none⟩ = some x := by
  obtain ⟨P, Q, h⟩ := h
  obtain ⟨v1, v2, k, _⟩ := h.r
  obtain ⟨A, c, _, k2, k3⟩ := k.tkAt
  exact ⟨A, c, k2, fun i s hi => by obtain ⟨ad, g, a1, a2, _, a4⟩ := k3 i s hi; exact ⟨ad, g, a1, a2, a4⟩⟩
end
/-- Two new books. -/
theorem ax_new {w0 w : World} (hb : Below w0.heap.size w0 w) : Calls Tryd.prog 7 #[] w fun e w' => ∃ q P, e = .returned (.pointer (some ⟨q, 0, none⟩)) ∧ AlB w0 w' P q ⟨[], []⟩ (fun _ => True) := alb_new_in hb
theorem AX.begin {w0 w : World} {P : Nat → Prop} {q : Nat} {K : World → Prop} (h : AlB w0 w P q ⟨[], []⟩ K) : AX w0 (w.alloc (.cells #[.slice none 0 0, .slice none 0 0] 30)) q w.heap.size ⟨[], []⟩ ⟨[], []⟩ (fun _ => True) := by
  have hb : Below w.heap.size w (w.alloc (.cells #[.slice none 0 0, .slice none 0 0] 30)) := (Below.refl _ _).alloc (Nat.le_refl _) _
  refine ⟨P, fun k => k = w.heap.size, h.l.on hb, ⟨.slice none 0 0, .slice none 0 0, ⟨heap_alloc_new w _, OwnE.nil _ _ _, OwnE.nil _ _ _, fun k hk => (by cases hk), GA.empty⟩, fun k hk => ?_, fun k hk => ?_⟩, fun k hp hq => ?_, fun k hk => ?_, fun _ _ => trivial⟩
  · rcases hk with hk | hk | hk
    · exact hk
    · cases hk
    · cases hk
  · subst hk; simp
  · subst hq; have := h.l.book.old _ hp; omega
  · subst hk; exact h.l.below.size
/-- What a deed makes. -/
def deedA (G : AG) (k set n : Int) (t : Tk) (v : V4) : AG × Nat :=
  if k = 1 then openA G set n v else if k = 2 then closeA G set else if k = 3 then turnA G set n true else if k = 4 then turnA G set n true else if k = 5 then turnA G set n false else if k = 9 then takeA G t else putA G t set n v
theorem deedA_len (G : AG) (k set n : Int) (t : Tk) (v : V4) : (deedA G k set n t v).1.tasks.length ≤ G.tasks.length + 1 := by
  have e1 : (openA G set n v).1.tasks.length ≤ G.tasks.length + 1 := by unfold openA; (repeat' split) <;> simp
  have e2 : (closeA G set).1.tasks.length ≤ G.tasks.length + 1 := by unfold closeA; (repeat' split) <;> simp
  have e3 : ∀ b, (turnA G set n b).1.tasks.length ≤ G.tasks.length + 1 := fun b => by
    unfold turnA
    cases setA G set with
    | none => simp
    | some s =>
      simp only
      split
      · simp
      · split
        · simp
        · exact Nat.le_succ_of_le (List.length_filter_le _ _)
  have e4 : (takeA G t).1.tasks.length ≤ G.tasks.length + 1 := by
    unfold takeA; split
    · simp
    · exact Nat.le_succ_of_le (List.length_filter_le _ _)
  have e5 : (putA G t set n v).1.tasks.length ≤ G.tasks.length + 1 := by
    unfold putA
    cases setA G set with
    | none => simp
    | some s => simp only; (repeat' split) <;> simp
  unfold deedA
  (repeat' split) <;> first | exact e1 | exact e2 | exact e3 _ | exact e4 | exact e5
end Go.Proofs.YtbdnfppbiplpmaaDoor
