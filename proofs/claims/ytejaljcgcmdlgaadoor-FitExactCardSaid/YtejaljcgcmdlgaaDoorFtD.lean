/- The program's fit by contract: take, Rest; FitC whole. Conditions: the spots, the demands and the numbers lie in memory. -/
import Derived.Test.YtejaljcgcmdlgaaDoorFtC
import Derived.Test.YtejaljcgcmdlgaaDoorFtY
namespace Go.Proofs.YtejaljcgcmdlgaaDoor
open Go Go.RowKit

set_option maxRecDepth 100000 in
set_option maxHeartbeats 6400000 in
theorem take16_c (s : Nat → Addr) (base : Nat) (A : Option Addr) (c : Nat) (m : List Spt) (x : V4) (id : Int) (w : World) (hs : Sent s w) (h : OwnE encSpt 40 w base (.slice A m.length c) m) (hbs : base ≤ w.heap.size) (hn : m.length ≤ 1000000) :
    Calls Tryd.prog 21 #[.slice A m.length c, .agg #[.int .i64 x.a, .int .i64 x.b, .int .i64 x.c, .int .i64 x.d], .int .i64 id] w fun e w' => e = .returned (.tuple #[]) ∧ OwnE encSpt 40 w' base (.slice A m.length c) (subS id x m) ∧ Below base w w' := by
  have HO := Lib.hid h
  have HBS := Lib.hid hbs
  have HC : Hid (∀ W t, Below w.heap.size w W → Calls Tryd.prog 23 #[.agg #[.int .i64 t.id, .int .i64 t.left.a, .int .i64 t.left.b, .int .i64 t.left.c, .int .i64 t.left.d], .agg #[.int .i64 x.a, .int .i64 x.b, .int .i64 x.c, .int .i64 x.d]] W fun e w' => e = .returned (.tuple #[.agg #[.int .i64 (remS t x).a, .int .i64 (remS t x).b, .int .i64 (remS t x).c, .int .i64 (remS t x).d], .bool (decide (fitS t x))]) ∧ Below W.heap.size W w') := Lib.hid fun W t hb => less16_c s t x W (hs.below hb (Nat.le_refl _))
  obtain ⟨W1, hW1⟩ : ∃ W1, w.alloc (.cells #[.int .i64 x.a, .int .i64 x.b, .int .i64 x.c, .int .i64 x.d] 31) = W1 := ⟨_, rfl⟩
  obtain ⟨g, hg⟩ : ∃ g, w.heap.size = g := ⟨_, rfl⟩
  have HB1 : Hid (Below w.heap.size w W1) := Lib.hid (by rw [← hW1]; exact (Below.refl _ _).alloc (Nat.le_refl _) _)
  have HV1 : Hid (Vk W1 g x) := Lib.hid (by rw [← hW1, ← hg]; exact Vk.new_at rfl x)
  have E1 := Lib.hid hW1
  have E2 := Lib.hid hg
  clear hW1 hg h hs hbs
  go_enter Tryd.func21, Tryd.ntmps21
  go_upto_region 2 with fail
  rw [E2.out, E1.out]
  go_loopg [12] m.length (fun gk s12 wr => ∃ (k : Nat), s12 = .int .i64 k ∧ k ≤ m.length ∧ m.length - k ≤ gk ∧ Aside ((∀ y ∈ m.take k, ¬ (y.id = id ∧ fitS y x)) ∧ Below w.heap.size w wr ∧ Vk wr g x))
  case atStart => exact ⟨0, rfl, Nat.zero_le _, Nat.le_refl _, (fun y hy => absurd hy (by simp)), HB1.out, HV1.out⟩
  case round =>
    obtain ⟨k, rfl, hk, hgk, IN⟩ := hrel
    have HNO := Lib.hid IN.out.1
    have HB := Lib.hid IN.out.2.1
    have HVX := Lib.hid IN.out.2.2
    clear IN
    by_cases hlt : k < m.length
    · obtain ⟨t, ht⟩ : ∃ t, m[k]? = some t := ⟨_, List.getElem?_eq_getElem hlt⟩
      have hltz : (k : Int) < (m.length : Int) := by omega
      have HX := Lib.hid ht
      have HOR := Lib.hid (HO.out.on HB.out)
      obtain ⟨ad, ga, rfl, hadd, hsp, _⟩ := own_spt HOR.out ht
      have HADD := Lib.hid (hadd k hlt)
      have HSP := Lib.hid hsp
      obtain ⟨v0, v1, v2, v3, v4, vl, _⟩ := hsp
      have had := HADD.out
      obtain ⟨W2, hW2⟩ : ∃ W2, wr.alloc (.cells #[.int .i64 t.id, .int .i64 t.left.a, .int .i64 t.left.b, .int .i64 t.left.c, .int .i64 t.left.d] 40) = W2 := ⟨_, rfl⟩
      have hbn : Below wr.heap.size wr W2 := by rw [← hW2]; exact (Below.refl _ _).alloc (Nat.le_refl _) _
      have HBN := Lib.hid hbn
      have HSK : Hid (Sk 40 W2 wr.heap.size t) := Lib.hid (by rw [← hW2]; exact heap_alloc_new wr _)
      have HBS2 : Hid (Below w.heap.size w W2) := Lib.hid (HB.out.trans (hbn.mono HB.out.size))
      have E5 := Lib.hid hW2
      clear hW2 hbn ht hadd
      go_upto_region 4 with fail
      rw [E5.out]
      clear v0 v1 v2 v3 v4 vl
      obtain ⟨s0, s1, s2, s3, s4, sl⟩ : W2.cell? ⟨wr.heap.size, 0, none⟩ = some (.int .i64 t.id) ∧ W2.cell? ⟨wr.heap.size, 1, none⟩ = some (.int .i64 t.left.a) ∧ W2.cell? ⟨wr.heap.size, 2, none⟩ = some (.int .i64 t.left.b) ∧ W2.cell? ⟨wr.heap.size, 3, none⟩ = some (.int .i64 t.left.c) ∧ W2.cell? ⟨wr.heap.size, 4, none⟩ = some (.int .i64 t.left.d) ∧ wr.heap.size < W2.heap.size := ⟨cell_of_heap HSK.out 0, cell_of_heap HSK.out 1, cell_of_heap HSK.out 2, cell_of_heap HSK.out 3, cell_of_heap HSK.out 4, lt_of_block HSK.out⟩
      obtain ⟨x0, x1, x2, x3, _, _⟩ := (HVX.out.on HBN.out).cells
      go_upto_region 5 with (refine (HC.out _ t HBS2.out).mono ?_; rintro e w5 ⟨rfl, b5⟩; have HB5 := Lib.hid b5; clear b5 s0 s1 s2 s3 s4 x0 x1 x2 x3)
      obtain ⟨y, hy⟩ : ∃ y, remS t x = y := ⟨_, rfl⟩
      rw [hy]
      obtain ⟨W6, hW6⟩ : ∃ W6, w5.alloc (.cells #[.int .i64 y.a, .int .i64 y.b, .int .i64 y.c, .int .i64 y.d] 31) = W6 := ⟨_, rfl⟩
      rw [hW6]
      have hB26 : Below W2.heap.size W2 W6 := by rw [← hW6]; exact HB5.out.alloc HB5.out.size _
      have HY6 : Hid (Vk W6 w5.heap.size y) := Lib.hid (by rw [← hW6]; exact Vk.new_at rfl y)
      have HBW : Hid (Below wr.heap.size wr W6) := Lib.hid (HBN.out.trans (hB26.mono HBN.out.size))
      have c0 := (hB26.cell (p := ⟨wr.heap.size, 0, none⟩) sl).trans (cell_of_heap HSK.out 0)
      have HD6 : Hid (Below w.heap.size w W6) := Lib.hid (HB.out.trans (HBW.out.mono HB.out.size))
      have HYE : Hid (remS t x = y) := Lib.hid hy
      clear hW6 hy hB26 sl
      have HV6 : Hid (Vk W6 g x) := Lib.hid (HVX.out.on HBW.out)
      by_cases hf : fitS t x
      · rw [decide_eq_true hf]
        by_cases hi : t.id = id
        · have heq : (t.id == id) = true := by simpa using hi
          have HH : Hid (subS id x m = m.set k (cutS t x)) := Lib.hid (subS_hit m k HX.out HNO.out ⟨hi, hf⟩)
          have HOW := Lib.hid (HOR.out.on HBW.out)
          clear hf hi
          obtain ⟨y0, y1, y2, y3, yl, _⟩ := HY6.out.cells
          obtain ⟨s0, s1, s2, s3, s4, sl, sf⟩ := HSP.out.on HBW.out
          go_wp2_with fail
          (try simp only [Exit.inBlock, Exit.then])
          refine bodyPost_ret (results_none rfl _ _ _) rfl ⟨rfl, ?_, below_set4 (HD6.out.mono HBS.out) (own_low HOW.out HX.out HADD.out) _ _ _ _⟩
          rw [HH.out, ← HYE.out]
          exact own_cut' HOW.out HX.out HADD.out rfl (remS t x)
        · have heq : (t.id == id) = false := by simpa using hi
          have HNF : Hid (¬ (t.id = id ∧ fitS t x)) := Lib.hid fun h => hi h.1
          clear hf hi
          go_wp2_with fail
          go_roundg (m.length - (k + 1))
          case measure => omega
          case rel => exact ⟨k + 1, by go_num, by omega, Nat.le_refl _, no_next HX.out HNO.out HNF.out, HD6.out, HV6.out⟩
      · rw [decide_eq_false hf]
        have HNF : Hid (¬ (t.id = id ∧ fitS t x)) := Lib.hid fun h => hf h.2
        clear hf
        go_wp2_with fail
        go_roundg (m.length - (k + 1))
        case measure => omega
        case rel => exact ⟨k + 1, by go_num, by omega, Nat.le_refl _, no_next HX.out HNO.out HNF.out, HD6.out, HV6.out⟩
    · obtain rfl : k = m.length := by omega
      have hlz : ¬ ((m.length : Int) < (m.length : Int)) := by omega
      have HM : Hid (subS id x m = m) := Lib.hid (subS_miss m (by have := HNO.out; rwa [List.take_length] at this))
      clear hn
      go_wp2_with fail
      go_end0
      exact ⟨rfl, by rw [HM.out]; exact HO.out.on HB.out, HB.out.mono HBS.out⟩
end Go.Proofs.YtejaljcgcmdlgaaDoor
