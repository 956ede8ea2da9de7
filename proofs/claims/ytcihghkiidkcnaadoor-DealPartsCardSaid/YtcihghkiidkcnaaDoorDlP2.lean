/- The walk of the law DealParts: whatever the orders, the order and the number, it returns true. Condition: the sentinels lie as the program's text lays them. -/
import Derived.Test.YtcihghkiidkcnaaDoorDlZ
import Derived.Test.YtcihghkiidkcnaaDoorRowBOd
import Derived.Test.YtcihghkiidkcnaaDoorMd
import Derived.Deep.DeepCutAuto
import Derived.Deep.CutBlock
import Derived.Deep.RegionHeld3
namespace Go.Proofs.YtcihghkiidkcnaaDoor
open Go Go.RowKit

theorem BBk.kept2 {w w' : World} {q R p P : Nat} {b : RB} (h : BBk w q R b) (hc : Chg p P w w') (h1 : q ≠ p) (h2 : q ≠ P) (h3 : R ≠ p) (h4 : R ≠ P) : BBk w' q R b :=
  h.same fun k hk => by rcases hk with rfl | rfl; exact hc.block _ h.lt.1 h1 h2; exact hc.block _ h.lt.2.1 h3 h4
/-- Two books of the law. -/
structure TwB (w0 W : World) (q1 R1 q2 R2 : Nat) (b1 b2 : RB) : Prop where
  one : BkAt w0 W q1 R1 b1
  two : BkAt w0 W q2 R2 b2
  n1 : q1 ≠ q2
  n2 : q1 ≠ R2
  n3 : R1 ≠ q2
  n4 : R1 ≠ R2
theorem TwB.on {w0 W W' : World} {q1 R1 q2 R2 : Nat} {b1 b2 : RB} (h : TwB w0 W q1 R1 q2 R2 b1 b2) (hb : Below W.heap.size W W') : TwB w0 W' q1 R1 q2 R2 b1 b2 :=
  ⟨h.one.on hb, h.two.on hb, h.n1, h.n2, h.n3, h.n4⟩
theorem TwB.set1 {w0 W W' : World} {q1 R1 q2 R2 R' : Nat} {b1 b2 b' : RB} (h : TwB w0 W q1 R1 q2 R2 b1 b2) (t : BkAt w0 W' q1 R' b') (hc : Chg q1 R1 W W') (hR : R' = R1 ∨ W.heap.size ≤ R') : TwB w0 W' q1 R' q2 R2 b' b2 := by
  have k1 := h.one.book.lt
  have k2 := h.two.book.lt
  have n1 := h.n1; have n2 := h.n2; have n3 := h.n3; have n4 := h.n4
  refine ⟨t, ⟨h.two.book.kept2 hc (by omega) (by omega) (by omega) (by omega), t.below, h.two.lowq⟩, n1, n2, ?_, ?_⟩ <;> omega
theorem TwB.set2 {w0 W W' : World} {q1 R1 q2 R2 R' : Nat} {b1 b2 b' : RB} (h : TwB w0 W q1 R1 q2 R2 b1 b2) (t : BkAt w0 W' q2 R' b') (hc : Chg q2 R2 W W') (hR : R' = R2 ∨ W.heap.size ≤ R') : TwB w0 W' q1 R1 q2 R' b1 b' := by
  have k1 := h.one.book.lt
  have k2 := h.two.book.lt
  have n1 := h.n1; have n2 := h.n2; have n3 := h.n3; have n4 := h.n4
  refine ⟨⟨h.one.book.kept2 hc (by omega) (by omega) (by omega) (by omega), t.below, h.one.lowq⟩, t, n1, ?_, n3, ?_⟩ <;> omega
theorem take_len (o : Od) : ∀ (S : List Od) (k : Nat), (takeL o S k).length ≤ S.length
  | [], _ => Nat.le_refl _
  | x :: S, k => by
    rw [takeL]
    split
    · simp
    · split
      · have := take_len o S (k - min k x.lots.toNat); simp; omega
      · simp
theorem MatchOK.many {b : RB} {o : Od} (h : MatchOK b o) (hG : GB b) : (matchO b o).2.1.length ≤ 1000 := by
  rw [h.fills]
  have := take_len o (listR13 b.L (!o.sell)) o.lots.toNat
  have := listR13_le b.L (!o.sell)
  have := hG.len
  omega
/-- A row of fills and a book's row are no one block. -/
theorem BBk.apart {w : World} {q R : Nat} {b : RB} (h : BBk w q R b) {base : Nat} {v : Value} {L : List Fl} (ho : OwnE encFl 35 w base v L) (hb : q < base) : ∀ i, v.ownBlock = some i → i ≠ q ∧ i ≠ R := by
  intro i hi
  have hlt := (ho.lt i hi).1
  refine ⟨by omega, fun e => ?_⟩
  subst e
  obtain ⟨v', h1, h2, h3⟩ := h
  cases hv : v'.ownBlock with
  | none => rw [hv] at h3; simp at h3; omega
  | some k =>
    rw [hv] at h3
    simp at h3
    subst h3
    rcases h2.2 with ⟨rfl, _⟩ | ⟨g1, c1, cur1, rfl, _, hg1, _⟩
    · simp [Value.ownBlock] at hv
    · rcases ho.2 with ⟨rfl, _⟩ | ⟨g2, c2, cur2, rfl, _, hg2, _⟩
      · simp [Value.ownBlock] at hi
      · have a1 : g1 = k := by simpa [Value.ownBlock] using hv
        have a2 : g2 = k := by simpa [Value.ownBlock] using hi
        subst a1
        subst a2
        rw [hg1] at hg2
        simp at hg2
/-- What the law's last questions ask. -/
structure PaS (w : World) (q1 R1 q2 R2 : Nat) (b1 b3 : RB) (v1 v2 v3 : Value) (L1 L2 L3 : List Fl) (W : World) : Prop where
  tw : TwB w W q1 R1 q2 R2 b1 b3
  l1 : LiesE encFl W v1 L1
  l2 : LiesE encFl W v2 L2
  l3 : LiesE encFl W v3 L3
theorem PaS.on {w : World} {q1 R1 q2 R2 : Nat} {b1 b3 : RB} {v1 v2 v3 : Value} {L1 L2 L3 : List Fl} {W W' : World} (h : PaS w q1 R1 q2 R2 b1 b3 v1 v2 v3 L1 L2 L3 W) (hb : Below W.heap.size W W') : PaS w q1 R1 q2 R2 b1 b3 v1 v2 v3 L1 L2 L3 W' :=
  ⟨h.tw.on hb, h.l1.onB hb, h.l2.onB hb, h.l3.onB hb⟩
/-- The book as the law fills it. -/
structure FilB (b : RB) (i : Nat) : Prop where
  gb : GB b
  came : b.came ≤ i
  len : b.L.length ≤ i
  ids : ∀ z ∈ b.L, z.id ≤ i
theorem FilB.add {b : RB} {i : Nat} (h : FilB b i) {o : Od} (ho : o.id = (i : Int) + 1) : FilB (addR13 b o).1 (i + 1) := by
  obtain ⟨h1, h2⟩ := h.gb.add o
  have hc := h.came
  refine ⟨h1, by omega, ?_, ?_⟩
  all_goals
    have hl := h.len
    have hi := h.ids
    unfold addR13
    split
    · split
      · first | (simp only; omega) | (intro z hz; have := hi z hz; omega)
      · split
        · first | (simp only; omega) | (intro z hz; have := hi z hz; omega)
        · first
            | (simp; omega)
            | (intro z hz
               rcases List.mem_append.1 hz with hz | hz
               · have := hi z hz; omega
               · rw [List.mem_singleton.1 hz]; simp only; omega)
    · first | (simp only; omega) | (intro z hz; have := hi z hz; omega)

set_option maxHeartbeats 6400000 in
set_option maxRecDepth 100000 in
theorem parts_any (s : Nat → Addr) (A : Option Addr) (c : Nat) (X : List Od) (o : Od) (split : Int) (w : World) (hs : Sent s w) (hX : BOdRow w w.heap.size A X) (_hl : X.length ≤ 9223372036854775807) :
    Calls Tryd.prog 4 #[.slice A X.length c, .agg #[.int .i64 o.id, .int .i64 o.tn, .bool o.sell, .int .i64 o.price, .int .i64 o.lots, .int .i64 o.seq], .int .i64 split] w fun e w' => e = .returned (.bool true) ∧ Below w.heap.size w w' := by
  have HS := Lib.hid hs
  have HX := Lib.hid hX
  obtain ⟨W0, hW0⟩ : ∃ W0, w.alloc (.cells #[.int .i64 o.id, .int .i64 o.tn, .bool o.sell, .int .i64 o.price, .int .i64 o.lots, .int .i64 o.seq] 27) = W0 := ⟨_, rfl⟩
  obtain ⟨g, hg⟩ : ∃ g, w.heap.size = g := ⟨_, rfl⟩
  have hb0 : Below w.heap.size w W0 := by rw [← hW0]; exact (Below.refl _ _).alloc (Nat.le_refl _) _
  have HB0 := Lib.hid hb0
  have HO0 : Hid (BOdBlk W0 g o) := Lib.hid (by rw [← hW0, ← hg]; exact BOdBlk.new w o)
  have HAW := Lib.hid (awake_c s W0 (HS.out.below hb0 (Nat.le_refl _)))
  have HGW := Lib.hid hg
  clear hs hX hb0
  go_enter Tryd.func4, Tryd.ntmps4
  go_upto_region 1 with fail
  try rw [hW0]
  try rw [hg]
  clear hW0 hg
  go_wp2_with fail
  refine HAW.out.mono ?_
  rintro e w1 ⟨rfl, b1⟩
  have HO1 := Lib.hid (HO0.out.on b1)
  have HB1 : Hid (Below w.heap.size w w1) := Lib.hid (HB0.out.trans (b1.mono HB0.out.size))
  clear b1 HAW HO0 HB0
  obtain ⟨o0, o1, o2, o3, o4, o5, ol⟩ := HO1.out.cells
  have of' : ∀ j, w1.frozen? ⟨g, j, none⟩ = false := fun j => frozen_of_heap HO1.out j
  obtain ⟨O, hO⟩ : ∃ O : Od, { o with id := 1048576 } = O := ⟨_, rfl⟩
  have HOO := Lib.hid hO
  clear hO
  go_upto_region 4 with fail
  obtain ⟨W2, hW2⟩ : ∃ W2, w1.setCell ⟨g, 0, none⟩ (.int .i64 1048576) = W2 := ⟨_, rfl⟩
  have HB2 : Hid (Below w.heap.size w W2) := Lib.hid (by rw [← hW2]; exact Below.setCell HB1.out (by rw [HGW.out]; exact Nat.le_refl _) _)
  have HO2 : Hid (BOdBlk W2 g O) := Lib.hid (by rw [← hW2, ← HOO.out]; unfold BOdBlk; rw [heap_setCell_same _ _ _ _ _ _ HO1.out]; rfl)
  try rw [hW2]
  clear hW2 o0 o1 o2 o3 o4 o5 ol of' HO1 HB1
  obtain ⟨o0, o1, o2, o3, o4, o5, ol⟩ := HO2.out.cells
  have HGD := Lib.hid (good_c O W2)
  obtain ⟨gd, hgd⟩ : ∃ gd, goodO O = gd := ⟨_, rfl⟩
  rw [hgd] at HGD
  have HGO := Lib.hid hgd
  clear hgd
  go_wp2_with fail
  refine HGD.out.mono ?_
  rintro e w3 ⟨rfl, b3⟩
  have HB3 : Hid (Below w.heap.size w w3) := Lib.hid (HB2.out.trans (b3.mono HB2.out.size))
  have HO3 := Lib.hid (HO2.out.on b3)
  clear b3 HGD HO2 HB2 o0 o1 o2 o3 o4 o5 ol
  obtain ⟨o0, o1, o2, o3, o4, o5, ol⟩ := HO3.out.cells
  cases gd with
  | false =>
    go_wp2_with fail
    go_ret
    exact ⟨rfl, HB3.out⟩
  | true =>
    by_cases h2 : O.lots < 2
    · have d1 : decide (O.lots < 2) = true := decide_eq_true h2
      clear h2
      go_wp2_with fail
      go_ret
      exact ⟨rfl, HB3.out⟩
    · have d1 : decide (O.lots < 2) = false := decide_eq_false h2
      have HLT : Hid (2 ≤ O.lots ∧ O.lots ≤ 1000) := Lib.hid (by have := good_lots HGO.out; omega)
      clear h2
      go_wp2_with fail
      refine (new_c w3).mono ?_
      rintro e w4 ⟨rfl, t4, b4⟩
      obtain ⟨q1, hq1⟩ : ∃ q1, w3.heap.size = q1 := ⟨_, rfl⟩
      rw [hq1] at t4 ⊢
      have HB4 : Hid (Below w.heap.size w w4) := Lib.hid (HB3.out.trans (b4.mono HB3.out.size))
      have HO4 := Lib.hid (HO3.out.on b4)
      have HT4 := Lib.hid t4
      have HQ1 : Hid (w.heap.size ≤ q1 ∧ g < q1) := Lib.hid (by rw [← hq1]; exact ⟨HB3.out.size, ol⟩)
      clear t4 b4 hq1 HO3 HB3 o0 o1 o2 o3 o4 o5 ol
      go_wp2_with fail
      refine (new_c w4).mono ?_
      rintro e w5 ⟨rfl, t5, b5⟩
      obtain ⟨q2, hq2⟩ : ∃ q2, w4.heap.size = q2 := ⟨_, rfl⟩
      rw [hq2] at t5 ⊢
      have HB5 : Hid (Below w.heap.size w w5) := Lib.hid (HB4.out.trans (b5.mono HB4.out.size))
      have HO5 := Lib.hid (HO4.out.on b5)
      have HQ2 : Hid (q1 < q2) := Lib.hid (by rw [← hq2]; exact HT4.out.lt.1)
      have HT5 : Hid (TwB w w5 q1 q1 q2 q2 ⟨[], 0⟩ ⟨[], 0⟩) := Lib.hid ⟨⟨HT4.out.on b5, HB5.out, HQ1.out.1⟩, ⟨t5, HB5.out, by have := HQ1.out; have := HQ2.out; omega⟩, by have := HQ2.out; omega, by have := HQ2.out; omega, by have := HQ2.out; omega, by have := HQ2.out; omega⟩
      clear t5 b5 hq2 HT4 HO4 HB4
      go_upto_block 0 with fail
      go_cut [] (fun wx => ∃ (R1 R2 : Nat) (b : RB), FilB b 20 ∧ TwB w wx q1 R1 q2 R2 b b ∧ BOdBlk wx g O)
      case first =>
        go_wp2_with fail
        go_loopw [9] (fun u wr => ∃ (i R1 R2 : Nat) (b : RB), i ≤ 20 ∧ u = .int .i64 (i : Int) ∧ FilB b i ∧ TwB w wr q1 R1 q2 R2 b b ∧ BOdBlk wr g O) (fun u _ => 20 - (intOf u).toNat)
        case atStart => exact ⟨0, q1, q2, ⟨[], 0⟩, by omega, rfl, ⟨GB.empty, Nat.le_refl _, Nat.le_refl _, fun z hz => absurd hz List.not_mem_nil⟩, HT5.out, HO5.out⟩
        case round =>
          obtain ⟨i, R1, R2, b, hi20, rfl, hF, hT, hO⟩ := hrel
          have HF := Lib.hid hF; have HT := Lib.hid hT; have HO := Lib.hid hO
          clear hF hT hO HT5 HO5 HB5
          by_cases hlt : i < X.length ∧ i < 20
          · obtain ⟨h1, h2⟩ := hlt
            obtain ⟨x, hx⟩ : ∃ x, X[i]? = some x := ⟨_, List.getElem?_eq_getElem h1⟩
            obtain ⟨ad, rfl, c0, c1, c2, c3, c4, c5⟩ := HX.out.cells HT.out.one.below hx
            have hi0 : (0 : Int) ≤ (i : Int) := by omega
            have hi1 : (i : Int) < (X.length : Int) := by omega
            have hd1 : decide ((i : Int) < (X.length : Int)) = true := decide_eq_true hi1
            have hd2 : decide ((i : Int) < 20) = true := decide_eq_true (by omega)
            obtain ⟨y, hy⟩ : ∃ y : Od, { x with id := (i : Int) + 1 } = y := ⟨_, rfl⟩
            have HYI : Hid (y.id = (i : Int) + 1) := Lib.hid (by rw [← hy])
            clear hx
            go_upto_region 13 with fail
            obtain ⟨W6, hW6⟩ : ∃ W6, wr.alloc (.cells #[.int .i64 ((i : Int) + 1), .int .i64 x.tn, .bool x.sell, .int .i64 x.price, .int .i64 x.lots, .int .i64 x.seq] 27) = W6 := ⟨_, rfl⟩
            obtain ⟨gx, hgx⟩ : ∃ gx, wr.heap.size = gx := ⟨_, rfl⟩
            have hb6 : Below wr.heap.size wr W6 := by rw [← hW6]; exact (Below.refl _ _).alloc (Nat.le_refl _) _
            have HT6 := Lib.hid (HT.out.on hb6)
            have HO6 := Lib.hid (HO.out.on hb6)
            have HY6 : Hid (BOdBlk W6 gx y) := Lib.hid (by rw [← hW6, ← hgx, ← hy]; exact BOdBlk.new wr { x with id := (i : Int) + 1 })
            have HGX : Hid (q1 < gx ∧ R1 < gx ∧ q2 < gx ∧ R2 < gx) := Lib.hid (by rw [← hgx]; exact ⟨HT.out.one.book.lt.1, HT.out.one.book.lt.2.1, HT.out.two.book.lt.1, HT.out.two.book.lt.2.1⟩)
            try rw [hW6]
            try rw [hgx]
            clear hW6 hgx hb6 hy HT HO c0 c1 c2 c3 c4 c5
            obtain ⟨y0, y1, y2, y3, y4, y5, yl⟩ := HY6.out.cells
            go_wp2_with fail
            refine (HT6.out.one.addR HS.out HF.out.gb (by have := HF.out.came; omega) y).mono ?_
            rintro e w7 ⟨rfl, ⟨R1', t7, l7⟩, g7⟩
            have l1 := HT6.out.one.book.lt
            have HT7 := Lib.hid (HT6.out.set1 t7 g7 l7)
            have HO7 : Hid (BOdBlk w7 g O) := Lib.hid (g7.row HO6.out (by have := HQ1.out; omega) (by have := HQ1.out; omega))
            have HY7 : Hid (BOdBlk w7 gx y) := Lib.hid (g7.row HY6.out (by have := HGX.out; omega) (by have := HGX.out; omega))
            clear t7 l7 g7 l1 HT6 HO6 HY6 y0 y1 y2 y3 y4 y5 yl
            obtain ⟨y0, y1, y2, y3, y4, y5, yl⟩ := HY7.out.cells
            go_wp2_with fail
            refine (HT7.out.two.addR HS.out HF.out.gb (by have := HF.out.came; omega) y).mono ?_
            rintro e w8 ⟨rfl, ⟨R2', t8, l8⟩, g8⟩
            have l1 := HT7.out.two.book.lt
            have HT8 := Lib.hid (HT7.out.set2 t8 g8 l8)
            have HO8 : Hid (BOdBlk w8 g O) := Lib.hid (g8.row HO7.out (by have := HQ1.out; have := HQ2.out; omega) (by have := HQ1.out; have := HQ2.out; omega))
            clear t8 l8 g8 l1 HT7 HO7 HY7 y0 y1 y2 y3 y4 y5 yl
            go_wp2_with fail
            go_roundw
            case rel => exact ⟨i + 1, R1', R2', (addR13 b y).1, by omega, by go_num, HF.out.add HYI.out, HT8.out, HO8.out⟩
            case measure => simp [intOf]; omega
          · have hdd : ¬ ((i : Int) < (X.length : Int)) ∨ ((i : Int) < (X.length : Int) ∧ ¬ (i : Int) < 20) := by omega
            have HFB : Hid (FilB b 20) := Lib.hid ⟨HF.out.gb, by have := HF.out.came; omega, by have := HF.out.len; omega, fun z hz => by have := HF.out.ids z hz; omega⟩
            clear hlt
            rcases hdd with hd | ⟨hd, hd20⟩
            · have hd1 : decide ((i : Int) < (X.length : Int)) = false := decide_eq_false hd
              go_wp2_with fail
              go_meet
              exact ⟨R1, R2, b, HFB.out, HT.out, HO.out⟩
            · have hd1 : decide ((i : Int) < (X.length : Int)) = true := decide_eq_true hd
              have hd2 : decide ((i : Int) < 20) = false := decide_eq_false hd20
              go_wp2_with fail
              go_meet
              exact ⟨R1, R2, b, HFB.out, HT.out, HO.out⟩
      case rest =>
      obtain ⟨R1, R2, b, hF, hT, hOb⟩ := hcut
      have HF := Lib.hid hF
      have HT := Lib.hid hT
      have HO := Lib.hid hOb
      clear hF hT hOb HT5 HO5 HB5
      obtain ⟨KL, hKL⟩ : ∃ KL : Nat, O.lots = (KL : Int) + 1 := ⟨(O.lots - 1).toNat, by have := HLT.out; omega⟩
      have hKL1 : 1 ≤ KL := by have := HLT.out; omega
      have hKL2 : KL ≤ 999 := by have := HLT.out; omega
      obtain ⟨m, hm, hmod⟩ := mod_pos split KL (by omega) (by omega)
      have hu := u64_nat KL (by omega)
      have hs1 : wrap64 (O.lots - 1) = (KL : Int) := by rw [hKL]; unfold wrap64; omega
      have hs2 : IntKind.i64.wrap (O.lots - 1) = (KL : Int) := by rw [hKL, IntWalk.i64_in _ (by omega)]; omega
      have hn1 : wrap64 (1 + wrap64 ((IntKind.u64.wrap split).tmod (KL : Int))) = (m : Int) + 1 := by rw [hmod]; unfold wrap64; omega
      have hn2 : IntKind.i64.wrap (1 + wrap64 ((IntKind.u64.wrap split).tmod (KL : Int))) = (m : Int) + 1 := by rw [hmod, IntWalk.i64_in _ (by omega)]; omega
      have hr1 : wrap64 (O.lots - ((m : Int) + 1)) = O.lots - ((m : Int) + 1) := by rw [hKL]; unfold wrap64; omega
      have hr2 : IntKind.i64.wrap (O.lots - ((m : Int) + 1)) = O.lots - ((m : Int) + 1) := IntWalk.i64_in _ (by rw [hKL]; omega)
      have hz : ¬ ((KL : Int) = 0) := by omega
      have HKL := Lib.hid hKL
      have HM : Hid (m < KL) := Lib.hid hm
      obtain ⟨o0, o1, o2, o3, o4, o5, ol⟩ := HO.out.cells
      clear hmod hKL hm
      obtain ⟨P, hP⟩ : ∃ P : Od, { O with lots := ((m + 1 : Nat) : Int) } = P := ⟨_, rfl⟩
      obtain ⟨Z, hZ⟩ : ∃ Z : Od, { O with id := O.id + 1, lots := O.lots - ((m + 1 : Nat) : Int) } = Z := ⟨_, rfl⟩
      have hOid : O.id = 1048576 := by rw [← HOO.out]
      have hgz : goodO { O with id := O.id + 1 } = true := by
        have := HGO.out
        simp only [goodO, Bool.and_eq_true, decide_eq_true_eq] at this ⊢
        omega
      have hpk := parts_ok HF.out.gb HGO.out (m + 1) (by omega) (by have := HKL.out; have := HM.out; omega) hgz (fun z hz => by have := HF.out.ids z hz; omega) (by have := HF.out.len; omega)
      simp only [hP, hZ] at hpk
      have HPK := Lib.hid hpk
      have HPC : Hid (∀ W : World, BOdBlk (W.alloc (.cells #[.int .i64 O.id, .int .i64 O.tn, .bool O.sell, .int .i64 O.price, .int .i64 ((m : Int) + 1), .int .i64 O.seq] 27)) W.heap.size P) := Lib.hid fun W => by
        have := BOdBlk.new W P
        rw [← hP] at this ⊢
        simpa using this
      have HZC : Hid (∀ W : World, BOdBlk (W.alloc (.cells #[.int .i64 1048577, .int .i64 O.tn, .bool O.sell, .int .i64 O.price, .int .i64 (O.lots - ((m : Int) + 1)), .int .i64 O.seq] 27)) W.heap.size Z) := Lib.hid fun W => by
        have := BOdBlk.new W Z
        rw [← hZ] at this ⊢
        simp only [hOid] at this ⊢
        simpa using this
      clear hP hZ hOid hgz hpk
      go_upto_region 21 with fail
      clear hs1 hs2 hn1 hn2 hr1 hr2 hz hu hKL1 hKL2
      obtain ⟨gp, hgp⟩ : ∃ gp, wc.heap.size = gp := ⟨_, rfl⟩
      obtain ⟨Wp, hWp⟩ : ∃ Wp, wc.alloc (.cells #[.int .i64 O.id, .int .i64 O.tn, .bool O.sell, .int .i64 O.price, .int .i64 ((m : Int) + 1), .int .i64 O.seq] 27) = Wp := ⟨_, rfl⟩
      have hbp : Below wc.heap.size wc Wp := by rw [← hWp]; exact (Below.refl _ _).alloc (Nat.le_refl _) _
      have HTp := Lib.hid (HT.out.on hbp)
      have HOp := Lib.hid (HO.out.on hbp)
      have HPp : Hid (BOdBlk Wp gp P) := Lib.hid (by rw [← hWp, ← hgp]; exact HPC.out wc)
      have HSp : Hid (Wp.heap.size = gp + 1) := Lib.hid (by rw [← hWp, ← hgp]; simp)
      have HGp : Hid (q1 < gp ∧ R1 < gp ∧ q2 < gp ∧ R2 < gp ∧ g < gp) := Lib.hid (by rw [← hgp]; exact ⟨HT.out.one.book.lt.1, HT.out.one.book.lt.2.1, HT.out.two.book.lt.1, HT.out.two.book.lt.2.1, ol⟩)
      try rw [hWp]
      try rw [hgp]
      obtain ⟨Wz, hWz⟩ : ∃ Wz, Wp.alloc (.cells #[.int .i64 1048577, .int .i64 O.tn, .bool O.sell, .int .i64 O.price, .int .i64 (O.lots - ((m : Int) + 1)), .int .i64 O.seq] 27) = Wz := ⟨_, rfl⟩
      have hbz : Below Wp.heap.size Wp Wz := by rw [← hWz]; exact (Below.refl _ _).alloc (Nat.le_refl _) _
      have HTz := Lib.hid (HTp.out.on hbz)
      have HOz := Lib.hid (HOp.out.on hbz)
      have HPz := Lib.hid (HPp.out.on hbz)
      have HZz : Hid (BOdBlk Wz (gp + 1) Z) := Lib.hid (by have := HZC.out Wp; rw [HSp.out, hWz] at this; exact this)
      try rw [hWz]
      clear hWp hWz hgp hbp hbz HT HO HTp HOp HPp o0 o1 o2 o3 o4 o5 ol HPC HZC
      obtain ⟨o0, o1, o2, o3, o4, o5, ol⟩ := HOz.out.cells
      obtain ⟨gz, hgz⟩ : ∃ gz, gp + 1 = gz := ⟨_, rfl⟩
      rw [hgz] at HZz ⊢
      have HGZ : Hid (gp < gz) := Lib.hid (by omega)
      clear hgz
      have e1 : (matchO b O).2.2.2 = 0 := (match_ok HF.out.gb HPK.out.1).err
      have e2 : (matchO b P).2.2.2 = 0 := (match_ok HF.out.gb HPK.out.2.1).err
      have e3 : (matchO (matchO b P).1 Z).2.2.2 = 0 := (match_ok (match_ok HF.out.gb HPK.out.2.1).gb HPK.out.2.2.1).err
      have HGB1 : Hid (GB (matchO b O).1) := Lib.hid (match_ok HF.out.gb HPK.out.1).gb
      have HGB2 : Hid (GB (matchO b P).1 ∧ (matchO b P).1.came ≤ b.came + 1) := Lib.hid ⟨(match_ok HF.out.gb HPK.out.2.1).gb, (match_ok HF.out.gb HPK.out.2.1).came⟩
      have HGB3 : Hid (GB (matchO (matchO b P).1 Z).1) := Lib.hid (match_ok (match_ok HF.out.gb HPK.out.2.1).gb HPK.out.2.2.1).gb
      have hn : (matchO b O).2.2.1 ≤ 1000 := by
        have h1 := (match_ok HF.out.gb HPK.out.1).left
        have h2 := left_le O (listR13 b.L (!O.sell)) O.lots.toNat
        have := HLT.out
        omega
      have HPL : Hid ((matchO b O).2.2.1 = (matchO b P).2.2.1 + (matchO (matchO b P).1 Z).2.2.1 ∧ worthF (matchO b O).2.1 = worthF (matchO b P).2.1 + worthF (matchO (matchO b P).1 Z).2.1 ∧ ∀ s, sumO (listR13 (matchO b O).1.L s) = sumO (listR13 (matchO (matchO b P).1 Z).1.L s)) := Lib.hid HPK.out.2.2.2
      have HM1 := Lib.hid (match_c s w Wz q1 R1 b O HS.out HTz.out.one HF.out.gb (by have := HF.out.came; omega))
      have HM2 := Lib.hid (fun (W : World) (R : Nat) (hW : BkAt w W q2 R b) => match_c s w W q2 R b P HS.out hW HF.out.gb (by have := HF.out.came; omega))
      have HM3 := Lib.hid (fun (W : World) (R : Nat) (hW : BkAt w W q2 R (matchO b P).1) => match_c s w W q2 R (matchO b P).1 Z HS.out hW HGB2.out.1 (by have := HF.out.came; have := HGB2.out.2; omega))
      have hl1 := (match_ok HF.out.gb HPK.out.1).many HF.out.gb
      have hl2 := (match_ok HF.out.gb HPK.out.2.1).many HF.out.gb
      have hl3 := (match_ok (match_ok HF.out.gb HPK.out.2.1).gb HPK.out.2.2.1).many HGB2.out.1
      rw [e1, show errV s 0 = .nilIface from rfl] at HM1
      rw [e2, show errV s 0 = .nilIface from rfl] at HM2
      rw [e3, show errV s 0 = .nilIface from rfl] at HM3
      generalize (matchO (matchO b P).1 Z).2.1 = L3 at HM3 HPL hl3
      generalize (matchO (matchO b P).1 Z).2.2.1 = n3 at HM3 HPL
      generalize (matchO (matchO b P).1 Z).1 = b3 at HM3 HPL HGB3
      generalize (matchO b P).2.1 = L2 at HM2 HPL hl2
      generalize (matchO b P).2.2.1 = n2 at HM2 HPL
      generalize (matchO b P).1 = b2 at HM2 HM3 HGB2
      generalize (matchO b O).2.1 = L1 at HM1 HPL hl1
      generalize (matchO b O).2.2.1 = n1 at HM1 HPL hn
      generalize (matchO b O).1 = b1 at HM1 HPL HGB1
      clear e1 e2 e3 HPK
      go_wp2_with fail
      refine HM1.out.mono ?_
      rintro e w9 ⟨v1, rfl, ho1, ⟨R1', t9, l9⟩, g9⟩
      have HT9 := Lib.hid (HTz.out.set1 t9 g9 l9)
      have HP9 : Hid (BOdBlk w9 gp P) := Lib.hid (g9.row HPz.out (by have := HGp.out; omega) (by have := HGp.out; omega))
      have HZ9 : Hid (BOdBlk w9 gz Z) := Lib.hid (g9.row HZz.out (by have := HGp.out; have := HGZ.out; omega) (by have := HGp.out; have := HGZ.out; omega))
      have HV9 : Hid (OwnE encFl 35 w9 gz v1 L1) := Lib.hid (ho1.base (by have := lt_of_block HZz.out; omega))
      clear t9 l9 g9 ho1 HM1 HTz HOz HPz HZz o0 o1 o2 o3 o4 o5 ol
      obtain ⟨p0, p1, p2, p3, p4, p5, pl⟩ := HP9.out.cells
      go_wp2_with fail
      refine (HM2.out _ _ HT9.out.two).mono ?_
      rintro e wA ⟨v2, rfl, ho2, ⟨R2', tA, lA⟩, gA⟩
      have HTA := Lib.hid (HT9.out.set2 tA gA lA)
      have HZA : Hid (BOdBlk wA gz Z) := Lib.hid (gA.row HZ9.out (by have := HGp.out; have := HGZ.out; omega) (by have := HGp.out; have := HGZ.out; omega))
      have hlA := HT9.out.two.book.lt
      have HVA : Hid (OwnE encFl 35 wA gz v1 L1) := Lib.hid (HV9.out.same fun i hi => gA.block i (HV9.out.lt i hi).2 (by have := (HV9.out.lt i hi).1; have := HGp.out; have := HGZ.out; omega) (by have := (HV9.out.lt i hi).1; have := HGp.out; have := HGZ.out; omega))
      have HUA : Hid (OwnE encFl 35 wA gz v2 L2) := Lib.hid (ho2.base (by have := lt_of_block HZ9.out; omega))
      clear tA lA gA ho2 hlA HM2 HT9 HP9 HZ9 HV9 p0 p1 p2 p3 p4 p5 pl
      obtain ⟨z0, z1, z2, z3, z4, z5, zl⟩ := HZA.out.cells
      go_wp2_with fail
      refine (HM3.out _ _ HTA.out.two).mono ?_
      rintro e wB ⟨v3, rfl, ho3, ⟨R3', tB, lB⟩, gB⟩
      have hq2 : q2 < gz := by have := HGp.out; have := HGZ.out; omega
      have HVB : Hid (OwnE encFl 35 wB gz v1 L1) := Lib.hid (HVA.out.same fun i hi => gB.block i (HVA.out.lt i hi).2 (HTA.out.two.book.apart HVA.out hq2 i hi).1 (HTA.out.two.book.apart HVA.out hq2 i hi).2)
      have HUB : Hid (OwnE encFl 35 wB gz v2 L2) := Lib.hid (HUA.out.same fun i hi => gB.block i (HUA.out.lt i hi).2 (HTA.out.two.book.apart HUA.out hq2 i hi).1 (HTA.out.two.book.apart HUA.out hq2 i hi).2)
      have HPB : Hid (PaS w q1 R1' q2 R3' b1 b3 v1 v2 v3 L1 L2 L3 wB) := Lib.hid ⟨HTA.out.set2 tB gB lB, HVB.out.lies, HUB.out.lies, ho3.lies⟩
      clear tB lB gB ho3 hq2 HM3 HTA HZA HVA HUA HVB HUB z0 z1 z2 z3 z4 z5 zl HGp HGZ
      obtain ⟨a1, c1, rfl⟩ := HPB.out.l1.form
      obtain ⟨a2, c2, rfl⟩ := HPB.out.l2.form
      obtain ⟨a3, c3, rfl⟩ := HPB.out.l3.form
      have hnn := HPL.out.1
      have hs1 : wrap64 ((n2 : Int) + (n3 : Int)) = (n1 : Int) := by rw [hnn]; unfold wrap64; omega
      have hs2 : IntKind.i64.wrap ((n2 : Int) + (n3 : Int)) = (n1 : Int) := by rw [IntWalk.i64_in _ (by omega)]; omega
      have HW1 := Lib.hid (fun (W : World) (hW : PaS w q1 R1' q2 R3' b1 b3 (.slice a1 L1.length c1) (.slice a2 L2.length c2) (.slice a3 L3.length c3) L1 L2 L3 W) => worth_c (.slice a1 L1.length c1) L1 W hW.l1 hl1)
      have HW2 := Lib.hid (fun (W : World) (hW : PaS w q1 R1' q2 R3' b1 b3 (.slice a1 L1.length c1) (.slice a2 L2.length c2) (.slice a3 L3.length c3) L1 L2 L3 W) => worth_c (.slice a2 L2.length c2) L2 W hW.l2 hl2)
      have HW3 := Lib.hid (fun (W : World) (hW : PaS w q1 R1' q2 R3' b1 b3 (.slice a1 L1.length c1) (.slice a2 L2.length c2) (.slice a3 L3.length c3) L1 L2 L3 W) => worth_c (.slice a3 L3.length c3) L3 W hW.l3 hl3)
      have HLA := Lib.hid (fun (t : Bool) (W : World) (hW : PaS w q1 R1' q2 R3' b1 b3 (.slice a1 L1.length c1) (.slice a2 L2.length c2) (.slice a3 L3.length c3) L1 L2 L3 W) => lots_c w q1 R1' b1 t W hW.tw.one HGB1.out)
      have HLB := Lib.hid (fun (t : Bool) (W : World) (hW : PaS w q1 R1' q2 R3' b1 b3 (.slice a1 L1.length c1) (.slice a2 L2.length c2) (.slice a3 L3.length c3) L1 L2 L3 W) => lots_c w q2 R3' b3 t W hW.tw.two HGB3.out)
      have HSO := Lib.hid HPL.out.2.2
      have hwt : wrap64 (wrap64 (worthF L2) + wrap64 (worthF L3)) = wrap64 (worthF L1) := by rw [wrap_wrap2, HPL.out.2.1]
      have hwi : IntKind.i64.wrap (wrap64 (worthF L2) + wrap64 (worthF L3)) = wrap64 (worthF L1) := by rw [IntKind.wrap_i64]; simpa only [wrap64] using hwt
      generalize wrap64 (worthF L1) = x1 at HW1 hwt hwi
      generalize wrap64 (worthF L2) = x2 at HW2 hwt hwi
      generalize wrap64 (worthF L3) = x3 at HW3 hwt hwi
      clear hnn HPL hn
      go_wp2_with fail
      refine (HW1.out _ HPB.out).mono ?_
      rintro e wC ⟨rfl, bC⟩
      have HPC := Lib.hid (HPB.out.on bC)
      clear bC HPB HW1
      go_wp2_with fail
      refine (HW2.out _ HPC.out).mono ?_
      rintro e wD ⟨rfl, bD⟩
      have HPD := Lib.hid (HPC.out.on bD)
      clear bD HPC HW2
      go_wp2_with fail
      refine (HW3.out _ HPD.out).mono ?_
      rintro e wE ⟨rfl, bE⟩
      have HPE := Lib.hid (HPD.out.on bE)
      clear bE HPD HW3
      go_wp2_with fail
      refine (HLA.out true _ HPE.out).mono ?_
      rintro e wF ⟨rfl, bF⟩
      have HPF := Lib.hid (HPE.out.on bF)
      rw [HSO.out true]
      clear bF HPE
      go_wp2_with fail
      refine (HLB.out true _ HPF.out).mono ?_
      rintro e wG ⟨rfl, bG⟩
      have HPG := Lib.hid (HPF.out.on bG)
      clear bG HPF
      go_wp2_with fail
      refine (HLA.out false _ HPG.out).mono ?_
      rintro e wH ⟨rfl, bH⟩
      have HPH := Lib.hid (HPG.out.on bH)
      rw [HSO.out false]
      clear bH HPG
      go_wp2_with fail
      refine (HLB.out false _ HPH.out).mono ?_
      rintro e wI ⟨rfl, bI⟩
      have HPI := Lib.hid (HPH.out.on bI)
      clear bI HPH
      go_wp2_with fail
      go_ret
      exact ⟨rfl, HPI.out.tw.one.below⟩
end Go.Proofs.YtcihghkiidkcnaaDoor
