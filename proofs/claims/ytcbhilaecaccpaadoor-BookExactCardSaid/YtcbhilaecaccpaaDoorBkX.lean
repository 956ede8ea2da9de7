/- The walk of the law BookExact: whatever the deeds, it returns true. Condition: the sentinels lie where the program's text lays them. -/
import Derived.Test.YtcbhilaecaccpaaDoorBkW
import Derived.Test.YtcbhilaecaccpaaDoorRowBAct
import Derived.Test.YtcbhilaecaccpaaDoorRgo
import Derived.Deep.DeepCutAuto
import Derived.Deep.CutBlock
import Derived.Deep.RegionHeld3
namespace Go.Proofs.YtcbhilaecaccpaaDoor
open Go Go.RowKit

/-- The two books, between the rounds. -/
def Two (w0 w : World) (q u : Nat) (b b' : RB) : Prop := ∃ R U, BkAt w0 w q R b ∧ RBk w u U b' ∧ q ≠ u ∧ q ≠ U ∧ R ≠ u ∧ R ≠ U ∧ w0.heap.size ≤ u
theorem Two.on {w0 w w' : World} {q u : Nat} {b b' : RB} (h : Two w0 w q u b b') (hb : Below w.heap.size w w') : Two w0 w' q u b b' := by
  obtain ⟨R, U, h1, h2, h3⟩ := h
  exact ⟨R, U, h1.on hb, h2.on hb, h3⟩
theorem Two.below {w0 w : World} {q u : Nat} {b b' : RB} (h : Two w0 w q u b b') : Below w0.heap.size w0 w := by obtain ⟨R, U, h1, _⟩ := h; exact h1.below
theorem Two.enter {w0 w : World} {q u : Nat} {b b' : RB} (h : Two w0 w q u b b') (x : Od) : Bx w0 (w.alloc (.cells #[.int .i64 x.id, .int .i64 x.tn, .bool x.sell, .int .i64 x.price, .int .i64 x.lots, .int .i64 x.seq] 31)) q u w.heap.size x b b' := by
  obtain ⟨R, U, h1, h2, n1, n2, n3, n4, lo⟩ := h
  have a1 := h1.book.lt
  have a2 := h2.lt
  exact ⟨R, U, h1.alloc _, h2.on ((Below.refl _ _).alloc (Nat.le_refl _) _), BOdBlk.new w x, n1, n2, n3, n4, by omega, by omega, by omega, by omega, lo⟩
theorem Bx.two {w0 w : World} {q u V : Nat} {x : Od} {b b' : RB} (h : Bx w0 w q u V x b b') : Two w0 w q u b b' := by
  obtain ⟨R, U, k⟩ := h
  exact ⟨R, U, k.bk, k.rf, k.n1, k.n2, k.n3, k.n4, k.low⟩
theorem lies_some {w : World} {v : Value} {L : List Od} (h : LiesE encOd w v L) : ∃ a c, v = .slice a L.length c := h.form

set_option maxHeartbeats 12800000 in
set_option maxRecDepth 100000 in
theorem exact_any (s : Nat → Addr) (A : Option Addr) (c : Nat) (xs : List BActD) (w : World) (hs : Sent s w) (hA : BActRow w w.heap.size A xs) (_hG : ∀ x ∈ xs, GoodBAct x) (_hl : xs.length ≤ 9223372036854775807) :
    Calls Tryd.prog 3 #[.slice A xs.length c] w fun e w' => e = .returned (.bool true) ∧ Below w.heap.size w w' := by
  have HS := Lib.hid hs; have HA := Lib.hid hA
  clear hs hA _hG _hl
  go_enter Tryd.func3, Tryd.ntmps3
  go_wp2_with fail
  refine (awake_c s w HS.out).mono ?_
  rintro e w1 ⟨rfl, hb1⟩
  have B1 := Lib.hid hb1
  clear hb1
  go_wp2_with fail
  refine (new_c w1).mono ?_
  rintro e w2 ⟨rfl, t2, b2⟩
  obtain ⟨q, hq⟩ : ∃ q, w1.heap.size = q := ⟨_, rfl⟩
  rw [hq] at t2 ⊢
  go_upto_block 0 with fail
  obtain ⟨u, hu⟩ : ∃ u, w2.heap.size = u := ⟨_, rfl⟩
  have T0 : Hid (Two w (w2.alloc (.cells #[.slice none 0 0, .int .i64 0] 29)) q u ⟨[], 0⟩ ⟨[], 0⟩) := Lib.hid (by
    have k1 : BkAt w w2 q q ⟨[], 0⟩ := ⟨t2, B1.out.trans (b2.mono B1.out.size), by rw [← hq]; exact B1.out.size⟩
    have hlt := t2.lt.1
    exact ⟨q, u, k1.alloc _, ⟨.slice none 0 0, by rw [← hu]; exact heap_alloc_new _ _, OwnE.nil _ _ _, rfl⟩, by omega, by omega, by omega, by omega, by rw [← hu]; exact k1.below.size⟩)
  rw [hu]
  generalize w2.alloc (.cells #[.slice none 0 0, .int .i64 0] 29) = W0 at T0 ⊢
  clear t2 b2 hq hu B1
  go_cut [] (fun wx => Below w.heap.size w wx)
  case first =>
    go_wp2_with fail
    go_loopw [5] (fun I wr => ∃ (i : Nat) (b : RB), I = .int .i64 (i : Int) ∧ i ≤ 60 ∧ GB b ∧ b.came ≤ i ∧ Two w wr q u b b) (fun I _ => 60 - (intOf I).toNat)
    case atStart => exact ⟨0, _, rfl, by omega, GB.empty, Nat.le_refl _, T0.out⟩
    case round =>
      obtain ⟨i, b, rfl, hi60, hgb, hcm, hT⟩ := hrel
      have HT := Lib.hid hT; have HG := Lib.hid hgb; have HCM := Lib.hid hcm
      clear hT hgb hcm T0
      by_cases hlt : i < xs.length ∧ i < 60
      · obtain ⟨h1, h2⟩ := hlt
        obtain ⟨x, hx⟩ : ∃ x, xs[i]? = some x := ⟨_, List.getElem?_eq_getElem h1⟩
        obtain ⟨ad, rfl, c0, c1, c2, c3, c4, c5, c6⟩ := HA.out.cells HT.out.below hx
        have hi0 : (0 : Int) ≤ (i : Int) := by omega
        have hi1 : (i : Int) < (xs.length : Int) := by omega
        have hd1 : decide ((i : Int) < (xs.length : Int)) = true := decide_eq_true hi1
        have hd2 : decide ((i : Int) < 60) = true := decide_eq_true (by omega)
        have K0 : Hid (Bx w ((wr.alloc (.cells #[.int .i64 x.kind, .int .i64 x.o.id, .int .i64 x.o.tn, .bool x.o.sell, .int .i64 x.o.price, .int .i64 x.o.lots, .int .i64 x.o.seq] 33)).alloc (.cells #[.int .i64 x.o.id, .int .i64 x.o.tn, .bool x.o.sell, .int .i64 x.o.price, .int .i64 x.o.lots, .int .i64 x.o.seq] 31)) q u (wr.heap.size + 1) x.o b b) := Lib.hid (by
          have := (HT.out.on ((Below.refl _ _).alloc (Nat.le_refl _) (.cells #[.int .i64 x.kind, .int .i64 x.o.id, .int .i64 x.o.tn, .bool x.o.sell, .int .i64 x.o.price, .int .i64 x.o.lots, .int .i64 x.o.seq] 33))).enter x.o
          rwa [World.size_alloc] at this)
        clear hx HT
        go_upto_block 2 with fail
        obtain ⟨W0, hW0⟩ : ∃ W0, (wr.alloc (.cells #[.int .i64 x.kind, .int .i64 x.o.id, .int .i64 x.o.tn, .bool x.o.sell, .int .i64 x.o.price, .int .i64 x.o.lots, .int .i64 x.o.seq] 33)).alloc (.cells #[.int .i64 x.o.id, .int .i64 x.o.tn, .bool x.o.sell, .int .i64 x.o.price, .int .i64 x.o.lots, .int .i64 x.o.seq] 31) = W0 := ⟨_, rfl⟩
        obtain ⟨V, hV⟩ : ∃ V, wr.heap.size + 1 = V := ⟨_, rfl⟩
        rw [hW0, hV] at K0
        rw [hW0, hV]
        clear hW0 hV c0 c1 c2 c3 c4 c5 c6
        go_cut [] (fun wx => ∃ b', GB b' ∧ b'.came ≤ i + 1 ∧ Bx w wx q u V x.o b' b')
        case first =>
          by_cases hk4 : x.kind = 4
          · as_aux_lemma =>
              obtain ⟨R, U, k0⟩ := K0.out
              obtain ⟨y, hy⟩ : ∃ y, (dropR13 b x.o.id).2.1 = y := ⟨_, rfl⟩
              obtain ⟨m, hm⟩ : ∃ m, (dropR13 b x.o.id).2.2 = m := ⟨_, rfl⟩
              have hm14 : m ≤ 14 := by rw [← hm]; exact dropR13_le b x.o.id
              have hgd := HG.out.drop x.o.id
              have HGD := Lib.hid hgd
              obtain ⟨b', hb'⟩ : ∃ b', (dropR13 b x.o.id).1 = b' := ⟨_, rfl⟩
              have HB' := Lib.hid hb'
              have HD1 := Lib.hid (drop_c s q R b x.o.id W0 (K0.out.sent HS.out) k0.bk.book (Nat.le_trans HG.out.len (by omega)))
              rw [hy, hm, hb'] at HD1
              have HD2 := Lib.hid (fun (W : World) (hW : RBk W u U b) => rdrop13_c u U b x.o.id W hW (Nat.le_trans HG.out.len (by omega)))
              rw [hy, hm, hb'] at HD2
              have e4 : (x.kind == 4) = true := by simpa using hk4
              obtain ⟨o0, o1, o2, o3, o4, o5, ol⟩ := K0.out.blk.cells
              have KK0 := Lib.hid k0
              clear hy hm hgd hb' hk4 k0 K0
              go_wp2_with fail
              refine HD1.out.mono ?_
              rintro e w5 ⟨rfl, t5, g5⟩
              have K5 := Lib.hid (KK0.out.own t5 g5 (.inl rfl))
              clear t5 g5 o0 o1 o2 o3 o4 o5 ol KK0 HD1
              obtain ⟨o0, o1, o2, o3, o4, o5, ol⟩ := K5.out.blk.cells
              go_wp2_with fail
              have K5a := Lib.hid (BxR.on ((Below.refl _ _).alloc (Nat.le_refl _) (.cells #[.int .i64 y.id, .int .i64 y.tn, .bool y.sell, .int .i64 y.price, .int .i64 y.lots, .int .i64 y.seq] 31)) K5.out)
              have HYU : Hid (w5.heap.size ≠ u ∧ w5.heap.size ≠ U) := Lib.hid (by have := K5.out.rf.lt; omega)
              refine (HD2.out _ K5a.out.rf).mono ?_
              rintro e w6 ⟨rfl, ⟨U', t6, l6⟩, g6⟩
              have hz5 : BOdBlk w6 w5.heap.size y := g6.row (BOdBlk.new w5 y) HYU.out.1 HYU.out.2
              have HZ5 := Lib.hid hz5
              have K6 := Lib.hid (K5a.out.ref t6 g6 l6)
              clear t6 l6 g6 o0 o1 o2 o3 o4 o5 ol K5 K5a hz5
              go_wp2_with fail
              obtain ⟨W8, hW8⟩ : ∃ W8, w6.alloc (.cells #[.int .i64 y.id, .int .i64 y.tn, .bool y.sell, .int .i64 y.price, .int .i64 y.lots, .int .i64 y.seq] 38) = W8 := ⟨_, rfl⟩
              have hB8 : Below w6.heap.size w6 W8 := by rw [← hW8]; exact (Below.refl _ _).alloc (Nat.le_refl _) _
              have hz8 : OdB W8 w6.heap.size y := by rw [← hW8]; exact heap_alloc_new _ _
              have hy8 := HZ5.out.on hB8
              have K8 := Lib.hid (K6.out.on hB8)
              rw [hW8]
              have HSS : Hid (∀ W : World, Below W8.heap.size W8 W → W.cell? ⟨w5.heap.size, 0, none⟩ = some (.int .i64 y.id) ∧ W.cell? ⟨w5.heap.size, 1, none⟩ = some (.int .i64 y.tn) ∧ W.cell? ⟨w5.heap.size, 2, none⟩ = some (.bool y.sell) ∧ W.cell? ⟨w5.heap.size, 3, none⟩ = some (.int .i64 y.price) ∧ W.cell? ⟨w5.heap.size, 4, none⟩ = some (.int .i64 y.lots) ∧ W.cell? ⟨w5.heap.size, 5, none⟩ = some (.int .i64 y.seq) ∧ W.cell? ⟨w6.heap.size, 0, none⟩ = some (.int .i64 y.id) ∧ W.cell? ⟨w6.heap.size, 1, none⟩ = some (.int .i64 y.tn) ∧ W.cell? ⟨w6.heap.size, 2, none⟩ = some (.bool y.sell) ∧ W.cell? ⟨w6.heap.size, 3, none⟩ = some (.int .i64 y.price) ∧ W.cell? ⟨w6.heap.size, 4, none⟩ = some (.int .i64 y.lots) ∧ W.cell? ⟨w6.heap.size, 5, none⟩ = some (.int .i64 y.seq) ∧ Below W8.heap.size W8 W) := Lib.hid fun W hb => by
                obtain ⟨y0, y1, y2, y3, y4, y5, _⟩ := (hy8.on hb).cells
                obtain ⟨z0, z1, z2, z3, z4, z5, _⟩ := (hz8.on hb).cells
                exact ⟨y0, y1, y2, y3, y4, y5, z0, z1, z2, z3, z4, z5, hb⟩
              have HSE : Hid (∀ W : World, Below W8.heap.size W8 W → Sent s W) := Lib.hid fun W hb => (K8.out.on hb).bk.sent HS.out
              have HR8 := Lib.hid (Below.refl W8.heap.size W8)
              obtain ⟨y0, y1, y2, y3, y4, y5, z0, z1, z2, z3, z4, z5, hb8⟩ := HSS.out W8 HR8.out
              have hE : ∀ W : World, (Op.equalIn 10000 38 (.agg #[.int .i64 y.id, .int .i64 y.tn, .bool y.sell, .int .i64 y.price, .int .i64 y.lots, .int .i64 y.seq]) (.agg #[.int .i64 y.id, .int .i64 y.tn, .bool y.sell, .int .i64 y.price, .int .i64 y.lots, .int .i64 y.seq])).run Tryd.prog W = .ok true W := fun W => (eqOd y y W).trans (by rw [decide_eq_true rfl])
              have mm : ((m : Int) != (m : Int)) = false := by simp
              clear hW8 hB8 hz8 hy8 K6
              go_region_held3 (fun W => W.cell? ⟨w5.heap.size, 0, none⟩ = some (.int .i64 y.id) ∧ W.cell? ⟨w5.heap.size, 1, none⟩ = some (.int .i64 y.tn) ∧ W.cell? ⟨w5.heap.size, 2, none⟩ = some (.bool y.sell) ∧ W.cell? ⟨w5.heap.size, 3, none⟩ = some (.int .i64 y.price) ∧ W.cell? ⟨w5.heap.size, 4, none⟩ = some (.int .i64 y.lots) ∧ W.cell? ⟨w5.heap.size, 5, none⟩ = some (.int .i64 y.seq) ∧ W.cell? ⟨w6.heap.size, 0, none⟩ = some (.int .i64 y.id) ∧ W.cell? ⟨w6.heap.size, 1, none⟩ = some (.int .i64 y.tn) ∧ W.cell? ⟨w6.heap.size, 2, none⟩ = some (.bool y.sell) ∧ W.cell? ⟨w6.heap.size, 3, none⟩ = some (.int .i64 y.price) ∧ W.cell? ⟨w6.heap.size, 4, none⟩ = some (.int .i64 y.lots) ∧ W.cell? ⟨w6.heap.size, 5, none⟩ = some (.int .i64 y.seq) ∧ Below W8.heap.size W8 W)
                (exact HSS.out _ (by (repeat' (first | (with_reducible exact Below.refl _ _) | (with_reducible refine below_drewN ?_ _) | (with_reducible refine Below.drew ?_) | (with_reducible refine Below.alloc ?_ ?_ _) | (with_reducible refine Below.setCell ?_ ?_ _) | (with_reducible refine Below.trans ?_ (Below.mono (by with_reducible assumption) ?_)) | omega | (simp only [World.size_drew] at *; omega) | (with_reducible refine Below.size (B := 0) ?_)))))
                (first
                  | (go_at_call 10; refine (form_c y _).mono ?_; rintro e wa ⟨rfl, ba⟩)
                  | (go_at_call 11; refine (kind_errV s m _ (HSE.out _ (by (repeat' (first | (with_reducible exact Below.refl _ _) | (with_reducible refine below_drewN ?_ _) | (with_reducible refine Below.drew ?_) | (with_reducible refine Below.alloc ?_ ?_ _) | (with_reducible refine Below.setCell ?_ ?_ _) | (with_reducible refine Below.trans ?_ (Below.mono (by with_reducible assumption) ?_)) | omega | (simp only [World.size_drew] at *; omega) | (with_reducible refine Below.size (B := 0) ?_))))) hm14).mono ?_; rintro e wb ⟨rfl, bb⟩))
              all_goals go_wp2_with fail
              all_goals go_meet
              all_goals exact ⟨b', by rw [← HB'.out]; exact HGD.out.1, by rw [← HB'.out, HGD.out.2]; have := HCM.out; omega, _, _, BxR.on (by (repeat' (first | (with_reducible exact Below.refl _ _) | (with_reducible refine below_drewN ?_ _) | (with_reducible refine Below.drew ?_) | (with_reducible refine Below.alloc ?_ ?_ _) | (with_reducible refine Below.setCell ?_ ?_ _) | (with_reducible refine Below.trans ?_ (Below.mono (by with_reducible assumption) ?_)) | omega | (simp only [World.size_drew] at *; omega) | (with_reducible refine Below.size (B := 0) ?_)))) K8.out⟩
          · by_cases hk5 : x.kind = 5
            · as_aux_lemma =>
                have e4 : (x.kind == 4) = false := by simpa using hk4
                have e5 : (x.kind == 5) = true := by simpa using hk5
                clear hk4 hk5
                obtain ⟨m, hm⟩ : ∃ m, (cutR13 b x.o.id x.o.lots).2 = m := ⟨_, rfl⟩
                have hm14 : m ≤ 14 := by rw [← hm]; exact cutR13_le b x.o.id x.o.lots
                obtain ⟨b', hb'⟩ : ∃ b', (cutR13 b x.o.id x.o.lots).1 = b' := ⟨_, rfl⟩
                have HGB' : Hid (GB b' ∧ b'.came ≤ i + 1) := Lib.hid (by rw [← hb']; have h := HG.out.cut x.o.id x.o.lots; have h2 := h.2; have := HCM.out; exact ⟨h.1, by omega⟩)
                have HDR : Hid (∀ W, Bx w W q u V x.o b b → Calls Tryd.prog 12 #[.pointer (some ⟨q, 0, none⟩), .int .i64 x.o.id, .int .i64 x.o.lots] W fun e w' => e = .returned (errV s m) ∧ Bx w w' q u V x.o b' b) := Lib.hid fun W h => by rw [← hm, ← hb']; exact h.cut_c HS.out HG.out x.o.id x.o.lots
                have HRR : Hid (∀ W, Bx w W q u V x.o b' b → Calls Tryd.prog 13 #[.pointer (some ⟨u, 0, none⟩), .int .i64 x.o.id, .int .i64 x.o.lots] W fun e w' => e = .returned (.int .i64 (m : Nat)) ∧ Bx w w' q u V x.o b' b') := Lib.hid fun W h => by rw [← hm, ← hb']; rw [← hb'] at h; exact h.rcut_c HG.out x.o.id x.o.lots
                have HSS : Hid (∀ (W : World) (b1 b2 : RB), Bx w W q u V x.o b1 b2 → W.cell? ⟨V, 0, none⟩ = some (.int .i64 x.o.id) ∧ W.cell? ⟨V, 1, none⟩ = some (.int .i64 x.o.tn) ∧ W.cell? ⟨V, 2, none⟩ = some (.bool x.o.sell) ∧ W.cell? ⟨V, 3, none⟩ = some (.int .i64 x.o.price) ∧ W.cell? ⟨V, 4, none⟩ = some (.int .i64 x.o.lots) ∧ W.cell? ⟨V, 5, none⟩ = some (.int .i64 x.o.seq)) := Lib.hid fun W b1 b2 h => by
                  obtain ⟨o0, o1, o2, o3, o4, o5, _⟩ := h.blk.cells
                  exact ⟨o0, o1, o2, o3, o4, o5⟩
                have mm : ((m : Int) != (m : Int)) = false := by simp
                have k0 := K0.out
                clear hm hb' K0
                go_wp2_with fail
                go_region_held3 (fun W => W.cell? ⟨V, 0, none⟩ = some (.int .i64 x.o.id) ∧ W.cell? ⟨V, 1, none⟩ = some (.int .i64 x.o.tn) ∧ W.cell? ⟨V, 2, none⟩ = some (.bool x.o.sell) ∧ W.cell? ⟨V, 3, none⟩ = some (.int .i64 x.o.price) ∧ W.cell? ⟨V, 4, none⟩ = some (.int .i64 x.o.lots) ∧ W.cell? ⟨V, 5, none⟩ = some (.int .i64 x.o.seq))
                  (first | (refine HSS.out _ b b ?_; (repeat' (first | (with_reducible assumption) | (with_reducible exact Hid.out (by with_reducible assumption)) | (with_reducible refine Bx.drewN ?_ _) | (with_reducible refine Bx.drew ?_) | (with_reducible refine Bx.on (by with_reducible assumption) ?_))); done) | (refine HSS.out _ b' b ?_; (repeat' (first | (with_reducible assumption) | (with_reducible exact Hid.out (by with_reducible assumption)) | (with_reducible refine Bx.drewN ?_ _) | (with_reducible refine Bx.drew ?_) | (with_reducible refine Bx.on (by with_reducible assumption) ?_))); done) | (refine HSS.out _ b' b' ?_; (repeat' (first | (with_reducible assumption) | (with_reducible exact Hid.out (by with_reducible assumption)) | (with_reducible refine Bx.drewN ?_ _) | (with_reducible refine Bx.drew ?_) | (with_reducible refine Bx.on (by with_reducible assumption) ?_))); done))
                  (first
                    | (go_at_call 12; (with_reducible refine (HDR.out _ (by (repeat' (first | (with_reducible assumption) | (with_reducible exact Hid.out (by with_reducible assumption)) | (with_reducible refine Bx.drewN ?_ _) | (with_reducible refine Bx.drew ?_) | (with_reducible refine Bx.on (by with_reducible assumption) ?_))))).mono ?_); rintro e w5 ⟨rfl, kw5⟩)
                    | (go_at_call 11; (with_reducible refine (Bx.kind_c (b := b') (b' := b) (by (repeat' (first | (with_reducible assumption) | (with_reducible exact Hid.out (by with_reducible assumption)) | (with_reducible refine Bx.drewN ?_ _) | (with_reducible refine Bx.drew ?_) | (with_reducible refine Bx.on (by with_reducible assumption) ?_)))) HS.out m hm14).mono ?_); rintro e w6 ⟨rfl, kw6⟩)
                    | (go_at_call 13; (with_reducible refine (HRR.out _ (by (repeat' (first | (with_reducible assumption) | (with_reducible exact Hid.out (by with_reducible assumption)) | (with_reducible refine Bx.drewN ?_ _) | (with_reducible refine Bx.drew ?_) | (with_reducible refine Bx.on (by with_reducible assumption) ?_))))).mono ?_); rintro e w7 ⟨rfl, kw7⟩))
                all_goals go_wp2_with fail
                all_goals go_meet
                all_goals exact ⟨b', HGB'.out.1, HGB'.out.2, by (repeat' (first | (with_reducible assumption) | (with_reducible exact Hid.out (by with_reducible assumption)) | (with_reducible refine Bx.drewN ?_ _) | (with_reducible refine Bx.drew ?_) | (with_reducible refine Bx.on (by with_reducible assumption) ?_)))⟩
            · as_aux_lemma =>
                have e4 : (x.kind == 4) = false := by simpa using hk4
                have e5 : (x.kind == 5) = false := by simpa using hk5
                clear hk4 hk5
                obtain ⟨m, hm⟩ : ∃ m, (addR13 b x.o).2 = m := ⟨_, rfl⟩
                have hm14 : m ≤ 14 := by rw [← hm]; exact addR13_le b x.o
                obtain ⟨b', hb'⟩ : ∃ b', (addR13 b x.o).1 = b' := ⟨_, rfl⟩
                have HGB' : Hid (GB b' ∧ b'.came ≤ i + 1) := Lib.hid (by rw [← hb']; have h := HG.out.add x.o; have h2 := h.2; have := HCM.out; exact ⟨h.1, by omega⟩)
                have HDR : Hid (∀ W, Bx w W q u V x.o b b → Calls Tryd.prog 14 #[.pointer (some ⟨q, 0, none⟩), .agg #[.int .i64 x.o.id, .int .i64 x.o.tn, .bool x.o.sell, .int .i64 x.o.price, .int .i64 x.o.lots, .int .i64 x.o.seq]] W fun e w' => e = .returned (errV s m) ∧ Bx w w' q u V x.o b' b) := Lib.hid fun W h => by rw [← hm, ← hb']; exact h.add_c HS.out HG.out (by have := HCM.out; omega) x.o
                have HRR : Hid (∀ W, Bx w W q u V x.o b' b → Calls Tryd.prog 15 #[.pointer (some ⟨u, 0, none⟩), .agg #[.int .i64 x.o.id, .int .i64 x.o.tn, .bool x.o.sell, .int .i64 x.o.price, .int .i64 x.o.lots, .int .i64 x.o.seq]] W fun e w' => e = .returned (.int .i64 (m : Nat)) ∧ Bx w w' q u V x.o b' b') := Lib.hid fun W h => by rw [← hm, ← hb']; rw [← hb'] at h; exact h.radd_c HG.out (by have := HCM.out; omega) x.o
                have HSS : Hid (∀ (W : World) (b1 b2 : RB), Bx w W q u V x.o b1 b2 → W.cell? ⟨V, 0, none⟩ = some (.int .i64 x.o.id) ∧ W.cell? ⟨V, 1, none⟩ = some (.int .i64 x.o.tn) ∧ W.cell? ⟨V, 2, none⟩ = some (.bool x.o.sell) ∧ W.cell? ⟨V, 3, none⟩ = some (.int .i64 x.o.price) ∧ W.cell? ⟨V, 4, none⟩ = some (.int .i64 x.o.lots) ∧ W.cell? ⟨V, 5, none⟩ = some (.int .i64 x.o.seq)) := Lib.hid fun W b1 b2 h => by
                  obtain ⟨o0, o1, o2, o3, o4, o5, _⟩ := h.blk.cells
                  exact ⟨o0, o1, o2, o3, o4, o5⟩
                have mm : ((m : Int) != (m : Int)) = false := by simp
                have k0 := K0.out
                clear hm hb' K0
                go_wp2_with fail
                go_region_held3 (fun W => W.cell? ⟨V, 0, none⟩ = some (.int .i64 x.o.id) ∧ W.cell? ⟨V, 1, none⟩ = some (.int .i64 x.o.tn) ∧ W.cell? ⟨V, 2, none⟩ = some (.bool x.o.sell) ∧ W.cell? ⟨V, 3, none⟩ = some (.int .i64 x.o.price) ∧ W.cell? ⟨V, 4, none⟩ = some (.int .i64 x.o.lots) ∧ W.cell? ⟨V, 5, none⟩ = some (.int .i64 x.o.seq))
                  (first | (refine HSS.out _ b b ?_; (repeat' (first | (with_reducible assumption) | (with_reducible exact Hid.out (by with_reducible assumption)) | (with_reducible refine Bx.drewN ?_ _) | (with_reducible refine Bx.drew ?_) | (with_reducible refine Bx.on (by with_reducible assumption) ?_))); done) | (refine HSS.out _ b' b ?_; (repeat' (first | (with_reducible assumption) | (with_reducible exact Hid.out (by with_reducible assumption)) | (with_reducible refine Bx.drewN ?_ _) | (with_reducible refine Bx.drew ?_) | (with_reducible refine Bx.on (by with_reducible assumption) ?_))); done) | (refine HSS.out _ b' b' ?_; (repeat' (first | (with_reducible assumption) | (with_reducible exact Hid.out (by with_reducible assumption)) | (with_reducible refine Bx.drewN ?_ _) | (with_reducible refine Bx.drew ?_) | (with_reducible refine Bx.on (by with_reducible assumption) ?_))); done))
                  (first
                    | (go_at_call 14; (with_reducible refine (HDR.out _ (by (repeat' (first | (with_reducible assumption) | (with_reducible exact Hid.out (by with_reducible assumption)) | (with_reducible refine Bx.drewN ?_ _) | (with_reducible refine Bx.drew ?_) | (with_reducible refine Bx.on (by with_reducible assumption) ?_))))).mono ?_); rintro e w5 ⟨rfl, kw5⟩)
                    | (go_at_call 11; (with_reducible refine (Bx.kind_c (b := b') (b' := b) (by (repeat' (first | (with_reducible assumption) | (with_reducible exact Hid.out (by with_reducible assumption)) | (with_reducible refine Bx.drewN ?_ _) | (with_reducible refine Bx.drew ?_) | (with_reducible refine Bx.on (by with_reducible assumption) ?_)))) HS.out m hm14).mono ?_); rintro e w6 ⟨rfl, kw6⟩)
                    | (go_at_call 10; (with_reducible refine (Bx.form_c (b := b') (b' := b) (by (repeat' (first | (with_reducible assumption) | (with_reducible exact Hid.out (by with_reducible assumption)) | (with_reducible refine Bx.drewN ?_ _) | (with_reducible refine Bx.drew ?_) | (with_reducible refine Bx.on (by with_reducible assumption) ?_)))) x.o).mono ?_); rintro e w8 ⟨rfl, kw8⟩)
                    | (go_at_call 15; (with_reducible refine (HRR.out _ (by (repeat' (first | (with_reducible assumption) | (with_reducible exact Hid.out (by with_reducible assumption)) | (with_reducible refine Bx.drewN ?_ _) | (with_reducible refine Bx.drew ?_) | (with_reducible refine Bx.on (by with_reducible assumption) ?_))))).mono ?_); rintro e w7 ⟨rfl, kw7⟩))
                all_goals go_wp2_with fail
                all_goals go_meet
                all_goals exact ⟨b', HGB'.out.1, HGB'.out.2, by (repeat' (first | (with_reducible assumption) | (with_reducible exact Hid.out (by with_reducible assumption)) | (with_reducible refine Bx.drewN ?_ _) | (with_reducible refine Bx.drew ?_) | (with_reducible refine Bx.on (by with_reducible assumption) ?_)))⟩
        case rest =>
        obtain ⟨b', hgb', hcm', k5⟩ := hcut
        have HG' := Lib.hid hgb'; have HCM' := Lib.hid hcm'
        obtain ⟨R, U, k5⟩ := k5
        have K5 := Lib.hid k5
        obtain ⟨y, hy⟩ : ∃ y, (b'.L[pos b'.L x.o.id]?).getD od0 = y := ⟨_, rfl⟩
        obtain ⟨bI, hbI⟩ : ∃ bI, decide (pos b'.L x.o.id < b'.L.length) = bI := ⟨_, rfl⟩
        obtain ⟨aI, haI⟩ : ∃ aI, posI b'.L x.o.id = aI := ⟨_, rfl⟩
        obtain ⟨gd, hgd⟩ : ∃ gd, goodO x.o = gd := ⟨_, rfl⟩
        have HY := Lib.hid hy; have HBI := Lib.hid hbI; have HAI := Lib.hid haI; have HGDD := Lib.hid hgd
        have HOF := Lib.hid (k5.bk.of hgb' x.o.id)
        rw [hy, hbI] at HOF
        have HAT := Lib.hid (fun (W : World) (hW : RBk W u U b') => rat13_c u U b' x.o.id W hW (Nat.le_trans hgb'.len (by omega)))
        rw [haI] at HAT
        obtain ⟨o0, o1, o2, o3, o4, o5, ol⟩ := k5.blk.cells
        clear hgb' hcm' k5 K0 HG HCM hy hbI haI hgd
        go_wp2_with fail
        refine HOF.out.mono ?_
        rintro e w6 ⟨rfl, t6, b6⟩
        have K6 := Lib.hid (K5.out.on b6)
        clear t6 b6 o0 o1 o2 o3 o4 o5 ol HOF K5
        obtain ⟨o0, o1, o2, o3, o4, o5, ol⟩ := K6.out.blk.cells
        go_upto_region 22 with fail
        obtain ⟨WB, hWB⟩ : ∃ WB, w6.alloc (.cells #[.int .i64 y.id, .int .i64 y.tn, .bool y.sell, .int .i64 y.price, .int .i64 y.lots, .int .i64 y.seq] 31) = WB := ⟨_, rfl⟩
        obtain ⟨Y, hY⟩ : ∃ Y, w6.heap.size = Y := ⟨_, rfl⟩
        have K7 : Hid (BxR w WB q R u U V x.o b' b') := Lib.hid (by rw [← hWB]; exact BxR.on ((Below.refl _ _).alloc (Nat.le_refl _) _) K6.out)
        have HYB : Hid (BOdBlk WB Y y) := Lib.hid (by rw [← hWB, ← hY]; exact BOdBlk.new w6 y)
        rw [hWB, hY]
        clear hWB hY o0 o1 o2 o3 o4 o5 ol K6
        obtain ⟨o0, o1, o2, o3, o4, o5, ol⟩ := K7.out.blk.cells
        go_wp2_with fail
        refine (HAT.out _ K7.out.rf).mono ?_
        rintro e w7 ⟨rfl, rfl⟩
        clear o0 o1 o2 o3 o4 o5 ol HAT
        go_upto_region 23 with fail
        go_cut [163] (fun cc wx => cc = .bool false ∧ Bx w wx q u V x.o b' b')
        case first => as_aux_lemma =>
          rcases posI_cases b'.L x.o.id with ⟨i0, y0, p1, p2, p3, p4⟩ | ⟨p1, p2⟩
          · as_aux_lemma =>
            obtain rfl : bI = true := by rw [← HBI.out, p2]; exact decide_eq_true (List.getElem?_eq_some_iff.1 p3).1
            obtain rfl : aI = (i0 : Int) := by rw [← HAI.out]; exact p1
            obtain rfl : y = y0 := by rw [← HY.out, p2, p3]; rfl
            obtain ⟨A9, c9, c0, _, _, cx⟩ := K7.out.rf.cells
            obtain ⟨ad9, rfl, ea9, _, r0, r1, r2, r3, r4, r5⟩ := cx i0 y p3
            have hR := K7.out.rf.lt
            have hi0' : (0 : Int) ≤ (i0 : Int) := by omega
            have hi1' : (i0 : Int) < (b'.L.length : Int) := by have := (List.getElem?_eq_some_iff.1 p3).1; omega
            have hd9 : decide ((0 : Int) ≤ (i0 : Int)) = true := decide_eq_true hi0'
            clear cx p1 p2 p3 p4
            have HSS : Hid (∀ W : World, Below WB.heap.size WB W → W.cell? ⟨V, 0, none⟩ = some (.int .i64 x.o.id) ∧ W.cell? ⟨V, 1, none⟩ = some (.int .i64 x.o.tn) ∧ W.cell? ⟨V, 2, none⟩ = some (.bool x.o.sell) ∧ W.cell? ⟨V, 3, none⟩ = some (.int .i64 x.o.price) ∧ W.cell? ⟨V, 4, none⟩ = some (.int .i64 x.o.lots) ∧ W.cell? ⟨V, 5, none⟩ = some (.int .i64 x.o.seq) ∧ W.cell? ⟨Y, 0, none⟩ = some (.int .i64 y.id) ∧ W.cell? ⟨Y, 1, none⟩ = some (.int .i64 y.tn) ∧ W.cell? ⟨Y, 2, none⟩ = some (.bool y.sell) ∧ W.cell? ⟨Y, 3, none⟩ = some (.int .i64 y.price) ∧ W.cell? ⟨Y, 4, none⟩ = some (.int .i64 y.lots) ∧ W.cell? ⟨Y, 5, none⟩ = some (.int .i64 y.seq) ∧ W.cell? ⟨u, 0, none⟩ = some (.slice (some ad9) b'.L.length c9) ∧ W.cell? ⟨U, i0 * 6, none⟩ = some (.int .i64 y.id) ∧ W.cell? ⟨U, i0 * 6 + 1, none⟩ = some (.int .i64 y.tn) ∧ W.cell? ⟨U, i0 * 6 + 2, none⟩ = some (.bool y.sell) ∧ W.cell? ⟨U, i0 * 6 + 3, none⟩ = some (.int .i64 y.price) ∧ W.cell? ⟨U, i0 * 6 + 4, none⟩ = some (.int .i64 y.lots) ∧ W.cell? ⟨U, i0 * 6 + 5, none⟩ = some (.int .i64 y.seq)) := Lib.hid fun W hb => by
              obtain ⟨o0, o1, o2, o3, o4, o5, _⟩ := (BOdBlk.on hb K7.out.blk).cells
              obtain ⟨y0, y1, y2, y3, y4, y5, _⟩ := (BOdBlk.on hb HYB.out).cells
              exact ⟨o0, o1, o2, o3, o4, o5, y0, y1, y2, y3, y4, y5, (hb.cell (p := ⟨u, 0, none⟩) hR.1).trans c0, (hb.cell (p := ⟨U, i0 * 6, none⟩) hR.2.1).trans r0, (hb.cell (p := ⟨U, i0 * 6 + 1, none⟩) hR.2.1).trans r1, (hb.cell (p := ⟨U, i0 * 6 + 2, none⟩) hR.2.1).trans r2, (hb.cell (p := ⟨U, i0 * 6 + 3, none⟩) hR.2.1).trans r3, (hb.cell (p := ⟨U, i0 * 6 + 4, none⟩) hR.2.1).trans r4, (hb.cell (p := ⟨U, i0 * 6 + 5, none⟩) hR.2.1).trans r5⟩
            have HTR : Hid (∀ W W' : World, Below WB.heap.size WB W → Below W.heap.size W W' → Below WB.heap.size WB W') := Lib.hid fun W W' h1 h2 => h1.trans (h2.mono h1.size)
            have HGO : Hid (∀ W, Below WB.heap.size WB W → Calls Tryd.prog 18 #[.agg #[.int .i64 x.o.id, .int .i64 x.o.tn, .bool x.o.sell, .int .i64 x.o.price, .int .i64 x.o.lots, .int .i64 x.o.seq]] W fun e w' => e = .returned (.bool gd) ∧ Below WB.heap.size WB w') := Lib.hid fun W h => by rw [← HGDD.out]; exact (good_c x.o W).mono fun _ _ ⟨k1, k2⟩ => ⟨k1, HTR.out _ _ h k2⟩
            have HRG : Hid (∀ W, Below WB.heap.size WB W → Calls Tryd.prog 19 #[.agg #[.int .i64 x.o.id, .int .i64 x.o.tn, .bool x.o.sell, .int .i64 x.o.price, .int .i64 x.o.lots, .int .i64 x.o.seq]] W fun e w' => e = .returned (.bool gd) ∧ Below WB.heap.size WB w') := Lib.hid fun W h => by rw [← HGDD.out]; exact (rgoodO_c x.o W).mono fun _ _ ⟨k1, k2⟩ => ⟨k1, HTR.out _ _ h k2⟩
            have HFO : Hid (∀ W, Below WB.heap.size WB W → Calls Tryd.prog 10 #[.agg #[.int .i64 x.o.id, .int .i64 x.o.tn, .bool x.o.sell, .int .i64 x.o.price, .int .i64 x.o.lots, .int .i64 x.o.seq]] W fun e w' => e = .returned (.agg #[.int .i64 x.o.id, .int .i64 x.o.tn, .bool x.o.sell, .int .i64 x.o.price, .int .i64 x.o.lots, .int .i64 x.o.seq]) ∧ Below WB.heap.size WB w') := Lib.hid fun W h => (form_c x.o W).mono fun _ _ ⟨k1, k2⟩ => ⟨k1, HTR.out _ _ h k2⟩
            have HFY : Hid (∀ W, Below WB.heap.size WB W → Calls Tryd.prog 10 #[.agg #[.int .i64 y.id, .int .i64 y.tn, .bool y.sell, .int .i64 y.price, .int .i64 y.lots, .int .i64 y.seq]] W fun e w' => e = .returned (.agg #[.int .i64 y.id, .int .i64 y.tn, .bool y.sell, .int .i64 y.price, .int .i64 y.lots, .int .i64 y.seq]) ∧ Below WB.heap.size WB w') := Lib.hid fun W h => (form_c y W).mono fun _ _ ⟨k1, k2⟩ => ⟨k1, HTR.out _ _ h k2⟩
            have hE : ∀ W : World, (Op.equalIn 10000 38 (.agg #[.int .i64 y.id, .int .i64 y.tn, .bool y.sell, .int .i64 y.price, .int .i64 y.lots, .int .i64 y.seq]) (.agg #[.int .i64 y.id, .int .i64 y.tn, .bool y.sell, .int .i64 y.price, .int .i64 y.lots, .int .i64 y.seq])).run Tryd.prog W = .ok true W := fun W => (eqOd y y W).trans (by rw [decide_eq_true rfl])
            have HLE : Hid (∀ W, Below WB.heap.size WB W → Calls Tryd.prog 20 #[.pointer (some ⟨q, 0, none⟩)] W fun e w' => e = .returned (.int .i64 (b'.L.length : Int)) ∧ Below WB.heap.size WB w') := Lib.hid fun W h => (K7.out.on h).bk.size.mono fun _ _ ⟨k1, k2⟩ => ⟨k1, by rw [k2]; exact h⟩
            obtain ⟨MT, hMT⟩ : ∃ M, listR13 b'.L true = M := ⟨_, rfl⟩
            have HMT := Lib.hid hMT
            have HLNT : Hid (MT.length ≤ 1000) := Lib.hid (by rw [← hMT]; exact Nat.le_trans (listR13_le _ _) (Nat.le_trans HG'.out.len (by omega)))
            clear hMT
            have HLT : Hid (∀ W, Below WB.heap.size WB W → Calls Tryd.prog 22 #[.pointer (some ⟨q, 0, none⟩), .bool true] W fun e w' => ∃ a d, e = .returned (.slice a MT.length d) ∧ LiesE encOd w' (.slice a MT.length d) MT ∧ Below WB.heap.size WB w') := Lib.hid fun W h => by
              refine ((K7.out.on h).bk.list HG'.out true).mono ?_
              rw [HMT.out]
              rintro e w' ⟨v, rfl, ho, _, hb⟩
              obtain ⟨a, d, rfl⟩ := ho.form
              exact ⟨a, d, rfl, ho.lies, HTR.out _ _ h hb⟩
            have HRT : Hid (∀ (W : World) (v1 : Value), Below WB.heap.size WB W → LiesE encOd W v1 MT → Calls Tryd.prog 23 #[.pointer (some ⟨u, 0, none⟩), .bool true] W fun e w' => ∃ a d, e = .returned (.slice a MT.length d) ∧ LiesE encOd w' (.slice a MT.length d) MT ∧ LiesE encOd w' v1 MT ∧ Below WB.heap.size WB w') := Lib.hid fun W v1 h hl => by
              refine (rlist13_c u U b' true W (K7.out.on h).rf HG'.out.len).mono ?_
              rw [HMT.out]
              rintro e w' ⟨v, rfl, ho, hb⟩
              obtain ⟨a, d, rfl⟩ := ho.form
              exact ⟨a, d, rfl, ho.lies, hl.onB hb, HTR.out _ _ h hb⟩
            obtain ⟨MF, hMF⟩ : ∃ M, listR13 b'.L false = M := ⟨_, rfl⟩
            have HMF := Lib.hid hMF
            have HLNF : Hid (MF.length ≤ 1000) := Lib.hid (by rw [← hMF]; exact Nat.le_trans (listR13_le _ _) (Nat.le_trans HG'.out.len (by omega)))
            clear hMF
            have HLF : Hid (∀ W, Below WB.heap.size WB W → Calls Tryd.prog 22 #[.pointer (some ⟨q, 0, none⟩), .bool false] W fun e w' => ∃ a d, e = .returned (.slice a MF.length d) ∧ LiesE encOd w' (.slice a MF.length d) MF ∧ Below WB.heap.size WB w') := Lib.hid fun W h => by
              refine ((K7.out.on h).bk.list HG'.out false).mono ?_
              rw [HMF.out]
              rintro e w' ⟨v, rfl, ho, _, hb⟩
              obtain ⟨a, d, rfl⟩ := ho.form
              exact ⟨a, d, rfl, ho.lies, HTR.out _ _ h hb⟩
            have HRF : Hid (∀ (W : World) (v1 : Value), Below WB.heap.size WB W → LiesE encOd W v1 MF → Calls Tryd.prog 23 #[.pointer (some ⟨u, 0, none⟩), .bool false] W fun e w' => ∃ a d, e = .returned (.slice a MF.length d) ∧ LiesE encOd w' (.slice a MF.length d) MF ∧ LiesE encOd w' v1 MF ∧ Below WB.heap.size WB w') := Lib.hid fun W v1 h hl => by
              refine (rlist13_c u U b' false W (K7.out.on h).rf HG'.out.len).mono ?_
              rw [HMF.out]
              rintro e w' ⟨v, rfl, ho, hb⟩
              obtain ⟨a, d, rfl⟩ := ho.form
              exact ⟨a, d, rfl, ho.lies, hl.onB hb, HTR.out _ _ h hb⟩
            have HSM : Hid (∀ (W : World) (v1 v2 : Value) (M : List Od), M.length ≤ 1000 → LiesE encOd W v1 M → LiesE encOd W v2 M → Below WB.heap.size WB W → Calls Tryd.prog 21 #[v1, v2] W fun e w' => e = .returned (.bool true) ∧ Below WB.heap.size WB w') := Lib.hid fun W v1 v2 M hM h1 h2 h => by
              have := same13_c v1 v2 M M W h1 h2 hM
              rw [decide_eq_true rfl] at this
              exact this.mono fun _ _ ⟨k1, k2⟩ => ⟨k1, HTR.out _ _ h k2⟩
            have gg : (gd != gd) = false := by simp
            have nn : ((b'.L.length : Int) != (b'.L.length : Int)) = false := by simp
            have HR9 := Lib.hid (Below.refl WB.heap.size WB)
            clear hR c0 r0 r1 r2 r3 r4 r5
            refine wp_region_held_drew (S := fun W => Below WB.heap.size WB W) (by kernel_rfl) ?_ (fun hHeld => ?_)
            · exact HR9.out.drew
            refine rg_take 0 (some 111) _ (by kernel_rfl) (by kernel_rfl) (by kernel_rfl) (fun _ _ _ h => h) (by kernel_rfl) (by kernel_rfl) (by intro w' hSw op_ ho; obtain ⟨o0, o1, o2, o3, o4, o5, y0, y1, y2, y3, y4, y5, c0, r0, r1, r2, r3, r4, r5⟩ := HSS.out _ hSw; simp only [List.getElem?_toArray, List.getElem?_cons_zero, Option.some.injEq] at ho; subst ho; go_simp; with_reducible rfl) (by assumption) ?_
            try simp only [Act.put, List.setIfInBounds_toArray, List.set_cons_zero, List.set_cons_succ]
            refine rg_take 2 (some 113) _ (by kernel_rfl) (by kernel_rfl) (by kernel_rfl) (fun _ _ _ h => h) (by kernel_rfl) (by kernel_rfl) (by intro w' hSw op_ ho; obtain ⟨o0, o1, o2, o3, o4, o5, y0, y1, y2, y3, y4, y5, c0, r0, r1, r2, r3, r4, r5⟩ := HSS.out _ hSw; simp only [List.getElem?_toArray, List.getElem?_cons_succ, List.getElem?_cons_zero, Option.some.injEq] at ho; subst ho; go_simp; with_reducible rfl) (by assumption) ?_
            try simp only [Act.put, List.setIfInBounds_toArray, List.set_cons_zero, List.set_cons_succ]
            refine rg_one 1 (by kernel_rfl) (by kernel_rfl) (fun op_ ho K hK => ?_)
            simp only [List.getElem?_toArray, List.getElem?_cons_succ, List.getElem?_cons_zero, Option.some.injEq] at ho
            subst ho
            go_simp
            go_at_call 18
            refine (HGO.out _ (by assumption)).mono ?_
            rintro e wa ⟨rfl, ra⟩
            go_wp2_with fail
            refine hK.out _ _ (by assumption) (fun hHeld => ?_)
            clear hK
            try simp only [Act.put, List.setIfInBounds_toArray, List.set_cons_zero, List.set_cons_succ]
            refine rg_one 3 (by kernel_rfl) (by kernel_rfl) (fun op_ ho K hK => ?_)
            simp only [List.getElem?_toArray, List.getElem?_cons_succ, List.getElem?_cons_zero, Option.some.injEq] at ho
            subst ho
            go_simp
            go_at_call 10
            refine (HFO.out _ (by assumption)).mono ?_
            rintro e wa ⟨rfl, ra⟩
            go_wp2_with fail
            refine hK.out _ _ (by assumption) (fun hHeld => ?_)
            clear hK
            try simp only [Act.put, List.setIfInBounds_toArray, List.set_cons_zero, List.set_cons_succ]
            refine rg_one 4 (by kernel_rfl) (by kernel_rfl) (fun op_ ho K hK => ?_)
            simp only [List.getElem?_toArray, List.getElem?_cons_succ, List.getElem?_cons_zero, Option.some.injEq] at ho
            subst ho
            go_simp
            go_at_call 19
            refine (HRG.out _ (by assumption)).mono ?_
            rintro e wa ⟨rfl, ra⟩
            go_wp2_with fail
            refine hK.out _ _ (by assumption) (fun hHeld => ?_)
            clear hK
            try simp only [Act.put, List.setIfInBounds_toArray, List.set_cons_zero, List.set_cons_succ]
            refine rg_take 5 (some 116) _ (by kernel_rfl) (by kernel_rfl) (by kernel_rfl) (fun _ _ _ h => h) (by kernel_rfl) (by kernel_rfl) (by intro w' hSw op_ ho; obtain ⟨o0, o1, o2, o3, o4, o5, y0, y1, y2, y3, y4, y5, c0, r0, r1, r2, r3, r4, r5⟩ := HSS.out _ hSw; simp only [List.getElem?_toArray, List.getElem?_cons_succ, List.getElem?_cons_zero, Option.some.injEq] at ho; subst ho; go_simp; with_reducible rfl) (by assumption) ?_
            try simp only [Act.put, List.setIfInBounds_toArray, List.set_cons_zero, List.set_cons_succ]
            refine rg_take 6 (some 117) _ (by kernel_rfl) (by kernel_rfl) (by kernel_rfl) (fun _ _ _ h => h) (by kernel_rfl) (by kernel_rfl) (by intro w' hSw op_ ho; obtain ⟨o0, o1, o2, o3, o4, o5, y0, y1, y2, y3, y4, y5, c0, r0, r1, r2, r3, r4, r5⟩ := HSS.out _ hSw; simp only [List.getElem?_toArray, List.getElem?_cons_succ, List.getElem?_cons_zero, Option.some.injEq] at ho; subst ho; go_simp; with_reducible rfl) (by assumption) ?_
            try simp only [Act.put, List.setIfInBounds_toArray, List.set_cons_zero, List.set_cons_succ]
            refine rg_take 7 (some 118) _ (by kernel_rfl) (by kernel_rfl) (by kernel_rfl) (fun _ _ _ h => h) (by kernel_rfl) (by kernel_rfl) (by intro w' hSw op_ ho; obtain ⟨o0, o1, o2, o3, o4, o5, y0, y1, y2, y3, y4, y5, c0, r0, r1, r2, r3, r4, r5⟩ := HSS.out _ hSw; simp only [List.getElem?_toArray, List.getElem?_cons_succ, List.getElem?_cons_zero, Option.some.injEq] at ho; subst ho; go_simp; with_reducible rfl) (by assumption) ?_
            try simp only [Act.put, List.setIfInBounds_toArray, List.set_cons_zero, List.set_cons_succ]
            refine rg_take 8 (some 119) _ (by kernel_rfl) (by kernel_rfl) (by kernel_rfl) (fun _ _ _ h => h) (by kernel_rfl) (by kernel_rfl) (by intro w' hSw op_ ho; obtain ⟨o0, o1, o2, o3, o4, o5, y0, y1, y2, y3, y4, y5, c0, r0, r1, r2, r3, r4, r5⟩ := HSS.out _ hSw; simp only [List.getElem?_toArray, List.getElem?_cons_succ, List.getElem?_cons_zero, Option.some.injEq] at ho; subst ho; go_simp; with_reducible rfl) (by assumption) ?_
            try simp only [Act.put, List.setIfInBounds_toArray, List.set_cons_zero, List.set_cons_succ]
            refine rg_take 9 (some 120) _ (by kernel_rfl) (by kernel_rfl) (by kernel_rfl) (fun _ _ _ h => h) (by kernel_rfl) (by kernel_rfl) (by intro w' hSw op_ ho; obtain ⟨o0, o1, o2, o3, o4, o5, y0, y1, y2, y3, y4, y5, c0, r0, r1, r2, r3, r4, r5⟩ := HSS.out _ hSw; simp only [List.getElem?_toArray, List.getElem?_cons_succ, List.getElem?_cons_zero, Option.some.injEq] at ho; subst ho; go_simp; with_reducible rfl) (by assumption) ?_
            try simp only [Act.put, List.setIfInBounds_toArray, List.set_cons_zero, List.set_cons_succ]
            refine rg_take 10 (some 121) _ (by kernel_rfl) (by kernel_rfl) (by kernel_rfl) (fun _ _ _ h => h) (by kernel_rfl) (by kernel_rfl) (by intro w' hSw op_ ho; obtain ⟨o0, o1, o2, o3, o4, o5, y0, y1, y2, y3, y4, y5, c0, r0, r1, r2, r3, r4, r5⟩ := HSS.out _ hSw; simp only [List.getElem?_toArray, List.getElem?_cons_succ, List.getElem?_cons_zero, Option.some.injEq] at ho; subst ho; go_simp; with_reducible rfl) (by assumption) ?_
            try simp only [Act.put, List.setIfInBounds_toArray, List.set_cons_zero, List.set_cons_succ]
            refine rg_take 11 (some 122) _ (by kernel_rfl) (by kernel_rfl) (by kernel_rfl) (fun _ _ _ h => h) (by kernel_rfl) (by kernel_rfl) (by intro w' hSw op_ ho; obtain ⟨o0, o1, o2, o3, o4, o5, y0, y1, y2, y3, y4, y5, c0, r0, r1, r2, r3, r4, r5⟩ := HSS.out _ hSw; simp only [List.getElem?_toArray, List.getElem?_cons_succ, List.getElem?_cons_zero, Option.some.injEq] at ho; subst ho; go_simp; with_reducible rfl) (by assumption) ?_
            try simp only [Act.put, List.setIfInBounds_toArray, List.set_cons_zero, List.set_cons_succ]
            refine rg_take 12 (some 123) _ (by kernel_rfl) (by kernel_rfl) (by kernel_rfl) (fun _ _ _ h => h) (by kernel_rfl) (by kernel_rfl) (by intro w' hSw op_ ho; obtain ⟨o0, o1, o2, o3, o4, o5, y0, y1, y2, y3, y4, y5, c0, r0, r1, r2, r3, r4, r5⟩ := HSS.out _ hSw; simp only [List.getElem?_toArray, List.getElem?_cons_succ, List.getElem?_cons_zero, Option.some.injEq] at ho; subst ho; go_simp; with_reducible rfl) (by assumption) ?_
            try simp only [Act.put, List.setIfInBounds_toArray, List.set_cons_zero, List.set_cons_succ]
            refine rg_take 13 (some 124) _ (by kernel_rfl) (by kernel_rfl) (by kernel_rfl) (fun _ _ _ h => h) (by kernel_rfl) (by kernel_rfl) (by intro w' hSw op_ ho; obtain ⟨o0, o1, o2, o3, o4, o5, y0, y1, y2, y3, y4, y5, c0, r0, r1, r2, r3, r4, r5⟩ := HSS.out _ hSw; simp only [List.getElem?_toArray, List.getElem?_cons_succ, List.getElem?_cons_zero, Option.some.injEq] at ho; subst ho; go_simp; with_reducible rfl) (by assumption) ?_
            try simp only [Act.put, List.setIfInBounds_toArray, List.set_cons_zero, List.set_cons_succ]
            refine rg_take 14 (some 125) _ (by kernel_rfl) (by kernel_rfl) (by kernel_rfl) (fun _ _ _ h => h) (by kernel_rfl) (by kernel_rfl) (by intro w' hSw op_ ho; obtain ⟨o0, o1, o2, o3, o4, o5, y0, y1, y2, y3, y4, y5, c0, r0, r1, r2, r3, r4, r5⟩ := HSS.out _ hSw; simp only [List.getElem?_toArray, List.getElem?_cons_succ, List.getElem?_cons_zero, Option.some.injEq] at ho; subst ho; go_simp; with_reducible rfl) (by assumption) ?_
            try simp only [Act.put, List.setIfInBounds_toArray, List.set_cons_zero, List.set_cons_succ]
            refine rg_take 15 (some 126) _ (by kernel_rfl) (by kernel_rfl) (by kernel_rfl) (fun _ _ _ h => h) (by kernel_rfl) (by kernel_rfl) (by intro w' hSw op_ ho; obtain ⟨o0, o1, o2, o3, o4, o5, y0, y1, y2, y3, y4, y5, c0, r0, r1, r2, r3, r4, r5⟩ := HSS.out _ hSw; simp only [List.getElem?_toArray, List.getElem?_cons_succ, List.getElem?_cons_zero, Option.some.injEq] at ho; subst ho; go_simp; with_reducible rfl) (by assumption) ?_
            try simp only [Act.put, List.setIfInBounds_toArray, List.set_cons_zero, List.set_cons_succ]
            refine rg_take 17 (some 128) _ (by kernel_rfl) (by kernel_rfl) (by kernel_rfl) (fun _ _ _ h => h) (by kernel_rfl) (by kernel_rfl) (by intro w' hSw op_ ho; obtain ⟨o0, o1, o2, o3, o4, o5, y0, y1, y2, y3, y4, y5, c0, r0, r1, r2, r3, r4, r5⟩ := HSS.out _ hSw; simp only [List.getElem?_toArray, List.getElem?_cons_succ, List.getElem?_cons_zero, Option.some.injEq] at ho; subst ho; go_simp; with_reducible rfl) (by assumption) ?_
            try simp only [Act.put, List.setIfInBounds_toArray, List.set_cons_zero, List.set_cons_succ]
            refine rg_take 18 (some 129) _ (by kernel_rfl) (by kernel_rfl) (by kernel_rfl) (fun _ _ _ h => h) (by kernel_rfl) (by kernel_rfl) (by intro w' hSw op_ ho; obtain ⟨o0, o1, o2, o3, o4, o5, y0, y1, y2, y3, y4, y5, c0, r0, r1, r2, r3, r4, r5⟩ := HSS.out _ hSw; simp only [List.getElem?_toArray, List.getElem?_cons_succ, List.getElem?_cons_zero, Option.some.injEq] at ho; subst ho; go_simp; with_reducible rfl) (by assumption) ?_
            try simp only [Act.put, List.setIfInBounds_toArray, List.set_cons_zero, List.set_cons_succ]
            refine rg_take 19 (some 130) _ (by kernel_rfl) (by kernel_rfl) (by kernel_rfl) (fun _ _ _ h => h) (by kernel_rfl) (by kernel_rfl) (by intro w' hSw op_ ho; obtain ⟨o0, o1, o2, o3, o4, o5, y0, y1, y2, y3, y4, y5, c0, r0, r1, r2, r3, r4, r5⟩ := HSS.out _ hSw; simp only [List.getElem?_toArray, List.getElem?_cons_succ, List.getElem?_cons_zero, Option.some.injEq] at ho; subst ho; go_simp; with_reducible rfl) (by assumption) ?_
            try simp only [Act.put, List.setIfInBounds_toArray, List.set_cons_zero, List.set_cons_succ]
            refine rg_take 20 (some 131) _ (by kernel_rfl) (by kernel_rfl) (by kernel_rfl) (fun _ _ _ h => h) (by kernel_rfl) (by kernel_rfl) (by intro w' hSw op_ ho; obtain ⟨o0, o1, o2, o3, o4, o5, y0, y1, y2, y3, y4, y5, c0, r0, r1, r2, r3, r4, r5⟩ := HSS.out _ hSw; simp only [List.getElem?_toArray, List.getElem?_cons_succ, List.getElem?_cons_zero, Option.some.injEq] at ho; subst ho; go_simp; with_reducible rfl) (by assumption) ?_
            try simp only [Act.put, List.setIfInBounds_toArray, List.set_cons_zero, List.set_cons_succ]
            refine rg_take 21 (some 132) _ (by kernel_rfl) (by kernel_rfl) (by kernel_rfl) (fun _ _ _ h => h) (by kernel_rfl) (by kernel_rfl) (by intro w' hSw op_ ho; obtain ⟨o0, o1, o2, o3, o4, o5, y0, y1, y2, y3, y4, y5, c0, r0, r1, r2, r3, r4, r5⟩ := HSS.out _ hSw; simp only [List.getElem?_toArray, List.getElem?_cons_succ, List.getElem?_cons_zero, Option.some.injEq] at ho; subst ho; go_simp; with_reducible rfl) (by assumption) ?_
            try simp only [Act.put, List.setIfInBounds_toArray, List.set_cons_zero, List.set_cons_succ]
            refine rg_take 22 (some 133) _ (by kernel_rfl) (by kernel_rfl) (by kernel_rfl) (fun _ _ _ h => h) (by kernel_rfl) (by kernel_rfl) (by intro w' hSw op_ ho; obtain ⟨o0, o1, o2, o3, o4, o5, y0, y1, y2, y3, y4, y5, c0, r0, r1, r2, r3, r4, r5⟩ := HSS.out _ hSw; simp only [List.getElem?_toArray, List.getElem?_cons_succ, List.getElem?_cons_zero, Option.some.injEq] at ho; subst ho; go_simp; with_reducible rfl) (by assumption) ?_
            try simp only [Act.put, List.setIfInBounds_toArray, List.set_cons_zero, List.set_cons_succ]
            refine rg_take 23 (some 134) _ (by kernel_rfl) (by kernel_rfl) (by kernel_rfl) (fun _ _ _ h => h) (by kernel_rfl) (by kernel_rfl) (by intro w' hSw op_ ho; obtain ⟨o0, o1, o2, o3, o4, o5, y0, y1, y2, y3, y4, y5, c0, r0, r1, r2, r3, r4, r5⟩ := HSS.out _ hSw; simp only [List.getElem?_toArray, List.getElem?_cons_succ, List.getElem?_cons_zero, Option.some.injEq] at ho; subst ho; go_simp; with_reducible rfl) (by assumption) ?_
            try simp only [Act.put, List.setIfInBounds_toArray, List.set_cons_zero, List.set_cons_succ]
            refine rg_one 16 (by kernel_rfl) (by kernel_rfl) (fun op_ ho K hK => ?_)
            simp only [List.getElem?_toArray, List.getElem?_cons_succ, List.getElem?_cons_zero, Option.some.injEq] at ho
            subst ho
            go_simp
            go_at_call 10
            refine (HFY.out _ (by assumption)).mono ?_
            rintro e wa ⟨rfl, ra⟩
            go_wp2_with fail
            refine hK.out _ _ (by assumption) (fun hHeld => ?_)
            clear hK
            try simp only [Act.put, List.setIfInBounds_toArray, List.set_cons_zero, List.set_cons_succ]
            refine rg_take 24 (some 135) _ (by kernel_rfl) (by kernel_rfl) (by kernel_rfl) (fun _ _ _ h => h) (by kernel_rfl) (by kernel_rfl) (by intro w' hSw op_ ho; obtain ⟨o0, o1, o2, o3, o4, o5, y0, y1, y2, y3, y4, y5, c0, r0, r1, r2, r3, r4, r5⟩ := HSS.out _ hSw; simp only [List.getElem?_toArray, List.getElem?_cons_succ, List.getElem?_cons_zero, Option.some.injEq] at ho; subst ho; go_simp; with_reducible rfl) (by assumption) ?_
            try simp only [Act.put, List.setIfInBounds_toArray, List.set_cons_zero, List.set_cons_succ]
            refine rg_take 25 (some 136) _ (by kernel_rfl) (by kernel_rfl) (by kernel_rfl) (fun _ _ _ h => h) (by kernel_rfl) (by kernel_rfl) (by intro w' hSw op_ ho; obtain ⟨o0, o1, o2, o3, o4, o5, y0, y1, y2, y3, y4, y5, c0, r0, r1, r2, r3, r4, r5⟩ := HSS.out _ hSw; simp only [List.getElem?_toArray, List.getElem?_cons_succ, List.getElem?_cons_zero, Option.some.injEq] at ho; subst ho; go_simp; with_reducible rfl) (by assumption) ?_
            try simp only [Act.put, List.setIfInBounds_toArray, List.set_cons_zero, List.set_cons_succ]
            refine rg_take 26 (some 137) _ (by kernel_rfl) (by kernel_rfl) (by kernel_rfl) (fun _ _ _ h => h) (by kernel_rfl) (by kernel_rfl) (by intro w' hSw op_ ho; obtain ⟨o0, o1, o2, o3, o4, o5, y0, y1, y2, y3, y4, y5, c0, r0, r1, r2, r3, r4, r5⟩ := HSS.out _ hSw; simp only [List.getElem?_toArray, List.getElem?_cons_succ, List.getElem?_cons_zero, Option.some.injEq] at ho; subst ho; go_simp; with_reducible rfl) (by assumption) ?_
            try simp only [Act.put, List.setIfInBounds_toArray, List.set_cons_zero, List.set_cons_succ]
            refine rg_take 27 (some 138) _ (by kernel_rfl) (by kernel_rfl) (by kernel_rfl) (fun _ _ _ h => h) (by kernel_rfl) (by kernel_rfl) (by intro w' hSw op_ ho; obtain ⟨o0, o1, o2, o3, o4, o5, y0, y1, y2, y3, y4, y5, c0, r0, r1, r2, r3, r4, r5⟩ := HSS.out _ hSw; simp only [List.getElem?_toArray, List.getElem?_cons_succ, List.getElem?_cons_zero, Option.some.injEq] at ho; subst ho; go_simp; with_reducible rfl) (by assumption) ?_
            try simp only [Act.put, List.setIfInBounds_toArray, List.set_cons_zero, List.set_cons_succ]
            refine rg_take 28 (some 139) _ (by kernel_rfl) (by kernel_rfl) (by kernel_rfl) (fun _ _ _ h => h) (by kernel_rfl) (by kernel_rfl) (by intro w' hSw op_ ho; obtain ⟨o0, o1, o2, o3, o4, o5, y0, y1, y2, y3, y4, y5, c0, r0, r1, r2, r3, r4, r5⟩ := HSS.out _ hSw; simp only [List.getElem?_toArray, List.getElem?_cons_succ, List.getElem?_cons_zero, Option.some.injEq] at ho; subst ho; go_simp; with_reducible rfl) (by assumption) ?_
            try simp only [Act.put, List.setIfInBounds_toArray, List.set_cons_zero, List.set_cons_succ]
            refine rg_take 30 (some 141) _ (by kernel_rfl) (by kernel_rfl) (by kernel_rfl) (fun _ _ _ h => h) (by kernel_rfl) (by kernel_rfl) (by intro w' hSw op_ ho; obtain ⟨o0, o1, o2, o3, o4, o5, y0, y1, y2, y3, y4, y5, c0, r0, r1, r2, r3, r4, r5⟩ := HSS.out _ hSw; simp only [List.getElem?_toArray, List.getElem?_cons_succ, List.getElem?_cons_zero, Option.some.injEq] at ho; subst ho; go_simp; with_reducible rfl) (by assumption) ?_
            try simp only [Act.put, List.setIfInBounds_toArray, List.set_cons_zero, List.set_cons_succ]
            refine rg_take 31 (some 142) _ (by kernel_rfl) (by kernel_rfl) (by kernel_rfl) (fun _ _ _ h => h) (by kernel_rfl) (by kernel_rfl) (by intro w' hSw op_ ho; obtain ⟨o0, o1, o2, o3, o4, o5, y0, y1, y2, y3, y4, y5, c0, r0, r1, r2, r3, r4, r5⟩ := HSS.out _ hSw; simp only [List.getElem?_toArray, List.getElem?_cons_succ, List.getElem?_cons_zero, Option.some.injEq] at ho; subst ho; go_simp; with_reducible rfl) (by assumption) ?_
            try simp only [Act.put, List.setIfInBounds_toArray, List.set_cons_zero, List.set_cons_succ]
            refine rg_take 32 (some 143) _ (by kernel_rfl) (by kernel_rfl) (by kernel_rfl) (fun _ _ _ h => h) (by kernel_rfl) (by kernel_rfl) (by intro w' hSw op_ ho; obtain ⟨o0, o1, o2, o3, o4, o5, y0, y1, y2, y3, y4, y5, c0, r0, r1, r2, r3, r4, r5⟩ := HSS.out _ hSw; simp only [List.getElem?_toArray, List.getElem?_cons_succ, List.getElem?_cons_zero, Option.some.injEq] at ho; subst ho; go_simp; with_reducible rfl) (by assumption) ?_
            try simp only [Act.put, List.setIfInBounds_toArray, List.set_cons_zero, List.set_cons_succ]
            refine rg_take 33 (some 144) _ (by kernel_rfl) (by kernel_rfl) (by kernel_rfl) (fun _ _ _ h => h) (by kernel_rfl) (by kernel_rfl) (by intro w' hSw op_ ho; obtain ⟨o0, o1, o2, o3, o4, o5, y0, y1, y2, y3, y4, y5, c0, r0, r1, r2, r3, r4, r5⟩ := HSS.out _ hSw; simp only [List.getElem?_toArray, List.getElem?_cons_succ, List.getElem?_cons_zero, Option.some.injEq] at ho; subst ho; go_simp; with_reducible rfl) (by assumption) ?_
            try simp only [Act.put, List.setIfInBounds_toArray, List.set_cons_zero, List.set_cons_succ]
            refine rg_take 34 (some 145) _ (by kernel_rfl) (by kernel_rfl) (by kernel_rfl) (fun _ _ _ h => h) (by kernel_rfl) (by kernel_rfl) (by intro w' hSw op_ ho; obtain ⟨o0, o1, o2, o3, o4, o5, y0, y1, y2, y3, y4, y5, c0, r0, r1, r2, r3, r4, r5⟩ := HSS.out _ hSw; simp only [List.getElem?_toArray, List.getElem?_cons_succ, List.getElem?_cons_zero, Option.some.injEq] at ho; subst ho; go_simp; with_reducible rfl) (by assumption) ?_
            try simp only [Act.put, List.setIfInBounds_toArray, List.set_cons_zero, List.set_cons_succ]
            refine rg_one 29 (by kernel_rfl) (by kernel_rfl) (fun op_ ho K hK => ?_)
            simp only [List.getElem?_toArray, List.getElem?_cons_succ, List.getElem?_cons_zero, Option.some.injEq] at ho
            subst ho
            go_simp
            go_at_call 20
            refine (HLE.out _ (by assumption)).mono ?_
            rintro e wa ⟨rfl, ra⟩
            go_wp2_with fail
            refine hK.out _ _ (by assumption) (fun hHeld => ?_)
            clear hK
            try simp only [Act.put, List.setIfInBounds_toArray, List.set_cons_zero, List.set_cons_succ]
            refine rg_take 35 (some 146) _ (by kernel_rfl) (by kernel_rfl) (by kernel_rfl) (fun _ _ _ h => h) (by kernel_rfl) (by kernel_rfl) (by intro w' hSw op_ ho; obtain ⟨o0, o1, o2, o3, o4, o5, y0, y1, y2, y3, y4, y5, c0, r0, r1, r2, r3, r4, r5⟩ := HSS.out _ hSw; simp only [List.getElem?_toArray, List.getElem?_cons_succ, List.getElem?_cons_zero, Option.some.injEq] at ho; subst ho; go_simp; with_reducible rfl) (by assumption) ?_
            try simp only [Act.put, List.setIfInBounds_toArray, List.set_cons_zero, List.set_cons_succ]
            refine rg_take 36 (some 147) _ (by kernel_rfl) (by kernel_rfl) (by kernel_rfl) (fun _ _ _ h => h) (by kernel_rfl) (by kernel_rfl) (by intro w' hSw op_ ho; obtain ⟨o0, o1, o2, o3, o4, o5, y0, y1, y2, y3, y4, y5, c0, r0, r1, r2, r3, r4, r5⟩ := HSS.out _ hSw; simp only [List.getElem?_toArray, List.getElem?_cons_succ, List.getElem?_cons_zero, Option.some.injEq] at ho; subst ho; go_simp; with_reducible rfl) (by assumption) ?_
            try simp only [Act.put, List.setIfInBounds_toArray, List.set_cons_zero, List.set_cons_succ]
            refine rg_take 37 (some 148) _ (by kernel_rfl) (by kernel_rfl) (by kernel_rfl) (fun _ _ _ h => h) (by kernel_rfl) (by kernel_rfl) (by intro w' hSw op_ ho; obtain ⟨o0, o1, o2, o3, o4, o5, y0, y1, y2, y3, y4, y5, c0, r0, r1, r2, r3, r4, r5⟩ := HSS.out _ hSw; simp only [List.getElem?_toArray, List.getElem?_cons_succ, List.getElem?_cons_zero, Option.some.injEq] at ho; subst ho; go_simp; with_reducible rfl) (by assumption) ?_
            try simp only [Act.put, List.setIfInBounds_toArray, List.set_cons_zero, List.set_cons_succ]
            refine rg_take 38 (some 149) _ (by kernel_rfl) (by kernel_rfl) (by kernel_rfl) (fun _ _ _ h => h) (by kernel_rfl) (by kernel_rfl) (by intro w' hSw op_ ho; obtain ⟨o0, o1, o2, o3, o4, o5, y0, y1, y2, y3, y4, y5, c0, r0, r1, r2, r3, r4, r5⟩ := HSS.out _ hSw; simp only [List.getElem?_toArray, List.getElem?_cons_succ, List.getElem?_cons_zero, Option.some.injEq] at ho; subst ho; go_simp; with_reducible rfl) (by assumption) ?_
            try simp only [Act.put, List.setIfInBounds_toArray, List.set_cons_zero, List.set_cons_succ]
            refine rg_take 40 (some 151) _ (by kernel_rfl) (by kernel_rfl) (by kernel_rfl) (fun _ _ _ h => h) (by kernel_rfl) (by kernel_rfl) (by intro w' hSw op_ ho; obtain ⟨o0, o1, o2, o3, o4, o5, y0, y1, y2, y3, y4, y5, c0, r0, r1, r2, r3, r4, r5⟩ := HSS.out _ hSw; simp only [List.getElem?_toArray, List.getElem?_cons_succ, List.getElem?_cons_zero, Option.some.injEq] at ho; subst ho; go_simp; with_reducible rfl) (by assumption) ?_
            try simp only [Act.put, List.setIfInBounds_toArray, List.set_cons_zero, List.set_cons_succ]
            refine rg_one 39 (by kernel_rfl) (by kernel_rfl) (fun op_ ho K hK => ?_)
            simp only [List.getElem?_toArray, List.getElem?_cons_succ, List.getElem?_cons_zero, Option.some.injEq] at ho
            subst ho
            go_simp
            go_at_call 22
            refine (HLT.out _ (by assumption)).mono ?_
            rintro e wa ⟨a1T, d1T, rfl, l1T, ra⟩
            go_wp2_with fail
            refine hK.out _ _ (by assumption) (fun hHeld => ?_)
            clear hK
            try simp only [Act.put, List.setIfInBounds_toArray, List.set_cons_zero, List.set_cons_succ]
            refine rg_one 41 (by kernel_rfl) (by kernel_rfl) (fun op_ ho K hK => ?_)
            simp only [List.getElem?_toArray, List.getElem?_cons_succ, List.getElem?_cons_zero, Option.some.injEq] at ho
            subst ho
            go_simp
            go_at_call 23
            refine (HRT.out _ _ (by assumption) l1T).mono ?_
            rintro e wa ⟨a2T, d2T, rfl, l2T, l3T, ra⟩
            go_wp2_with fail
            refine hK.out _ _ (by assumption) (fun hHeld => ?_)
            clear hK
            try simp only [Act.put, List.setIfInBounds_toArray, List.set_cons_zero, List.set_cons_succ]
            refine rg_one 42 (by kernel_rfl) (by kernel_rfl) (fun op_ ho K hK => ?_)
            simp only [List.getElem?_toArray, List.getElem?_cons_succ, List.getElem?_cons_zero, Option.some.injEq] at ho
            subst ho
            go_simp
            go_at_call 21
            refine (HSM.out _ _ _ _ HLNT.out l3T l2T (by assumption)).mono ?_
            rintro e wa ⟨rfl, ra⟩
            go_wp2_with fail
            refine hK.out _ _ (by assumption) (fun hHeld => ?_)
            clear hK
            try simp only [Act.put, List.setIfInBounds_toArray, List.set_cons_zero, List.set_cons_succ]
            refine rg_take 43 (some 154) _ (by kernel_rfl) (by kernel_rfl) (by kernel_rfl) (fun _ _ _ h => h) (by kernel_rfl) (by kernel_rfl) (by intro w' hSw op_ ho; obtain ⟨o0, o1, o2, o3, o4, o5, y0, y1, y2, y3, y4, y5, c0, r0, r1, r2, r3, r4, r5⟩ := HSS.out _ hSw; simp only [List.getElem?_toArray, List.getElem?_cons_succ, List.getElem?_cons_zero, Option.some.injEq] at ho; subst ho; go_simp; with_reducible rfl) (by assumption) ?_
            try simp only [Act.put, List.setIfInBounds_toArray, List.set_cons_zero, List.set_cons_succ]
            refine rg_take 44 (some 155) _ (by kernel_rfl) (by kernel_rfl) (by kernel_rfl) (fun _ _ _ h => h) (by kernel_rfl) (by kernel_rfl) (by intro w' hSw op_ ho; obtain ⟨o0, o1, o2, o3, o4, o5, y0, y1, y2, y3, y4, y5, c0, r0, r1, r2, r3, r4, r5⟩ := HSS.out _ hSw; simp only [List.getElem?_toArray, List.getElem?_cons_succ, List.getElem?_cons_zero, Option.some.injEq] at ho; subst ho; go_simp; with_reducible rfl) (by assumption) ?_
            try simp only [Act.put, List.setIfInBounds_toArray, List.set_cons_zero, List.set_cons_succ]
            refine rg_take 45 (some 156) _ (by kernel_rfl) (by kernel_rfl) (by kernel_rfl) (fun _ _ _ h => h) (by kernel_rfl) (by kernel_rfl) (by intro w' hSw op_ ho; obtain ⟨o0, o1, o2, o3, o4, o5, y0, y1, y2, y3, y4, y5, c0, r0, r1, r2, r3, r4, r5⟩ := HSS.out _ hSw; simp only [List.getElem?_toArray, List.getElem?_cons_succ, List.getElem?_cons_zero, Option.some.injEq] at ho; subst ho; go_simp; with_reducible rfl) (by assumption) ?_
            try simp only [Act.put, List.setIfInBounds_toArray, List.set_cons_zero, List.set_cons_succ]
            refine rg_take 46 (some 157) _ (by kernel_rfl) (by kernel_rfl) (by kernel_rfl) (fun _ _ _ h => h) (by kernel_rfl) (by kernel_rfl) (by intro w' hSw op_ ho; obtain ⟨o0, o1, o2, o3, o4, o5, y0, y1, y2, y3, y4, y5, c0, r0, r1, r2, r3, r4, r5⟩ := HSS.out _ hSw; simp only [List.getElem?_toArray, List.getElem?_cons_succ, List.getElem?_cons_zero, Option.some.injEq] at ho; subst ho; go_simp; with_reducible rfl) (by assumption) ?_
            try simp only [Act.put, List.setIfInBounds_toArray, List.set_cons_zero, List.set_cons_succ]
            refine rg_take 48 (some 159) _ (by kernel_rfl) (by kernel_rfl) (by kernel_rfl) (fun _ _ _ h => h) (by kernel_rfl) (by kernel_rfl) (by intro w' hSw op_ ho; obtain ⟨o0, o1, o2, o3, o4, o5, y0, y1, y2, y3, y4, y5, c0, r0, r1, r2, r3, r4, r5⟩ := HSS.out _ hSw; simp only [List.getElem?_toArray, List.getElem?_cons_succ, List.getElem?_cons_zero, Option.some.injEq] at ho; subst ho; go_simp; with_reducible rfl) (by assumption) ?_
            try simp only [Act.put, List.setIfInBounds_toArray, List.set_cons_zero, List.set_cons_succ]
            refine rg_one 47 (by kernel_rfl) (by kernel_rfl) (fun op_ ho K hK => ?_)
            simp only [List.getElem?_toArray, List.getElem?_cons_succ, List.getElem?_cons_zero, Option.some.injEq] at ho
            subst ho
            go_simp
            go_at_call 22
            refine (HLF.out _ (by assumption)).mono ?_
            rintro e wa ⟨a1F, d1F, rfl, l1F, ra⟩
            go_wp2_with fail
            refine hK.out _ _ (by assumption) (fun hHeld => ?_)
            clear hK
            try simp only [Act.put, List.setIfInBounds_toArray, List.set_cons_zero, List.set_cons_succ]
            refine rg_one 49 (by kernel_rfl) (by kernel_rfl) (fun op_ ho K hK => ?_)
            simp only [List.getElem?_toArray, List.getElem?_cons_succ, List.getElem?_cons_zero, Option.some.injEq] at ho
            subst ho
            go_simp
            go_at_call 23
            refine (HRF.out _ _ (by assumption) l1F).mono ?_
            rintro e wa ⟨a2F, d2F, rfl, l2F, l3F, ra⟩
            go_wp2_with fail
            refine hK.out _ _ (by assumption) (fun hHeld => ?_)
            clear hK
            try simp only [Act.put, List.setIfInBounds_toArray, List.set_cons_zero, List.set_cons_succ]
            refine rg_one 50 (by kernel_rfl) (by kernel_rfl) (fun op_ ho K hK => ?_)
            simp only [List.getElem?_toArray, List.getElem?_cons_succ, List.getElem?_cons_zero, Option.some.injEq] at ho
            subst ho
            go_simp
            go_at_call 21
            refine (HSM.out _ _ _ _ HLNF.out l3F l2F (by assumption)).mono ?_
            rintro e wa ⟨rfl, ra⟩
            go_wp2_with fail
            refine hK.out _ _ (by assumption) (fun hHeld => ?_)
            clear hK
            try simp only [Act.put, List.setIfInBounds_toArray, List.set_cons_zero, List.set_cons_succ]
            refine rg_take 51 (some 162) _ (by kernel_rfl) (by kernel_rfl) (by kernel_rfl) (fun _ _ _ h => h) (by kernel_rfl) (by kernel_rfl) (by intro w' hSw op_ ho; obtain ⟨o0, o1, o2, o3, o4, o5, y0, y1, y2, y3, y4, y5, c0, r0, r1, r2, r3, r4, r5⟩ := HSS.out _ hSw; simp only [List.getElem?_toArray, List.getElem?_cons_succ, List.getElem?_cons_zero, Option.some.injEq] at ho; subst ho; go_simp; with_reducible rfl) (by assumption) ?_
            try simp only [Act.put, List.setIfInBounds_toArray, List.set_cons_zero, List.set_cons_succ]
            refine rg_take 52 (some 163) _ (by kernel_rfl) (by kernel_rfl) (by kernel_rfl) (fun _ _ _ h => h) (by kernel_rfl) (by kernel_rfl) (by intro w' hSw op_ ho; obtain ⟨o0, o1, o2, o3, o4, o5, y0, y1, y2, y3, y4, y5, c0, r0, r1, r2, r3, r4, r5⟩ := HSS.out _ hSw; simp only [List.getElem?_toArray, List.getElem?_cons_succ, List.getElem?_cons_zero, Option.some.injEq] at ho; subst ho; go_simp; with_reducible rfl) (by assumption) ?_
            try simp only [Act.put, List.setIfInBounds_toArray, List.set_cons_zero, List.set_cons_succ]
            refine wpAnyH_done (by kernel_rfl) ?_ _
            have HE := Lib.hid hHeld
            clear hHeld
            go_wp2_with fail
            go_meet
            exact ⟨rfl, _, _, BxR.on HE.out K7.out⟩
          · as_aux_lemma =>
            obtain rfl : bI = false := by rw [← HBI.out, p2]; exact decide_eq_false (Nat.lt_irrefl _)
            obtain rfl : aI = -1 := by rw [← HAI.out]; exact p1
            obtain ⟨A9, c9, c0, _⟩ := K7.out.rf.cells
            have hR := K7.out.rf.lt
            clear p1 p2
            have HSS : Hid (∀ W : World, Below WB.heap.size WB W → W.cell? ⟨V, 0, none⟩ = some (.int .i64 x.o.id) ∧ W.cell? ⟨V, 1, none⟩ = some (.int .i64 x.o.tn) ∧ W.cell? ⟨V, 2, none⟩ = some (.bool x.o.sell) ∧ W.cell? ⟨V, 3, none⟩ = some (.int .i64 x.o.price) ∧ W.cell? ⟨V, 4, none⟩ = some (.int .i64 x.o.lots) ∧ W.cell? ⟨V, 5, none⟩ = some (.int .i64 x.o.seq) ∧ W.cell? ⟨Y, 0, none⟩ = some (.int .i64 y.id) ∧ W.cell? ⟨Y, 1, none⟩ = some (.int .i64 y.tn) ∧ W.cell? ⟨Y, 2, none⟩ = some (.bool y.sell) ∧ W.cell? ⟨Y, 3, none⟩ = some (.int .i64 y.price) ∧ W.cell? ⟨Y, 4, none⟩ = some (.int .i64 y.lots) ∧ W.cell? ⟨Y, 5, none⟩ = some (.int .i64 y.seq) ∧ W.cell? ⟨u, 0, none⟩ = some (.slice A9 b'.L.length c9)) := Lib.hid fun W hb => by
              obtain ⟨o0, o1, o2, o3, o4, o5, _⟩ := (BOdBlk.on hb K7.out.blk).cells
              obtain ⟨y0, y1, y2, y3, y4, y5, _⟩ := (BOdBlk.on hb HYB.out).cells
              exact ⟨o0, o1, o2, o3, o4, o5, y0, y1, y2, y3, y4, y5, (hb.cell (p := ⟨u, 0, none⟩) hR.1).trans c0⟩
            have HTR : Hid (∀ W W' : World, Below WB.heap.size WB W → Below W.heap.size W W' → Below WB.heap.size WB W') := Lib.hid fun W W' h1 h2 => h1.trans (h2.mono h1.size)
            have HGO : Hid (∀ W, Below WB.heap.size WB W → Calls Tryd.prog 18 #[.agg #[.int .i64 x.o.id, .int .i64 x.o.tn, .bool x.o.sell, .int .i64 x.o.price, .int .i64 x.o.lots, .int .i64 x.o.seq]] W fun e w' => e = .returned (.bool gd) ∧ Below WB.heap.size WB w') := Lib.hid fun W h => by rw [← HGDD.out]; exact (good_c x.o W).mono fun _ _ ⟨k1, k2⟩ => ⟨k1, HTR.out _ _ h k2⟩
            have HRG : Hid (∀ W, Below WB.heap.size WB W → Calls Tryd.prog 19 #[.agg #[.int .i64 x.o.id, .int .i64 x.o.tn, .bool x.o.sell, .int .i64 x.o.price, .int .i64 x.o.lots, .int .i64 x.o.seq]] W fun e w' => e = .returned (.bool gd) ∧ Below WB.heap.size WB w') := Lib.hid fun W h => by rw [← HGDD.out]; exact (rgoodO_c x.o W).mono fun _ _ ⟨k1, k2⟩ => ⟨k1, HTR.out _ _ h k2⟩
            have HFO : Hid (∀ W, Below WB.heap.size WB W → Calls Tryd.prog 10 #[.agg #[.int .i64 x.o.id, .int .i64 x.o.tn, .bool x.o.sell, .int .i64 x.o.price, .int .i64 x.o.lots, .int .i64 x.o.seq]] W fun e w' => e = .returned (.agg #[.int .i64 x.o.id, .int .i64 x.o.tn, .bool x.o.sell, .int .i64 x.o.price, .int .i64 x.o.lots, .int .i64 x.o.seq]) ∧ Below WB.heap.size WB w') := Lib.hid fun W h => (form_c x.o W).mono fun _ _ ⟨k1, k2⟩ => ⟨k1, HTR.out _ _ h k2⟩
            have HLE : Hid (∀ W, Below WB.heap.size WB W → Calls Tryd.prog 20 #[.pointer (some ⟨q, 0, none⟩)] W fun e w' => e = .returned (.int .i64 (b'.L.length : Int)) ∧ Below WB.heap.size WB w') := Lib.hid fun W h => (K7.out.on h).bk.size.mono fun _ _ ⟨k1, k2⟩ => ⟨k1, by rw [k2]; exact h⟩
            obtain ⟨MT, hMT⟩ : ∃ M, listR13 b'.L true = M := ⟨_, rfl⟩
            have HMT := Lib.hid hMT
            have HLNT : Hid (MT.length ≤ 1000) := Lib.hid (by rw [← hMT]; exact Nat.le_trans (listR13_le _ _) (Nat.le_trans HG'.out.len (by omega)))
            clear hMT
            have HLT : Hid (∀ W, Below WB.heap.size WB W → Calls Tryd.prog 22 #[.pointer (some ⟨q, 0, none⟩), .bool true] W fun e w' => ∃ a d, e = .returned (.slice a MT.length d) ∧ LiesE encOd w' (.slice a MT.length d) MT ∧ Below WB.heap.size WB w') := Lib.hid fun W h => by
              refine ((K7.out.on h).bk.list HG'.out true).mono ?_
              rw [HMT.out]
              rintro e w' ⟨v, rfl, ho, _, hb⟩
              obtain ⟨a, d, rfl⟩ := ho.form
              exact ⟨a, d, rfl, ho.lies, HTR.out _ _ h hb⟩
            have HRT : Hid (∀ (W : World) (v1 : Value), Below WB.heap.size WB W → LiesE encOd W v1 MT → Calls Tryd.prog 23 #[.pointer (some ⟨u, 0, none⟩), .bool true] W fun e w' => ∃ a d, e = .returned (.slice a MT.length d) ∧ LiesE encOd w' (.slice a MT.length d) MT ∧ LiesE encOd w' v1 MT ∧ Below WB.heap.size WB w') := Lib.hid fun W v1 h hl => by
              refine (rlist13_c u U b' true W (K7.out.on h).rf HG'.out.len).mono ?_
              rw [HMT.out]
              rintro e w' ⟨v, rfl, ho, hb⟩
              obtain ⟨a, d, rfl⟩ := ho.form
              exact ⟨a, d, rfl, ho.lies, hl.onB hb, HTR.out _ _ h hb⟩
            obtain ⟨MF, hMF⟩ : ∃ M, listR13 b'.L false = M := ⟨_, rfl⟩
            have HMF := Lib.hid hMF
            have HLNF : Hid (MF.length ≤ 1000) := Lib.hid (by rw [← hMF]; exact Nat.le_trans (listR13_le _ _) (Nat.le_trans HG'.out.len (by omega)))
            clear hMF
            have HLF : Hid (∀ W, Below WB.heap.size WB W → Calls Tryd.prog 22 #[.pointer (some ⟨q, 0, none⟩), .bool false] W fun e w' => ∃ a d, e = .returned (.slice a MF.length d) ∧ LiesE encOd w' (.slice a MF.length d) MF ∧ Below WB.heap.size WB w') := Lib.hid fun W h => by
              refine ((K7.out.on h).bk.list HG'.out false).mono ?_
              rw [HMF.out]
              rintro e w' ⟨v, rfl, ho, _, hb⟩
              obtain ⟨a, d, rfl⟩ := ho.form
              exact ⟨a, d, rfl, ho.lies, HTR.out _ _ h hb⟩
            have HRF : Hid (∀ (W : World) (v1 : Value), Below WB.heap.size WB W → LiesE encOd W v1 MF → Calls Tryd.prog 23 #[.pointer (some ⟨u, 0, none⟩), .bool false] W fun e w' => ∃ a d, e = .returned (.slice a MF.length d) ∧ LiesE encOd w' (.slice a MF.length d) MF ∧ LiesE encOd w' v1 MF ∧ Below WB.heap.size WB w') := Lib.hid fun W v1 h hl => by
              refine (rlist13_c u U b' false W (K7.out.on h).rf HG'.out.len).mono ?_
              rw [HMF.out]
              rintro e w' ⟨v, rfl, ho, hb⟩
              obtain ⟨a, d, rfl⟩ := ho.form
              exact ⟨a, d, rfl, ho.lies, hl.onB hb, HTR.out _ _ h hb⟩
            have HSM : Hid (∀ (W : World) (v1 v2 : Value) (M : List Od), M.length ≤ 1000 → LiesE encOd W v1 M → LiesE encOd W v2 M → Below WB.heap.size WB W → Calls Tryd.prog 21 #[v1, v2] W fun e w' => e = .returned (.bool true) ∧ Below WB.heap.size WB w') := Lib.hid fun W v1 v2 M hM h1 h2 h => by
              have := same13_c v1 v2 M M W h1 h2 hM
              rw [decide_eq_true rfl] at this
              exact this.mono fun _ _ ⟨k1, k2⟩ => ⟨k1, HTR.out _ _ h k2⟩
            have gg : (gd != gd) = false := by simp
            have nn : ((b'.L.length : Int) != (b'.L.length : Int)) = false := by simp
            have HR9 := Lib.hid (Below.refl WB.heap.size WB)
            clear hR c0
            refine wp_region_held_drew (S := fun W => Below WB.heap.size WB W) (by kernel_rfl) ?_ (fun hHeld => ?_)
            · exact HR9.out.drew
            refine rg_take 0 (some 111) _ (by kernel_rfl) (by kernel_rfl) (by kernel_rfl) (fun _ _ _ h => h) (by kernel_rfl) (by kernel_rfl) (by intro w' hSw op_ ho; obtain ⟨o0, o1, o2, o3, o4, o5, y0, y1, y2, y3, y4, y5, c0⟩ := HSS.out _ hSw; simp only [List.getElem?_toArray, List.getElem?_cons_zero, Option.some.injEq] at ho; subst ho; go_simp; with_reducible rfl) (by assumption) ?_
            try simp only [Act.put, List.setIfInBounds_toArray, List.set_cons_zero, List.set_cons_succ]
            refine rg_take 2 (some 113) _ (by kernel_rfl) (by kernel_rfl) (by kernel_rfl) (fun _ _ _ h => h) (by kernel_rfl) (by kernel_rfl) (by intro w' hSw op_ ho; obtain ⟨o0, o1, o2, o3, o4, o5, y0, y1, y2, y3, y4, y5, c0⟩ := HSS.out _ hSw; simp only [List.getElem?_toArray, List.getElem?_cons_succ, List.getElem?_cons_zero, Option.some.injEq] at ho; subst ho; go_simp; with_reducible rfl) (by assumption) ?_
            try simp only [Act.put, List.setIfInBounds_toArray, List.set_cons_zero, List.set_cons_succ]
            refine rg_one 1 (by kernel_rfl) (by kernel_rfl) (fun op_ ho K hK => ?_)
            simp only [List.getElem?_toArray, List.getElem?_cons_succ, List.getElem?_cons_zero, Option.some.injEq] at ho
            subst ho
            go_simp
            go_at_call 18
            refine (HGO.out _ (by assumption)).mono ?_
            rintro e wa ⟨rfl, ra⟩
            go_wp2_with fail
            refine hK.out _ _ (by assumption) (fun hHeld => ?_)
            clear hK
            try simp only [Act.put, List.setIfInBounds_toArray, List.set_cons_zero, List.set_cons_succ]
            refine rg_one 3 (by kernel_rfl) (by kernel_rfl) (fun op_ ho K hK => ?_)
            simp only [List.getElem?_toArray, List.getElem?_cons_succ, List.getElem?_cons_zero, Option.some.injEq] at ho
            subst ho
            go_simp
            go_at_call 10
            refine (HFO.out _ (by assumption)).mono ?_
            rintro e wa ⟨rfl, ra⟩
            go_wp2_with fail
            refine hK.out _ _ (by assumption) (fun hHeld => ?_)
            clear hK
            try simp only [Act.put, List.setIfInBounds_toArray, List.set_cons_zero, List.set_cons_succ]
            refine rg_one 4 (by kernel_rfl) (by kernel_rfl) (fun op_ ho K hK => ?_)
            simp only [List.getElem?_toArray, List.getElem?_cons_succ, List.getElem?_cons_zero, Option.some.injEq] at ho
            subst ho
            go_simp
            go_at_call 19
            refine (HRG.out _ (by assumption)).mono ?_
            rintro e wa ⟨rfl, ra⟩
            go_wp2_with fail
            refine hK.out _ _ (by assumption) (fun hHeld => ?_)
            clear hK
            try simp only [Act.put, List.setIfInBounds_toArray, List.set_cons_zero, List.set_cons_succ]
            refine rg_take 5 (some 116) _ (by kernel_rfl) (by kernel_rfl) (by kernel_rfl) (fun _ _ _ h => h) (by kernel_rfl) (by kernel_rfl) (by intro w' hSw op_ ho; obtain ⟨o0, o1, o2, o3, o4, o5, y0, y1, y2, y3, y4, y5, c0⟩ := HSS.out _ hSw; simp only [List.getElem?_toArray, List.getElem?_cons_succ, List.getElem?_cons_zero, Option.some.injEq] at ho; subst ho; go_simp; with_reducible rfl) (by assumption) ?_
            try simp only [Act.put, List.setIfInBounds_toArray, List.set_cons_zero, List.set_cons_succ]
            refine rg_take 6 (some 117) _ (by kernel_rfl) (by kernel_rfl) (by kernel_rfl) (fun _ _ _ h => h) (by kernel_rfl) (by kernel_rfl) (by intro w' hSw op_ ho; obtain ⟨o0, o1, o2, o3, o4, o5, y0, y1, y2, y3, y4, y5, c0⟩ := HSS.out _ hSw; simp only [List.getElem?_toArray, List.getElem?_cons_succ, List.getElem?_cons_zero, Option.some.injEq] at ho; subst ho; go_simp; with_reducible rfl) (by assumption) ?_
            try simp only [Act.put, List.setIfInBounds_toArray, List.set_cons_zero, List.set_cons_succ]
            refine rg_take 7 (some 118) _ (by kernel_rfl) (by kernel_rfl) (by kernel_rfl) (fun _ _ _ h => h) (by kernel_rfl) (by kernel_rfl) (by intro w' hSw op_ ho; obtain ⟨o0, o1, o2, o3, o4, o5, y0, y1, y2, y3, y4, y5, c0⟩ := HSS.out _ hSw; simp only [List.getElem?_toArray, List.getElem?_cons_succ, List.getElem?_cons_zero, Option.some.injEq] at ho; subst ho; go_simp; with_reducible rfl) (by assumption) ?_
            try simp only [Act.put, List.setIfInBounds_toArray, List.set_cons_zero, List.set_cons_succ]
            refine rg_take 8 (some 119) _ (by kernel_rfl) (by kernel_rfl) (by kernel_rfl) (fun _ _ _ h => h) (by kernel_rfl) (by kernel_rfl) (by intro w' hSw op_ ho; obtain ⟨o0, o1, o2, o3, o4, o5, y0, y1, y2, y3, y4, y5, c0⟩ := HSS.out _ hSw; simp only [List.getElem?_toArray, List.getElem?_cons_succ, List.getElem?_cons_zero, Option.some.injEq] at ho; subst ho; go_simp; with_reducible rfl) (by assumption) ?_
            try simp only [Act.put, List.setIfInBounds_toArray, List.set_cons_zero, List.set_cons_succ]
            refine rg_take 9 (some 120) _ (by kernel_rfl) (by kernel_rfl) (by kernel_rfl) (fun _ _ _ h => h) (by kernel_rfl) (by kernel_rfl) (by intro w' hSw op_ ho; obtain ⟨o0, o1, o2, o3, o4, o5, y0, y1, y2, y3, y4, y5, c0⟩ := HSS.out _ hSw; simp only [List.getElem?_toArray, List.getElem?_cons_succ, List.getElem?_cons_zero, Option.some.injEq] at ho; subst ho; go_simp; with_reducible rfl) (by assumption) ?_
            try simp only [Act.put, List.setIfInBounds_toArray, List.set_cons_zero, List.set_cons_succ]
            refine rg_take 10 (some 121) _ (by kernel_rfl) (by kernel_rfl) (by kernel_rfl) (fun _ _ _ h => h) (by kernel_rfl) (by kernel_rfl) (by intro w' hSw op_ ho; obtain ⟨o0, o1, o2, o3, o4, o5, y0, y1, y2, y3, y4, y5, c0⟩ := HSS.out _ hSw; simp only [List.getElem?_toArray, List.getElem?_cons_succ, List.getElem?_cons_zero, Option.some.injEq] at ho; subst ho; go_simp; with_reducible rfl) (by assumption) ?_
            try simp only [Act.put, List.setIfInBounds_toArray, List.set_cons_zero, List.set_cons_succ]
            refine rg_take 11 (some 122) _ (by kernel_rfl) (by kernel_rfl) (by kernel_rfl) (fun _ _ _ h => h) (by kernel_rfl) (by kernel_rfl) (by intro w' hSw op_ ho; obtain ⟨o0, o1, o2, o3, o4, o5, y0, y1, y2, y3, y4, y5, c0⟩ := HSS.out _ hSw; simp only [List.getElem?_toArray, List.getElem?_cons_succ, List.getElem?_cons_zero, Option.some.injEq] at ho; subst ho; go_simp; with_reducible rfl) (by assumption) ?_
            try simp only [Act.put, List.setIfInBounds_toArray, List.set_cons_zero, List.set_cons_succ]
            refine rg_take 12 (some 123) _ (by kernel_rfl) (by kernel_rfl) (by kernel_rfl) (fun _ _ _ h => h) (by kernel_rfl) (by kernel_rfl) (by intro w' hSw op_ ho; obtain ⟨o0, o1, o2, o3, o4, o5, y0, y1, y2, y3, y4, y5, c0⟩ := HSS.out _ hSw; simp only [List.getElem?_toArray, List.getElem?_cons_succ, List.getElem?_cons_zero, Option.some.injEq] at ho; subst ho; go_simp; with_reducible rfl) (by assumption) ?_
            try simp only [Act.put, List.setIfInBounds_toArray, List.set_cons_zero, List.set_cons_succ]
            refine rg_take 13 (some 124) _ (by kernel_rfl) (by kernel_rfl) (by kernel_rfl) (fun _ _ _ h => h) (by kernel_rfl) (by kernel_rfl) (by intro w' hSw op_ ho; obtain ⟨o0, o1, o2, o3, o4, o5, y0, y1, y2, y3, y4, y5, c0⟩ := HSS.out _ hSw; simp only [List.getElem?_toArray, List.getElem?_cons_succ, List.getElem?_cons_zero, Option.some.injEq] at ho; subst ho; go_simp; with_reducible rfl) (by assumption) ?_
            try simp only [Act.put, List.setIfInBounds_toArray, List.set_cons_zero, List.set_cons_succ]
            refine rg_take 14 (some 125) _ (by kernel_rfl) (by kernel_rfl) (by kernel_rfl) (fun _ _ _ h => h) (by kernel_rfl) (by kernel_rfl) (by intro w' hSw op_ ho; obtain ⟨o0, o1, o2, o3, o4, o5, y0, y1, y2, y3, y4, y5, c0⟩ := HSS.out _ hSw; simp only [List.getElem?_toArray, List.getElem?_cons_succ, List.getElem?_cons_zero, Option.some.injEq] at ho; subst ho; go_simp; with_reducible rfl) (by assumption) ?_
            try simp only [Act.put, List.setIfInBounds_toArray, List.set_cons_zero, List.set_cons_succ]
            refine rg_skip 15 (some 126) (by kernel_rfl) (by kernel_rfl) (by kernel_rfl) (fun _ _ _ h => h) (by kernel_rfl) (by kernel_rfl) (by assumption) ?_
            try simp only [Act.put, List.setIfInBounds_toArray, List.set_cons_zero, List.set_cons_succ]
            refine rg_skip 16 (some 127) (by kernel_rfl) (by kernel_rfl) (by kernel_rfl) (fun _ _ _ h => h) (by kernel_rfl) (by kernel_rfl) (by assumption) ?_
            try simp only [Act.put, List.setIfInBounds_toArray, List.set_cons_zero, List.set_cons_succ]
            refine rg_skip 17 (some 128) (by kernel_rfl) (by kernel_rfl) (by kernel_rfl) (fun _ _ _ h => h) (by kernel_rfl) (by kernel_rfl) (by assumption) ?_
            try simp only [Act.put, List.setIfInBounds_toArray, List.set_cons_zero, List.set_cons_succ]
            refine rg_skip 18 (some 129) (by kernel_rfl) (by kernel_rfl) (by kernel_rfl) (fun _ _ _ h => h) (by kernel_rfl) (by kernel_rfl) (by assumption) ?_
            try simp only [Act.put, List.setIfInBounds_toArray, List.set_cons_zero, List.set_cons_succ]
            refine rg_skip 19 (some 130) (by kernel_rfl) (by kernel_rfl) (by kernel_rfl) (fun _ _ _ h => h) (by kernel_rfl) (by kernel_rfl) (by assumption) ?_
            try simp only [Act.put, List.setIfInBounds_toArray, List.set_cons_zero, List.set_cons_succ]
            refine rg_skip 20 (some 131) (by kernel_rfl) (by kernel_rfl) (by kernel_rfl) (fun _ _ _ h => h) (by kernel_rfl) (by kernel_rfl) (by assumption) ?_
            try simp only [Act.put, List.setIfInBounds_toArray, List.set_cons_zero, List.set_cons_succ]
            refine rg_skip 21 (some 132) (by kernel_rfl) (by kernel_rfl) (by kernel_rfl) (fun _ _ _ h => h) (by kernel_rfl) (by kernel_rfl) (by assumption) ?_
            try simp only [Act.put, List.setIfInBounds_toArray, List.set_cons_zero, List.set_cons_succ]
            refine rg_skip 22 (some 133) (by kernel_rfl) (by kernel_rfl) (by kernel_rfl) (fun _ _ _ h => h) (by kernel_rfl) (by kernel_rfl) (by assumption) ?_
            try simp only [Act.put, List.setIfInBounds_toArray, List.set_cons_zero, List.set_cons_succ]
            refine rg_skip 23 (some 134) (by kernel_rfl) (by kernel_rfl) (by kernel_rfl) (fun _ _ _ h => h) (by kernel_rfl) (by kernel_rfl) (by assumption) ?_
            try simp only [Act.put, List.setIfInBounds_toArray, List.set_cons_zero, List.set_cons_succ]
            refine rg_skip 24 (some 135) (by kernel_rfl) (by kernel_rfl) (by kernel_rfl) (fun _ _ _ h => h) (by kernel_rfl) (by kernel_rfl) (by assumption) ?_
            try simp only [Act.put, List.setIfInBounds_toArray, List.set_cons_zero, List.set_cons_succ]
            refine rg_take 25 (some 136) _ (by kernel_rfl) (by kernel_rfl) (by kernel_rfl) (fun _ _ _ h => h) (by kernel_rfl) (by kernel_rfl) (by intro w' hSw op_ ho; obtain ⟨o0, o1, o2, o3, o4, o5, y0, y1, y2, y3, y4, y5, c0⟩ := HSS.out _ hSw; simp only [List.getElem?_toArray, List.getElem?_cons_succ, List.getElem?_cons_zero, Option.some.injEq] at ho; subst ho; go_simp; with_reducible rfl) (by assumption) ?_
            try simp only [Act.put, List.setIfInBounds_toArray, List.set_cons_zero, List.set_cons_succ]
            refine rg_take 26 (some 137) _ (by kernel_rfl) (by kernel_rfl) (by kernel_rfl) (fun _ _ _ h => h) (by kernel_rfl) (by kernel_rfl) (by intro w' hSw op_ ho; obtain ⟨o0, o1, o2, o3, o4, o5, y0, y1, y2, y3, y4, y5, c0⟩ := HSS.out _ hSw; simp only [List.getElem?_toArray, List.getElem?_cons_succ, List.getElem?_cons_zero, Option.some.injEq] at ho; subst ho; go_simp; with_reducible rfl) (by assumption) ?_
            try simp only [Act.put, List.setIfInBounds_toArray, List.set_cons_zero, List.set_cons_succ]
            refine rg_take 27 (some 138) _ (by kernel_rfl) (by kernel_rfl) (by kernel_rfl) (fun _ _ _ h => h) (by kernel_rfl) (by kernel_rfl) (by intro w' hSw op_ ho; obtain ⟨o0, o1, o2, o3, o4, o5, y0, y1, y2, y3, y4, y5, c0⟩ := HSS.out _ hSw; simp only [List.getElem?_toArray, List.getElem?_cons_succ, List.getElem?_cons_zero, Option.some.injEq] at ho; subst ho; go_simp; with_reducible rfl) (by assumption) ?_
            try simp only [Act.put, List.setIfInBounds_toArray, List.set_cons_zero, List.set_cons_succ]
            refine rg_take 28 (some 139) _ (by kernel_rfl) (by kernel_rfl) (by kernel_rfl) (fun _ _ _ h => h) (by kernel_rfl) (by kernel_rfl) (by intro w' hSw op_ ho; obtain ⟨o0, o1, o2, o3, o4, o5, y0, y1, y2, y3, y4, y5, c0⟩ := HSS.out _ hSw; simp only [List.getElem?_toArray, List.getElem?_cons_succ, List.getElem?_cons_zero, Option.some.injEq] at ho; subst ho; go_simp; with_reducible rfl) (by assumption) ?_
            try simp only [Act.put, List.setIfInBounds_toArray, List.set_cons_zero, List.set_cons_succ]
            refine rg_take 30 (some 141) _ (by kernel_rfl) (by kernel_rfl) (by kernel_rfl) (fun _ _ _ h => h) (by kernel_rfl) (by kernel_rfl) (by intro w' hSw op_ ho; obtain ⟨o0, o1, o2, o3, o4, o5, y0, y1, y2, y3, y4, y5, c0⟩ := HSS.out _ hSw; simp only [List.getElem?_toArray, List.getElem?_cons_succ, List.getElem?_cons_zero, Option.some.injEq] at ho; subst ho; go_simp; with_reducible rfl) (by assumption) ?_
            try simp only [Act.put, List.setIfInBounds_toArray, List.set_cons_zero, List.set_cons_succ]
            refine rg_take 31 (some 142) _ (by kernel_rfl) (by kernel_rfl) (by kernel_rfl) (fun _ _ _ h => h) (by kernel_rfl) (by kernel_rfl) (by intro w' hSw op_ ho; obtain ⟨o0, o1, o2, o3, o4, o5, y0, y1, y2, y3, y4, y5, c0⟩ := HSS.out _ hSw; simp only [List.getElem?_toArray, List.getElem?_cons_succ, List.getElem?_cons_zero, Option.some.injEq] at ho; subst ho; go_simp; with_reducible rfl) (by assumption) ?_
            try simp only [Act.put, List.setIfInBounds_toArray, List.set_cons_zero, List.set_cons_succ]
            refine rg_take 32 (some 143) _ (by kernel_rfl) (by kernel_rfl) (by kernel_rfl) (fun _ _ _ h => h) (by kernel_rfl) (by kernel_rfl) (by intro w' hSw op_ ho; obtain ⟨o0, o1, o2, o3, o4, o5, y0, y1, y2, y3, y4, y5, c0⟩ := HSS.out _ hSw; simp only [List.getElem?_toArray, List.getElem?_cons_succ, List.getElem?_cons_zero, Option.some.injEq] at ho; subst ho; go_simp; with_reducible rfl) (by assumption) ?_
            try simp only [Act.put, List.setIfInBounds_toArray, List.set_cons_zero, List.set_cons_succ]
            refine rg_take 33 (some 144) _ (by kernel_rfl) (by kernel_rfl) (by kernel_rfl) (fun _ _ _ h => h) (by kernel_rfl) (by kernel_rfl) (by intro w' hSw op_ ho; obtain ⟨o0, o1, o2, o3, o4, o5, y0, y1, y2, y3, y4, y5, c0⟩ := HSS.out _ hSw; simp only [List.getElem?_toArray, List.getElem?_cons_succ, List.getElem?_cons_zero, Option.some.injEq] at ho; subst ho; go_simp; with_reducible rfl) (by assumption) ?_
            try simp only [Act.put, List.setIfInBounds_toArray, List.set_cons_zero, List.set_cons_succ]
            refine rg_take 34 (some 145) _ (by kernel_rfl) (by kernel_rfl) (by kernel_rfl) (fun _ _ _ h => h) (by kernel_rfl) (by kernel_rfl) (by intro w' hSw op_ ho; obtain ⟨o0, o1, o2, o3, o4, o5, y0, y1, y2, y3, y4, y5, c0⟩ := HSS.out _ hSw; simp only [List.getElem?_toArray, List.getElem?_cons_succ, List.getElem?_cons_zero, Option.some.injEq] at ho; subst ho; go_simp; with_reducible rfl) (by assumption) ?_
            try simp only [Act.put, List.setIfInBounds_toArray, List.set_cons_zero, List.set_cons_succ]
            refine rg_one 29 (by kernel_rfl) (by kernel_rfl) (fun op_ ho K hK => ?_)
            simp only [List.getElem?_toArray, List.getElem?_cons_succ, List.getElem?_cons_zero, Option.some.injEq] at ho
            subst ho
            go_simp
            go_at_call 20
            refine (HLE.out _ (by assumption)).mono ?_
            rintro e wa ⟨rfl, ra⟩
            go_wp2_with fail
            refine hK.out _ _ (by assumption) (fun hHeld => ?_)
            clear hK
            try simp only [Act.put, List.setIfInBounds_toArray, List.set_cons_zero, List.set_cons_succ]
            refine rg_take 35 (some 146) _ (by kernel_rfl) (by kernel_rfl) (by kernel_rfl) (fun _ _ _ h => h) (by kernel_rfl) (by kernel_rfl) (by intro w' hSw op_ ho; obtain ⟨o0, o1, o2, o3, o4, o5, y0, y1, y2, y3, y4, y5, c0⟩ := HSS.out _ hSw; simp only [List.getElem?_toArray, List.getElem?_cons_succ, List.getElem?_cons_zero, Option.some.injEq] at ho; subst ho; go_simp; with_reducible rfl) (by assumption) ?_
            try simp only [Act.put, List.setIfInBounds_toArray, List.set_cons_zero, List.set_cons_succ]
            refine rg_take 36 (some 147) _ (by kernel_rfl) (by kernel_rfl) (by kernel_rfl) (fun _ _ _ h => h) (by kernel_rfl) (by kernel_rfl) (by intro w' hSw op_ ho; obtain ⟨o0, o1, o2, o3, o4, o5, y0, y1, y2, y3, y4, y5, c0⟩ := HSS.out _ hSw; simp only [List.getElem?_toArray, List.getElem?_cons_succ, List.getElem?_cons_zero, Option.some.injEq] at ho; subst ho; go_simp; with_reducible rfl) (by assumption) ?_
            try simp only [Act.put, List.setIfInBounds_toArray, List.set_cons_zero, List.set_cons_succ]
            refine rg_take 37 (some 148) _ (by kernel_rfl) (by kernel_rfl) (by kernel_rfl) (fun _ _ _ h => h) (by kernel_rfl) (by kernel_rfl) (by intro w' hSw op_ ho; obtain ⟨o0, o1, o2, o3, o4, o5, y0, y1, y2, y3, y4, y5, c0⟩ := HSS.out _ hSw; simp only [List.getElem?_toArray, List.getElem?_cons_succ, List.getElem?_cons_zero, Option.some.injEq] at ho; subst ho; go_simp; with_reducible rfl) (by assumption) ?_
            try simp only [Act.put, List.setIfInBounds_toArray, List.set_cons_zero, List.set_cons_succ]
            refine rg_take 38 (some 149) _ (by kernel_rfl) (by kernel_rfl) (by kernel_rfl) (fun _ _ _ h => h) (by kernel_rfl) (by kernel_rfl) (by intro w' hSw op_ ho; obtain ⟨o0, o1, o2, o3, o4, o5, y0, y1, y2, y3, y4, y5, c0⟩ := HSS.out _ hSw; simp only [List.getElem?_toArray, List.getElem?_cons_succ, List.getElem?_cons_zero, Option.some.injEq] at ho; subst ho; go_simp; with_reducible rfl) (by assumption) ?_
            try simp only [Act.put, List.setIfInBounds_toArray, List.set_cons_zero, List.set_cons_succ]
            refine rg_take 40 (some 151) _ (by kernel_rfl) (by kernel_rfl) (by kernel_rfl) (fun _ _ _ h => h) (by kernel_rfl) (by kernel_rfl) (by intro w' hSw op_ ho; obtain ⟨o0, o1, o2, o3, o4, o5, y0, y1, y2, y3, y4, y5, c0⟩ := HSS.out _ hSw; simp only [List.getElem?_toArray, List.getElem?_cons_succ, List.getElem?_cons_zero, Option.some.injEq] at ho; subst ho; go_simp; with_reducible rfl) (by assumption) ?_
            try simp only [Act.put, List.setIfInBounds_toArray, List.set_cons_zero, List.set_cons_succ]
            refine rg_one 39 (by kernel_rfl) (by kernel_rfl) (fun op_ ho K hK => ?_)
            simp only [List.getElem?_toArray, List.getElem?_cons_succ, List.getElem?_cons_zero, Option.some.injEq] at ho
            subst ho
            go_simp
            go_at_call 22
            refine (HLT.out _ (by assumption)).mono ?_
            rintro e wa ⟨a1T, d1T, rfl, l1T, ra⟩
            go_wp2_with fail
            refine hK.out _ _ (by assumption) (fun hHeld => ?_)
            clear hK
            try simp only [Act.put, List.setIfInBounds_toArray, List.set_cons_zero, List.set_cons_succ]
            refine rg_one 41 (by kernel_rfl) (by kernel_rfl) (fun op_ ho K hK => ?_)
            simp only [List.getElem?_toArray, List.getElem?_cons_succ, List.getElem?_cons_zero, Option.some.injEq] at ho
            subst ho
            go_simp
            go_at_call 23
            refine (HRT.out _ _ (by assumption) l1T).mono ?_
            rintro e wa ⟨a2T, d2T, rfl, l2T, l3T, ra⟩
            go_wp2_with fail
            refine hK.out _ _ (by assumption) (fun hHeld => ?_)
            clear hK
            try simp only [Act.put, List.setIfInBounds_toArray, List.set_cons_zero, List.set_cons_succ]
            refine rg_one 42 (by kernel_rfl) (by kernel_rfl) (fun op_ ho K hK => ?_)
            simp only [List.getElem?_toArray, List.getElem?_cons_succ, List.getElem?_cons_zero, Option.some.injEq] at ho
            subst ho
            go_simp
            go_at_call 21
            refine (HSM.out _ _ _ _ HLNT.out l3T l2T (by assumption)).mono ?_
            rintro e wa ⟨rfl, ra⟩
            go_wp2_with fail
            refine hK.out _ _ (by assumption) (fun hHeld => ?_)
            clear hK
            try simp only [Act.put, List.setIfInBounds_toArray, List.set_cons_zero, List.set_cons_succ]
            refine rg_take 43 (some 154) _ (by kernel_rfl) (by kernel_rfl) (by kernel_rfl) (fun _ _ _ h => h) (by kernel_rfl) (by kernel_rfl) (by intro w' hSw op_ ho; obtain ⟨o0, o1, o2, o3, o4, o5, y0, y1, y2, y3, y4, y5, c0⟩ := HSS.out _ hSw; simp only [List.getElem?_toArray, List.getElem?_cons_succ, List.getElem?_cons_zero, Option.some.injEq] at ho; subst ho; go_simp; with_reducible rfl) (by assumption) ?_
            try simp only [Act.put, List.setIfInBounds_toArray, List.set_cons_zero, List.set_cons_succ]
            refine rg_take 44 (some 155) _ (by kernel_rfl) (by kernel_rfl) (by kernel_rfl) (fun _ _ _ h => h) (by kernel_rfl) (by kernel_rfl) (by intro w' hSw op_ ho; obtain ⟨o0, o1, o2, o3, o4, o5, y0, y1, y2, y3, y4, y5, c0⟩ := HSS.out _ hSw; simp only [List.getElem?_toArray, List.getElem?_cons_succ, List.getElem?_cons_zero, Option.some.injEq] at ho; subst ho; go_simp; with_reducible rfl) (by assumption) ?_
            try simp only [Act.put, List.setIfInBounds_toArray, List.set_cons_zero, List.set_cons_succ]
            refine rg_take 45 (some 156) _ (by kernel_rfl) (by kernel_rfl) (by kernel_rfl) (fun _ _ _ h => h) (by kernel_rfl) (by kernel_rfl) (by intro w' hSw op_ ho; obtain ⟨o0, o1, o2, o3, o4, o5, y0, y1, y2, y3, y4, y5, c0⟩ := HSS.out _ hSw; simp only [List.getElem?_toArray, List.getElem?_cons_succ, List.getElem?_cons_zero, Option.some.injEq] at ho; subst ho; go_simp; with_reducible rfl) (by assumption) ?_
            try simp only [Act.put, List.setIfInBounds_toArray, List.set_cons_zero, List.set_cons_succ]
            refine rg_take 46 (some 157) _ (by kernel_rfl) (by kernel_rfl) (by kernel_rfl) (fun _ _ _ h => h) (by kernel_rfl) (by kernel_rfl) (by intro w' hSw op_ ho; obtain ⟨o0, o1, o2, o3, o4, o5, y0, y1, y2, y3, y4, y5, c0⟩ := HSS.out _ hSw; simp only [List.getElem?_toArray, List.getElem?_cons_succ, List.getElem?_cons_zero, Option.some.injEq] at ho; subst ho; go_simp; with_reducible rfl) (by assumption) ?_
            try simp only [Act.put, List.setIfInBounds_toArray, List.set_cons_zero, List.set_cons_succ]
            refine rg_take 48 (some 159) _ (by kernel_rfl) (by kernel_rfl) (by kernel_rfl) (fun _ _ _ h => h) (by kernel_rfl) (by kernel_rfl) (by intro w' hSw op_ ho; obtain ⟨o0, o1, o2, o3, o4, o5, y0, y1, y2, y3, y4, y5, c0⟩ := HSS.out _ hSw; simp only [List.getElem?_toArray, List.getElem?_cons_succ, List.getElem?_cons_zero, Option.some.injEq] at ho; subst ho; go_simp; with_reducible rfl) (by assumption) ?_
            try simp only [Act.put, List.setIfInBounds_toArray, List.set_cons_zero, List.set_cons_succ]
            refine rg_one 47 (by kernel_rfl) (by kernel_rfl) (fun op_ ho K hK => ?_)
            simp only [List.getElem?_toArray, List.getElem?_cons_succ, List.getElem?_cons_zero, Option.some.injEq] at ho
            subst ho
            go_simp
            go_at_call 22
            refine (HLF.out _ (by assumption)).mono ?_
            rintro e wa ⟨a1F, d1F, rfl, l1F, ra⟩
            go_wp2_with fail
            refine hK.out _ _ (by assumption) (fun hHeld => ?_)
            clear hK
            try simp only [Act.put, List.setIfInBounds_toArray, List.set_cons_zero, List.set_cons_succ]
            refine rg_one 49 (by kernel_rfl) (by kernel_rfl) (fun op_ ho K hK => ?_)
            simp only [List.getElem?_toArray, List.getElem?_cons_succ, List.getElem?_cons_zero, Option.some.injEq] at ho
            subst ho
            go_simp
            go_at_call 23
            refine (HRF.out _ _ (by assumption) l1F).mono ?_
            rintro e wa ⟨a2F, d2F, rfl, l2F, l3F, ra⟩
            go_wp2_with fail
            refine hK.out _ _ (by assumption) (fun hHeld => ?_)
            clear hK
            try simp only [Act.put, List.setIfInBounds_toArray, List.set_cons_zero, List.set_cons_succ]
            refine rg_one 50 (by kernel_rfl) (by kernel_rfl) (fun op_ ho K hK => ?_)
            simp only [List.getElem?_toArray, List.getElem?_cons_succ, List.getElem?_cons_zero, Option.some.injEq] at ho
            subst ho
            go_simp
            go_at_call 21
            refine (HSM.out _ _ _ _ HLNF.out l3F l2F (by assumption)).mono ?_
            rintro e wa ⟨rfl, ra⟩
            go_wp2_with fail
            refine hK.out _ _ (by assumption) (fun hHeld => ?_)
            clear hK
            try simp only [Act.put, List.setIfInBounds_toArray, List.set_cons_zero, List.set_cons_succ]
            refine rg_take 51 (some 162) _ (by kernel_rfl) (by kernel_rfl) (by kernel_rfl) (fun _ _ _ h => h) (by kernel_rfl) (by kernel_rfl) (by intro w' hSw op_ ho; obtain ⟨o0, o1, o2, o3, o4, o5, y0, y1, y2, y3, y4, y5, c0⟩ := HSS.out _ hSw; simp only [List.getElem?_toArray, List.getElem?_cons_succ, List.getElem?_cons_zero, Option.some.injEq] at ho; subst ho; go_simp; with_reducible rfl) (by assumption) ?_
            try simp only [Act.put, List.setIfInBounds_toArray, List.set_cons_zero, List.set_cons_succ]
            refine rg_take 52 (some 163) _ (by kernel_rfl) (by kernel_rfl) (by kernel_rfl) (fun _ _ _ h => h) (by kernel_rfl) (by kernel_rfl) (by intro w' hSw op_ ho; obtain ⟨o0, o1, o2, o3, o4, o5, y0, y1, y2, y3, y4, y5, c0⟩ := HSS.out _ hSw; simp only [List.getElem?_toArray, List.getElem?_cons_succ, List.getElem?_cons_zero, Option.some.injEq] at ho; subst ho; go_simp; with_reducible rfl) (by assumption) ?_
            try simp only [Act.put, List.setIfInBounds_toArray, List.set_cons_zero, List.set_cons_succ]
            refine wpAnyH_done (by kernel_rfl) ?_ _
            have HE := Lib.hid hHeld
            clear hHeld
            go_wp2_with fail
            go_meet
            exact ⟨rfl, _, _, BxR.on HE.out K7.out⟩
        case rest =>
          obtain ⟨rfl, k8⟩ := hcut
          have K8 := Lib.hid k8
          clear k8 K7 HYB
          go_wp2_with fail
          go_loopw [15] (fun v wr => ∃ k : Nat, k ≤ 2 ∧ v = .int .i64 (k : Int) ∧ Bx w wr q u V x.o b' b') (fun v _ => 2 - (intOf v).toNat)
          case atStart => exact ⟨0, by omega, rfl, K8.out⟩
          case round =>
            obtain ⟨k, hk, rfl, hk8⟩ := hrel
            by_cases hk2 : k < 2
            · as_aux_lemma =>
              have hkk : (k : Int) < 2 := by omega
              obtain ⟨R, U, k9⟩ := hk8
              have K2 := Lib.hid k9
              obtain ⟨sb, hsb⟩ : ∃ sb, ((k : Int) == 1) = sb := ⟨_, rfl⟩
              obtain ⟨M, hM⟩ : ∃ M, listR13 b'.L sb = M := ⟨_, rfl⟩
              have HMM := Lib.hid hM
              have HRL := Lib.hid (rlist13_c u U b' sb _ k9.rf HG'.out.len)
              rw [hM] at HRL
              clear hM k9 K8
              go_wp2_with fail
              refine HRL.out.mono ?_
              rintro e w3 ⟨v, rfl, ho, b3⟩
              have K3 := Lib.hid (BxR.on b3 K2.out)
              obtain ⟨am, cm, rfl⟩ := ho.form
              have HLM := Lib.hid ho.lies
              have HBE := Lib.hid (K3.out.bk.best HG'.out sb)
              rw [HMM.out] at HBE
              clear ho b3 K2 HRL
              by_cases hM0 : M = []
              · as_aux_lemma =>
                subst hM0
                have HBE' : Hid (Ending.returned (.tuple #[.agg #[.int .i64 ((([] : List Od)).headD od0).id, .int .i64 ((([] : List Od)).headD od0).tn, .bool ((([] : List Od)).headD od0).sell, .int .i64 ((([] : List Od)).headD od0).price, .int .i64 ((([] : List Od)).headD od0).lots, .int .i64 ((([] : List Od)).headD od0).seq], .bool (decide (0 < ([] : List Od).length))]) = .returned (.tuple #[.agg #[.int .i64 od0.id, .int .i64 od0.tn, .bool od0.sell, .int .i64 od0.price, .int .i64 od0.lots, .int .i64 od0.seq], .bool false])) := Lib.hid rfl
                rw [List.length_nil]
                go_wp2_with fail
                refine HBE.out.mono ?_
                rintro e w4 ⟨he, t4, b4⟩
                replace he := he.trans HBE'.out
                subst he
                have K9 := Lib.hid (BxR.on b4 K3.out)
                have HB4 := Lib.hid b4
                clear t4 b4 HBE HBE'
                go_upto_region 30 with fail
                obtain ⟨WC, hWC⟩ : ∃ WC, w4.alloc (.cells #[.int .i64 od0.id, .int .i64 od0.tn, .bool od0.sell, .int .i64 od0.price, .int .i64 od0.lots, .int .i64 od0.seq] 31) = WC := ⟨_, rfl⟩
                obtain ⟨Z, hZ⟩ : ∃ Z, w4.heap.size = Z := ⟨_, rfl⟩
                have hB9 : Below w4.heap.size w4 WC := by rw [← hWC]; exact (Below.refl _ _).alloc (Nat.le_refl _) _
                have HYC : Hid (BOdBlk WC Z od0) := Lib.hid (by rw [← hWC, ← hZ]; exact BOdBlk.new w4 od0)
                have K10 := Lib.hid (BxR.on hB9 K9.out)
                rw [hWC, hZ]
                have HR9 := Lib.hid (Below.refl WC.heap.size WC)
                clear hWC hZ hB9
                refine wp_region_held_drew (S := fun W => Below WC.heap.size WC W) (by kernel_rfl) ?_ (fun hHeld => ?_)
                · exact HR9.out.drew
                refine rg_take 0 (some 179) _ (by kernel_rfl) (by kernel_rfl) (by kernel_rfl) (fun _ _ _ h => h) (by kernel_rfl) (by kernel_rfl) (by intro w' hSw op_ ho; have _hq := hSw; simp only [List.getElem?_toArray, List.getElem?_cons_zero, Option.some.injEq] at ho; subst ho; go_simp; with_reducible rfl) (by assumption) ?_
                try simp only [Act.put, List.setIfInBounds_toArray, List.set_cons_zero, List.set_cons_succ]
                refine rg_take 1 (some 180) _ (by kernel_rfl) (by kernel_rfl) (by kernel_rfl) (fun _ _ _ h => h) (by kernel_rfl) (by kernel_rfl) (by intro w' hSw op_ ho; have _hq := hSw; simp only [List.getElem?_toArray, List.getElem?_cons_succ, List.getElem?_cons_zero, Option.some.injEq] at ho; subst ho; go_simp; with_reducible rfl) (by assumption) ?_
                try simp only [Act.put, List.setIfInBounds_toArray, List.set_cons_zero, List.set_cons_succ]
                refine rg_take 2 (some 181) _ (by kernel_rfl) (by kernel_rfl) (by kernel_rfl) (fun _ _ _ h => h) (by kernel_rfl) (by kernel_rfl) (by intro w' hSw op_ ho; have _hq := hSw; simp only [List.getElem?_toArray, List.getElem?_cons_succ, List.getElem?_cons_zero, Option.some.injEq] at ho; subst ho; go_simp; with_reducible rfl) (by assumption) ?_
                try simp only [Act.put, List.setIfInBounds_toArray, List.set_cons_zero, List.set_cons_succ]
                refine rg_take 3 (some 182) _ (by kernel_rfl) (by kernel_rfl) (by kernel_rfl) (fun _ _ _ h => h) (by kernel_rfl) (by kernel_rfl) (by intro w' hSw op_ ho; have _hq := hSw; simp only [List.getElem?_toArray, List.getElem?_cons_succ, List.getElem?_cons_zero, Option.some.injEq] at ho; subst ho; go_simp; with_reducible rfl) (by assumption) ?_
                try simp only [Act.put, List.setIfInBounds_toArray, List.set_cons_zero, List.set_cons_succ]
                refine rg_take 4 (some 183) _ (by kernel_rfl) (by kernel_rfl) (by kernel_rfl) (fun _ _ _ h => h) (by kernel_rfl) (by kernel_rfl) (by intro w' hSw op_ ho; have _hq := hSw; simp only [List.getElem?_toArray, List.getElem?_cons_succ, List.getElem?_cons_zero, Option.some.injEq] at ho; subst ho; go_simp; with_reducible rfl) (by assumption) ?_
                try simp only [Act.put, List.setIfInBounds_toArray, List.set_cons_zero, List.set_cons_succ]
                refine rg_take 5 (some 184) _ (by kernel_rfl) (by kernel_rfl) (by kernel_rfl) (fun _ _ _ h => h) (by kernel_rfl) (by kernel_rfl) (by intro w' hSw op_ ho; have _hq := hSw; simp only [List.getElem?_toArray, List.getElem?_cons_succ, List.getElem?_cons_zero, Option.some.injEq] at ho; subst ho; go_simp; with_reducible rfl) (by assumption) ?_
                try simp only [Act.put, List.setIfInBounds_toArray, List.set_cons_zero, List.set_cons_succ]
                refine rg_take 6 (some 185) _ (by kernel_rfl) (by kernel_rfl) (by kernel_rfl) (fun _ _ _ h => h) (by kernel_rfl) (by kernel_rfl) (by intro w' hSw op_ ho; have _hq := hSw; simp only [List.getElem?_toArray, List.getElem?_cons_succ, List.getElem?_cons_zero, Option.some.injEq] at ho; subst ho; go_simp; with_reducible rfl) (by assumption) ?_
                try simp only [Act.put, List.setIfInBounds_toArray, List.set_cons_zero, List.set_cons_succ]
                refine rg_take 7 (some 186) _ (by kernel_rfl) (by kernel_rfl) (by kernel_rfl) (fun _ _ _ h => h) (by kernel_rfl) (by kernel_rfl) (by intro w' hSw op_ ho; have _hq := hSw; simp only [List.getElem?_toArray, List.getElem?_cons_succ, List.getElem?_cons_zero, Option.some.injEq] at ho; subst ho; go_simp; with_reducible rfl) (by assumption) ?_
                try simp only [Act.put, List.setIfInBounds_toArray, List.set_cons_zero, List.set_cons_succ]
                refine rg_skip 8 (some 187) (by kernel_rfl) (by kernel_rfl) (by kernel_rfl) (fun _ _ _ h => h) (by kernel_rfl) (by kernel_rfl) (by assumption) ?_
                try simp only [Act.put, List.setIfInBounds_toArray, List.set_cons_zero, List.set_cons_succ]
                refine rg_skip 9 (some 188) (by kernel_rfl) (by kernel_rfl) (by kernel_rfl) (fun _ _ _ h => h) (by kernel_rfl) (by kernel_rfl) (by assumption) ?_
                try simp only [Act.put, List.setIfInBounds_toArray, List.set_cons_zero, List.set_cons_succ]
                refine rg_skip 10 (some 189) (by kernel_rfl) (by kernel_rfl) (by kernel_rfl) (fun _ _ _ h => h) (by kernel_rfl) (by kernel_rfl) (by assumption) ?_
                try simp only [Act.put, List.setIfInBounds_toArray, List.set_cons_zero, List.set_cons_succ]
                refine rg_skip 11 (some 190) (by kernel_rfl) (by kernel_rfl) (by kernel_rfl) (fun _ _ _ h => h) (by kernel_rfl) (by kernel_rfl) (by assumption) ?_
                try simp only [Act.put, List.setIfInBounds_toArray, List.set_cons_zero, List.set_cons_succ]
                refine rg_skip 12 (some 191) (by kernel_rfl) (by kernel_rfl) (by kernel_rfl) (fun _ _ _ h => h) (by kernel_rfl) (by kernel_rfl) (by assumption) ?_
                try simp only [Act.put, List.setIfInBounds_toArray, List.set_cons_zero, List.set_cons_succ]
                refine rg_skip 13 (some 192) (by kernel_rfl) (by kernel_rfl) (by kernel_rfl) (fun _ _ _ h => h) (by kernel_rfl) (by kernel_rfl) (by assumption) ?_
                try simp only [Act.put, List.setIfInBounds_toArray, List.set_cons_zero, List.set_cons_succ]
                refine rg_take 14 (some 193) _ (by kernel_rfl) (by kernel_rfl) (by kernel_rfl) (fun _ _ _ h => h) (by kernel_rfl) (by kernel_rfl) (by intro w' hSw op_ ho; have _hq := hSw; simp only [List.getElem?_toArray, List.getElem?_cons_succ, List.getElem?_cons_zero, Option.some.injEq] at ho; subst ho; go_simp; with_reducible rfl) (by assumption) ?_
                try simp only [Act.put, List.setIfInBounds_toArray, List.set_cons_zero, List.set_cons_succ]
                refine rg_take 15 (some 194) _ (by kernel_rfl) (by kernel_rfl) (by kernel_rfl) (fun _ _ _ h => h) (by kernel_rfl) (by kernel_rfl) (by intro w' hSw op_ ho; have _hq := hSw; simp only [List.getElem?_toArray, List.getElem?_cons_succ, List.getElem?_cons_zero, Option.some.injEq] at ho; subst ho; go_simp; with_reducible rfl) (by assumption) ?_
                try simp only [Act.put, List.setIfInBounds_toArray, List.set_cons_zero, List.set_cons_succ]
                refine wpAnyH_done (by kernel_rfl) ?_ _
                have HE := Lib.hid hHeld
                clear hHeld
                go_wp2_with fail
                go_roundw
                case rel => exact ⟨k + 1, by omega, by go_num, _, _, BxR.on HE.out K10.out⟩
                case measure => simp [intOf]; omega
              · as_aux_lemma =>
                obtain ⟨y, M', rfl⟩ : ∃ y M', M = y :: M' := by cases M with | nil => exact absurd rfl hM0 | cons y M' => exact ⟨y, M', rfl⟩
                have HBE' : Hid (Ending.returned (.tuple #[.agg #[.int .i64 (((y :: M') : List Od).headD od0).id, .int .i64 (((y :: M') : List Od).headD od0).tn, .bool (((y :: M') : List Od).headD od0).sell, .int .i64 (((y :: M') : List Od).headD od0).price, .int .i64 (((y :: M') : List Od).headD od0).lots, .int .i64 (((y :: M') : List Od).headD od0).seq], .bool (decide (0 < ((y :: M') : List Od).length))]) = .returned (.tuple #[.agg #[.int .i64 y.id, .int .i64 y.tn, .bool y.sell, .int .i64 y.price, .int .i64 y.lots, .int .i64 y.seq], .bool true])) := Lib.hid (by rw [decide_eq_true (by simp)]; rfl)
                obtain ⟨ad9, rfl, gl9, lc9⟩ := LiesE.at HLM.out (i := 0) (x := y) rfl
                obtain ⟨N, hN⟩ : ∃ N, (y :: M').length = N := ⟨_, rfl⟩
                have hN0 : (0 : Int) < (N : Int) := by rw [← hN]; simp
                have hd9 : decide ((0 : Int) < (N : Int)) = true := decide_eq_true hN0
                have hNn : 0 < N := by omega
                rw [hN]
                go_wp2_with fail
                refine HBE.out.mono ?_
                rintro e w4 ⟨he, t4, b4⟩
                replace he := he.trans HBE'.out
                subst he
                have K9 := Lib.hid (BxR.on b4 K3.out)
                have HB4 := Lib.hid b4
                clear t4 b4 HBE HBE'
                go_upto_region 30 with fail
                obtain ⟨WC, hWC⟩ : ∃ WC, w4.alloc (.cells #[.int .i64 y.id, .int .i64 y.tn, .bool y.sell, .int .i64 y.price, .int .i64 y.lots, .int .i64 y.seq] 31) = WC := ⟨_, rfl⟩
                obtain ⟨Z, hZ⟩ : ∃ Z, w4.heap.size = Z := ⟨_, rfl⟩
                have hB9 : Below w4.heap.size w4 WC := by rw [← hWC]; exact (Below.refl _ _).alloc (Nat.le_refl _) _
                have HYC : Hid (BOdBlk WC Z y) := Lib.hid (by rw [← hWC, ← hZ]; exact BOdBlk.new w4 y)
                have K10 := Lib.hid (BxR.on hB9 K9.out)
                have HLC : Hid (∀ r u, (encOd.enc y)[r]? = some u → WC.cell? (ad9.add r) = some u) := Lib.hid fun r u' h => by
                  have h1 := lc9 r u' h
                  rw [Nat.zero_mul, Nat.zero_add] at h1
                  have hb1 : (ad9.add r).block = ad9.block := by unfold Addr.add; split <;> rfl
                  exact (hB9.cell (p := ad9.add r) (by rw [hb1]; exact Nat.lt_of_lt_of_le (gl9 (by decide)) HB4.out.size)).trans ((HB4.out.cell (p := ad9.add r) (by rw [hb1]; exact gl9 (by decide))).trans h1)
                have hgC : ad9.block < WC.heap.size := Nat.lt_of_lt_of_le (gl9 (by decide)) (Nat.le_trans HB4.out.size hB9.size)
                rw [hWC, hZ]
                have HSS : Hid (∀ W : World, Below WC.heap.size WC W → W.cell? ⟨Z, 0, none⟩ = some (.int .i64 y.id) ∧ W.cell? ⟨Z, 1, none⟩ = some (.int .i64 y.tn) ∧ W.cell? ⟨Z, 2, none⟩ = some (.bool y.sell) ∧ W.cell? ⟨Z, 3, none⟩ = some (.int .i64 y.price) ∧ W.cell? ⟨Z, 4, none⟩ = some (.int .i64 y.lots) ∧ W.cell? ⟨Z, 5, none⟩ = some (.int .i64 y.seq) ∧ W.cell? ad9 = some (.int .i64 y.id) ∧ W.cell? ⟨ad9.block, ad9.off + 1, none⟩ = some (.int .i64 y.tn) ∧ W.cell? ⟨ad9.block, ad9.off + 2, none⟩ = some (.bool y.sell) ∧ W.cell? ⟨ad9.block, ad9.off + 3, none⟩ = some (.int .i64 y.price) ∧ W.cell? ⟨ad9.block, ad9.off + 4, none⟩ = some (.int .i64 y.lots) ∧ W.cell? ⟨ad9.block, ad9.off + 5, none⟩ = some (.int .i64 y.seq)) := Lib.hid fun W hb => by
                  obtain ⟨y0, y1, y2, y3, y4, y5, _⟩ := (BOdBlk.on hb HYC.out).cells
                  have h0 := (hb.cell (p := ad9) hgC).trans (by have := HLC.out 0 _ rfl; rwa [add_zeroE] at this : WC.cell? ad9 = some (.int .i64 y.id))
                  have h1 := (hb.cell (p := ⟨ad9.block, ad9.off + 1, none⟩) hgC).trans (by have := HLC.out 1 _ rfl; rwa [show ad9.add 1 = ⟨ad9.block, ad9.off + 1, none⟩ by unfold Addr.add; rw [if_neg (by decide)]] at this : WC.cell? ⟨ad9.block, ad9.off + 1, none⟩ = some (.int .i64 y.tn))
                  have h2 := (hb.cell (p := ⟨ad9.block, ad9.off + 2, none⟩) hgC).trans (by have := HLC.out 2 _ rfl; rwa [show ad9.add 2 = ⟨ad9.block, ad9.off + 2, none⟩ by unfold Addr.add; rw [if_neg (by decide)]] at this : WC.cell? ⟨ad9.block, ad9.off + 2, none⟩ = some (.bool y.sell))
                  have h3 := (hb.cell (p := ⟨ad9.block, ad9.off + 3, none⟩) hgC).trans (by have := HLC.out 3 _ rfl; rwa [show ad9.add 3 = ⟨ad9.block, ad9.off + 3, none⟩ by unfold Addr.add; rw [if_neg (by decide)]] at this : WC.cell? ⟨ad9.block, ad9.off + 3, none⟩ = some (.int .i64 y.price))
                  have h4 := (hb.cell (p := ⟨ad9.block, ad9.off + 4, none⟩) hgC).trans (by have := HLC.out 4 _ rfl; rwa [show ad9.add 4 = ⟨ad9.block, ad9.off + 4, none⟩ by unfold Addr.add; rw [if_neg (by decide)]] at this : WC.cell? ⟨ad9.block, ad9.off + 4, none⟩ = some (.int .i64 y.lots))
                  have h5 := (hb.cell (p := ⟨ad9.block, ad9.off + 5, none⟩) hgC).trans (by have := HLC.out 5 _ rfl; rwa [show ad9.add 5 = ⟨ad9.block, ad9.off + 5, none⟩ by unfold Addr.add; rw [if_neg (by decide)]] at this : WC.cell? ⟨ad9.block, ad9.off + 5, none⟩ = some (.int .i64 y.seq))
                  exact ⟨y0, y1, y2, y3, y4, y5, h0, h1, h2, h3, h4, h5⟩
                have HTR : Hid (∀ W W' : World, Below WC.heap.size WC W → Below W.heap.size W W' → Below WC.heap.size WC W') := Lib.hid fun W W' h1 h2 => h1.trans (h2.mono h1.size)
                have HFY : Hid (∀ W, Below WC.heap.size WC W → Calls Tryd.prog 10 #[.agg #[.int .i64 y.id, .int .i64 y.tn, .bool y.sell, .int .i64 y.price, .int .i64 y.lots, .int .i64 y.seq]] W fun e w' => e = .returned (.agg #[.int .i64 y.id, .int .i64 y.tn, .bool y.sell, .int .i64 y.price, .int .i64 y.lots, .int .i64 y.seq]) ∧ Below WC.heap.size WC w') := Lib.hid fun W h => (form_c y W).mono fun _ _ ⟨k1, k2⟩ => ⟨k1, HTR.out _ _ h k2⟩
                have hE : ∀ W : World, (Op.equalIn 10000 38 (.agg #[.int .i64 y.id, .int .i64 y.tn, .bool y.sell, .int .i64 y.price, .int .i64 y.lots, .int .i64 y.seq]) (.agg #[.int .i64 y.id, .int .i64 y.tn, .bool y.sell, .int .i64 y.price, .int .i64 y.lots, .int .i64 y.seq])).run Tryd.prog W = .ok true W := fun W => (eqOd y y W).trans (by rw [decide_eq_true rfl])
                have ea9 := add_zeroE ad9
                have HR9 := Lib.hid (Below.refl WC.heap.size WC)
                clear hWC hZ hB9 hgC lc9 gl9 hN
                refine wp_region_held_drew (S := fun W => Below WC.heap.size WC W) (by kernel_rfl) ?_ (fun hHeld => ?_)
                · exact HR9.out.drew
                refine rg_take 0 (some 179) _ (by kernel_rfl) (by kernel_rfl) (by kernel_rfl) (fun _ _ _ h => h) (by kernel_rfl) (by kernel_rfl) (by intro w' hSw op_ ho; obtain ⟨y0, y1, y2, y3, y4, y5, r0, r1, r2, r3, r4, r5⟩ := HSS.out _ hSw; simp only [List.getElem?_toArray, List.getElem?_cons_zero, Option.some.injEq] at ho; subst ho; go_simp; with_reducible rfl) (by assumption) ?_
                try simp only [Act.put, List.setIfInBounds_toArray, List.set_cons_zero, List.set_cons_succ]
                refine rg_take 1 (some 180) _ (by kernel_rfl) (by kernel_rfl) (by kernel_rfl) (fun _ _ _ h => h) (by kernel_rfl) (by kernel_rfl) (by intro w' hSw op_ ho; obtain ⟨y0, y1, y2, y3, y4, y5, r0, r1, r2, r3, r4, r5⟩ := HSS.out _ hSw; simp only [List.getElem?_toArray, List.getElem?_cons_succ, List.getElem?_cons_zero, Option.some.injEq] at ho; subst ho; go_simp; with_reducible rfl) (by assumption) ?_
                try simp only [Act.put, List.setIfInBounds_toArray, List.set_cons_zero, List.set_cons_succ]
                refine rg_take 2 (some 181) _ (by kernel_rfl) (by kernel_rfl) (by kernel_rfl) (fun _ _ _ h => h) (by kernel_rfl) (by kernel_rfl) (by intro w' hSw op_ ho; obtain ⟨y0, y1, y2, y3, y4, y5, r0, r1, r2, r3, r4, r5⟩ := HSS.out _ hSw; simp only [List.getElem?_toArray, List.getElem?_cons_succ, List.getElem?_cons_zero, Option.some.injEq] at ho; subst ho; go_simp; with_reducible rfl) (by assumption) ?_
                try simp only [Act.put, List.setIfInBounds_toArray, List.set_cons_zero, List.set_cons_succ]
                refine rg_take 3 (some 182) _ (by kernel_rfl) (by kernel_rfl) (by kernel_rfl) (fun _ _ _ h => h) (by kernel_rfl) (by kernel_rfl) (by intro w' hSw op_ ho; obtain ⟨y0, y1, y2, y3, y4, y5, r0, r1, r2, r3, r4, r5⟩ := HSS.out _ hSw; simp only [List.getElem?_toArray, List.getElem?_cons_succ, List.getElem?_cons_zero, Option.some.injEq] at ho; subst ho; go_simp; with_reducible rfl) (by assumption) ?_
                try simp only [Act.put, List.setIfInBounds_toArray, List.set_cons_zero, List.set_cons_succ]
                refine rg_take 4 (some 183) _ (by kernel_rfl) (by kernel_rfl) (by kernel_rfl) (fun _ _ _ h => h) (by kernel_rfl) (by kernel_rfl) (by intro w' hSw op_ ho; obtain ⟨y0, y1, y2, y3, y4, y5, r0, r1, r2, r3, r4, r5⟩ := HSS.out _ hSw; simp only [List.getElem?_toArray, List.getElem?_cons_succ, List.getElem?_cons_zero, Option.some.injEq] at ho; subst ho; go_simp; with_reducible rfl) (by assumption) ?_
                try simp only [Act.put, List.setIfInBounds_toArray, List.set_cons_zero, List.set_cons_succ]
                refine rg_take 5 (some 184) _ (by kernel_rfl) (by kernel_rfl) (by kernel_rfl) (fun _ _ _ h => h) (by kernel_rfl) (by kernel_rfl) (by intro w' hSw op_ ho; obtain ⟨y0, y1, y2, y3, y4, y5, r0, r1, r2, r3, r4, r5⟩ := HSS.out _ hSw; simp only [List.getElem?_toArray, List.getElem?_cons_succ, List.getElem?_cons_zero, Option.some.injEq] at ho; subst ho; go_simp; with_reducible rfl) (by assumption) ?_
                try simp only [Act.put, List.setIfInBounds_toArray, List.set_cons_zero, List.set_cons_succ]
                refine rg_take 6 (some 185) _ (by kernel_rfl) (by kernel_rfl) (by kernel_rfl) (fun _ _ _ h => h) (by kernel_rfl) (by kernel_rfl) (by intro w' hSw op_ ho; obtain ⟨y0, y1, y2, y3, y4, y5, r0, r1, r2, r3, r4, r5⟩ := HSS.out _ hSw; simp only [List.getElem?_toArray, List.getElem?_cons_succ, List.getElem?_cons_zero, Option.some.injEq] at ho; subst ho; go_simp; with_reducible rfl) (by assumption) ?_
                try simp only [Act.put, List.setIfInBounds_toArray, List.set_cons_zero, List.set_cons_succ]
                refine rg_take 7 (some 186) _ (by kernel_rfl) (by kernel_rfl) (by kernel_rfl) (fun _ _ _ h => h) (by kernel_rfl) (by kernel_rfl) (by intro w' hSw op_ ho; obtain ⟨y0, y1, y2, y3, y4, y5, r0, r1, r2, r3, r4, r5⟩ := HSS.out _ hSw; simp only [List.getElem?_toArray, List.getElem?_cons_succ, List.getElem?_cons_zero, Option.some.injEq] at ho; subst ho; go_simp; with_reducible rfl) (by assumption) ?_
                try simp only [Act.put, List.setIfInBounds_toArray, List.set_cons_zero, List.set_cons_succ]
                refine rg_take 8 (some 187) _ (by kernel_rfl) (by kernel_rfl) (by kernel_rfl) (fun _ _ _ h => h) (by kernel_rfl) (by kernel_rfl) (by intro w' hSw op_ ho; obtain ⟨y0, y1, y2, y3, y4, y5, r0, r1, r2, r3, r4, r5⟩ := HSS.out _ hSw; simp only [List.getElem?_toArray, List.getElem?_cons_succ, List.getElem?_cons_zero, Option.some.injEq] at ho; subst ho; go_simp; with_reducible rfl) (by assumption) ?_
                try simp only [Act.put, List.setIfInBounds_toArray, List.set_cons_zero, List.set_cons_succ]
                refine rg_take 10 (some 189) _ (by kernel_rfl) (by kernel_rfl) (by kernel_rfl) (fun _ _ _ h => h) (by kernel_rfl) (by kernel_rfl) (by intro w' hSw op_ ho; obtain ⟨y0, y1, y2, y3, y4, y5, r0, r1, r2, r3, r4, r5⟩ := HSS.out _ hSw; simp only [List.getElem?_toArray, List.getElem?_cons_succ, List.getElem?_cons_zero, Option.some.injEq] at ho; subst ho; go_simp; with_reducible rfl) (by assumption) ?_
                try simp only [Act.put, List.setIfInBounds_toArray, List.set_cons_zero, List.set_cons_succ]
                refine rg_take 11 (some 190) _ (by kernel_rfl) (by kernel_rfl) (by kernel_rfl) (fun _ _ _ h => h) (by kernel_rfl) (by kernel_rfl) (by intro w' hSw op_ ho; obtain ⟨y0, y1, y2, y3, y4, y5, r0, r1, r2, r3, r4, r5⟩ := HSS.out _ hSw; simp only [List.getElem?_toArray, List.getElem?_cons_succ, List.getElem?_cons_zero, Option.some.injEq] at ho; subst ho; go_simp; with_reducible rfl) (by assumption) ?_
                try simp only [Act.put, List.setIfInBounds_toArray, List.set_cons_zero, List.set_cons_succ]
                refine rg_take 12 (some 191) _ (by kernel_rfl) (by kernel_rfl) (by kernel_rfl) (fun _ _ _ h => h) (by kernel_rfl) (by kernel_rfl) (by intro w' hSw op_ ho; obtain ⟨y0, y1, y2, y3, y4, y5, r0, r1, r2, r3, r4, r5⟩ := HSS.out _ hSw; simp only [List.getElem?_toArray, List.getElem?_cons_succ, List.getElem?_cons_zero, Option.some.injEq] at ho; subst ho; go_simp; with_reducible rfl) (by assumption) ?_
                try simp only [Act.put, List.setIfInBounds_toArray, List.set_cons_zero, List.set_cons_succ]
                refine rg_one 9 (by kernel_rfl) (by kernel_rfl) (fun op_ ho K hK => ?_)
                simp only [List.getElem?_toArray, List.getElem?_cons_succ, List.getElem?_cons_zero, Option.some.injEq] at ho
                subst ho
                go_simp
                go_at_call 10
                refine (HFY.out _ (by assumption)).mono ?_
                rintro e wa ⟨rfl, ra⟩
                go_wp2_with fail
                refine hK.out _ _ (by assumption) (fun hHeld => ?_)
                clear hK
                try simp only [Act.put, List.setIfInBounds_toArray, List.set_cons_zero, List.set_cons_succ]
                refine rg_take 13 (some 192) _ (by kernel_rfl) (by kernel_rfl) (by kernel_rfl) (fun _ _ _ h => h) (by kernel_rfl) (by kernel_rfl) (by intro w' hSw op_ ho; obtain ⟨y0, y1, y2, y3, y4, y5, r0, r1, r2, r3, r4, r5⟩ := HSS.out _ hSw; simp only [List.getElem?_toArray, List.getElem?_cons_succ, List.getElem?_cons_zero, Option.some.injEq] at ho; subst ho; go_simp; with_reducible rfl) (by assumption) ?_
                try simp only [Act.put, List.setIfInBounds_toArray, List.set_cons_zero, List.set_cons_succ]
                refine rg_take 14 (some 193) _ (by kernel_rfl) (by kernel_rfl) (by kernel_rfl) (fun _ _ _ h => h) (by kernel_rfl) (by kernel_rfl) (by intro w' hSw op_ ho; obtain ⟨y0, y1, y2, y3, y4, y5, r0, r1, r2, r3, r4, r5⟩ := HSS.out _ hSw; simp only [List.getElem?_toArray, List.getElem?_cons_succ, List.getElem?_cons_zero, Option.some.injEq] at ho; subst ho; go_simp; with_reducible rfl) (by assumption) ?_
                try simp only [Act.put, List.setIfInBounds_toArray, List.set_cons_zero, List.set_cons_succ]
                refine rg_take 15 (some 194) _ (by kernel_rfl) (by kernel_rfl) (by kernel_rfl) (fun _ _ _ h => h) (by kernel_rfl) (by kernel_rfl) (by intro w' hSw op_ ho; obtain ⟨y0, y1, y2, y3, y4, y5, r0, r1, r2, r3, r4, r5⟩ := HSS.out _ hSw; simp only [List.getElem?_toArray, List.getElem?_cons_succ, List.getElem?_cons_zero, Option.some.injEq] at ho; subst ho; go_simp; with_reducible rfl) (by assumption) ?_
                try simp only [Act.put, List.setIfInBounds_toArray, List.set_cons_zero, List.set_cons_succ]
                refine wpAnyH_done (by kernel_rfl) ?_ _
                have HE := Lib.hid hHeld
                clear hHeld
                go_wp2_with fail
                go_roundw
                case rel => exact ⟨k + 1, by omega, by go_num, _, _, BxR.on HE.out K10.out⟩
                case measure => simp [intOf]; omega
            · have hkk : ¬ (k : Int) < 2 := by omega
              have HK8 := Lib.hid hk8
              clear hk8 K8
              go_wp2_with fail
              go_roundw
              case rel => exact ⟨i + 1, b', by go_num, by omega, HG'.out, HCM'.out, HK8.out.two⟩
              case measure => simp [intOf]; omega
      · have hdd : ¬ ((i : Int) < (xs.length : Int)) ∨ ((i : Int) < (xs.length : Int) ∧ ¬ (i : Int) < 60) := by omega
        clear hlt
        rcases hdd with hd | ⟨hd, hd60⟩
        · have hd1 : decide ((i : Int) < (xs.length : Int)) = false := decide_eq_false hd
          go_wp2_with fail
          go_meet
          exact HT.out.below
        · have hd1 : decide ((i : Int) < (xs.length : Int)) = true := decide_eq_true hd
          have hd2 : decide ((i : Int) < 60) = false := decide_eq_false hd60
          go_wp2_with fail
          go_meet
          exact HT.out.below
  case rest =>
  have HB := Lib.hid hcut
  clear hcut T0
  have HSN : Hid (∀ W : World, Below w.heap.size w W → Sent s W) := Lib.hid fun W h => HS.out.below h (Nat.le_refl _)
  have HTR : Hid (∀ W W' : World, Below w.heap.size w W → Below W.heap.size W W' → Below w.heap.size w W') := Lib.hid fun W W' h1 h2 => h1.trans (h2.mono h1.size)
  go_wp2_with fail
  refine (drop_nil s 1 _ (HSN.out _ HB.out)).mono ?_
  rintro e w3 ⟨rfl, b3⟩
  have H3 := Lib.hid ((HTR.out _ _ HB.out b3).alloc (HTR.out _ _ HB.out b3).size (.cells #[.int .i64 od0.id, .int .i64 od0.tn, .bool od0.sell, .int .i64 od0.price, .int .i64 od0.lots, .int .i64 od0.seq] 31))
  clear b3 HB
  go_wp2_with fail
  refine (of_nil 1 _).mono ?_
  rintro e w4 ⟨rfl, b4⟩
  have H4 := Lib.hid ((HTR.out _ _ H3.out b4).alloc (HTR.out _ _ H3.out b4).size (.cells #[.int .i64 od0.id, .int .i64 od0.tn, .bool od0.sell, .int .i64 od0.price, .int .i64 od0.lots, .int .i64 od0.seq] 31))
  clear b4 H3
  go_wp2_with fail
  refine (best_nil true _).mono ?_
  rintro e w5 ⟨rfl, b5⟩
  have H5 := Lib.hid ((HTR.out _ _ H4.out b5).alloc (HTR.out _ _ H4.out b5).size (.cells #[.int .i64 od0.id, .int .i64 od0.tn, .bool od0.sell, .int .i64 od0.price, .int .i64 od0.lots, .int .i64 od0.seq] 31))
  clear b5 H4
  go_wp2_with fail
  refine (add_nil s od0 _ (HSN.out _ H5.out)).mono ?_
  rintro e w6 ⟨rfl, b6⟩
  have H6 := Lib.hid (HTR.out _ _ H5.out b6)
  clear b6 H5
  go_wp2_with fail
  refine (kind_errV s 2 _ (HSN.out _ H6.out) (by omega)).mono ?_
  rintro e w7 ⟨rfl, b7⟩
  have H7 := Lib.hid (HTR.out _ _ H6.out b7)
  clear b7 H6
  go_wp2_with fail
  refine (kind_errV s 2 _ (HSN.out _ H7.out) (by omega)).mono ?_
  rintro e w8 ⟨rfl, b8⟩
  have H8 := Lib.hid (HTR.out _ _ H7.out b8)
  clear b8 H7
  go_wp2_with fail
  refine (cut_nil s 1 1 _ (HSN.out _ H8.out)).mono ?_
  rintro e w9 ⟨rfl, rfl⟩
  go_wp2_with fail
  refine (kind_errV s 2 _ (HSN.out _ H8.out) (by omega)).mono ?_
  rintro e w10 ⟨rfl, b10⟩
  have H10 := Lib.hid (HTR.out _ _ H8.out b10)
  clear b10 H8
  go_wp2_with fail
  refine (list_nil true _).mono ?_
  rintro e w11 ⟨rfl, b11⟩
  have H11 := Lib.hid (HTR.out _ _ H10.out b11)
  clear b11 H10
  go_wp2_with fail
  refine (len_nil _).mono ?_
  rintro e w12 ⟨rfl, rfl⟩
  go_wp2_with fail
  go_ret
  exact ⟨by first | rfl | (simp; done), H11.out⟩
end Go.Proofs.YtcbhilaecaccpaaDoor
