/- The reference's Match of stage 14 by contract. Conditions: the book is one that the calls have made, and it is a good one. -/
import Derived.Test.YtogmlbjbjgkdcaaDoorFl
import Derived.Test.YtogmlbjbjgkdcaaDoorOdT
import Derived.Test.YtogmlbjbjgkdcaaDoorOdL
import Derived.Test.YtogmlbjbjgkdcaaDoorOdV
import Derived.Test.YtogmlbjbjgkdcaaDoorDlX
import Derived.Deep.RegionLaw
import Derived.Deep.DeepCutAuto
import Derived.Deep.CutBlock
namespace Go.Proofs.YtogmlbjbjgkdcaaDoor
open Go Go.RowKit

theorem OdB.on' {w w' : World} {g B : Nat} {x : Od} (h : OdB w g x) (hb : Below B w w') (hg : g < B) : OdB w' g x := (hb.block g hg).trans h
/-- What a lot begins with. -/
structure MrS (w : World) (u U g : Nat) (o : Od) (b : RB) (K k : Nat) (b1 : RB) (U1 : Nat) (v : Value) (out : List Fl) (W : World) : Prop where
  book : RBk W u U1 b1
  box : OdB W g { o with lots := (k : Int) }
  own : OwnE encFl 48 W (g + 1) v out
  chg : Chg u U w W
  new : U1 = U ∨ w.heap.size < U1
  apart : ∀ i, v.ownBlock = some i → i ≠ U1
  gb : GB b1
  came : b1.came = b.came
  run : lotsR k b1 o out = lotsR K b o []
  less : k ≤ K
  many : out.length ≤ K - k
  lots : ∀ f ∈ out, 0 ≤ f.lots ∧ f.lots ≤ (K - k : Nat)

theorem MrS.on {w : World} {u U g : Nat} {o : Od} {b : RB} {K k : Nat} {b1 : RB} {U1 : Nat} {v : Value} {out : List Fl} {W W' : World} (h : MrS w u U g o b K k b1 U1 v out W) (hb : Below W.heap.size W W') : MrS w u U g o b K k b1 U1 v out W' :=
  ⟨h.book.on hb, h.box.on hb, h.own.on hb, h.chg.trans (Chg.of_below hb) (.inl rfl), h.new, h.apart, h.gb, h.came, h.run, h.less, h.many, h.lots⟩
/-- Does the order stop here? -/
def stopO (o : Od) : List Od → Bool
  | [] => true
  | x :: _ => !meetO o x
/-- Is a lot more of the last fill? -/
def sameF (out : List Fl) (f : Fl) : Bool := match out.getLast? with
  | none => false
  | some g => decide (g.ask = f.ask) && decide (g.bid = f.bid)

theorem RBk.off {w w' : World} {q R : Nat} {b : RB} (h : RBk w q R b) (hs : ∀ k, k = q ∨ k = R → w'.heap[k]? = w.heap[k]?) : RBk w' q R b := by
  obtain ⟨v, h1, h2, h3⟩ := h
  exact ⟨v, (hs q (.inl rfl)).trans h1, h2.same fun k hk => hs k (.inr (by rw [hk] at h3; exact h3)), h3⟩
theorem addF_many (out : List Fl) (f : Fl) : (addF out f).length ≤ out.length + 1 := by
  unfold addF
  cases hg : out.getLast? with
  | none => simp
  | some g => simp only; split <;> simp <;> omega
theorem addF_lots {out : List Fl} {f : Fl} {n : Nat} (h : ∀ g ∈ out, 0 ≤ g.lots ∧ g.lots ≤ (n : Int)) (hf : f.lots = 1) : ∀ g ∈ addF out f, 0 ≤ g.lots ∧ g.lots ≤ ((n + 1 : Nat) : Int) := by
  intro g hg
  unfold addF at hg
  cases hl : out.getLast? with
  | none =>
    rw [hl] at hg
    obtain rfl := List.mem_singleton.1 hg
    omega
  | some l =>
    rw [hl] at hg
    simp only at hg
    have hm := h l (List.mem_of_getLast? hl)
    split at hg
    · rcases List.mem_append.1 hg with hg | hg
      · have := h g (List.dropLast_sublist out |>.subset hg); omega
      · obtain rfl := List.mem_singleton.1 hg
        simp only; omega
    · rcases List.mem_append.1 hg with hg | hg
      · have := h g hg; omega
      · obtain rfl := List.mem_singleton.1 hg
        omega
theorem addF_same {init : List Fl} {f F : Fl} (h : sameF (init ++ [f]) F = true) : addF (init ++ [f]) F = (init ++ [f]).set init.length { f with lots := f.lots + 1 } := by
  unfold sameF at h
  rw [List.getLast?_concat] at h
  simp only [Bool.and_eq_true, decide_eq_true_eq] at h
  unfold addF
  rw [List.getLast?_concat]
  simp only
  rw [if_pos h, List.dropLast_concat]
  simp
theorem addF_other {out : List Fl} {F : Fl} (h : sameF out F = false) : addF out F = out ++ [F] := by
  unfold addF
  unfold sameF at h
  cases hl : out.getLast? with
  | none => rw [List.getLast?_eq_none_iff.1 hl]; rfl
  | some g =>
    rw [hl] at h
    simp only [Bool.and_eq_false_iff, decide_eq_false_iff_not] at h
    simp only
    exact if_neg fun e => by rcases h with h | h; exact h e.1; exact h e.2
theorem same_none (F : Fl) : sameF [] F = false := rfl
theorem same_some (init : List Fl) (f F : Fl) : sameF (init ++ [f]) F = (decide (f.ask = F.ask) && decide (f.bid = F.bid)) := by
  unfold sameF; rw [List.getLast?_concat]
theorem OdB.lots {w : World} {g : Nat} {x : Od} (h : OdB w g x) (n : Int) : OdB (w.setCell ⟨g, 4, none⟩ (.int .i64 n)) g { x with lots := n } := by
  unfold OdB at *
  rw [heap_setCell_same w g 4 _ _ _ h]
  rfl
theorem bkC_came (b : RB) (p : Nat) (x : Od) (n : Int) : (bkC b p x n).came = b.came := by unfold bkC; split <;> rfl
/-- Behind the fill. -/
structure MrT (w : World) (u U g g11 : Nat) (o x : Od) (k : Nat) (b1 : RB) (U1 : Nat) (v : Value) (out : List Fl) (W : World) : Prop where
  book : RBk W u U1 b1
  box : OdB W g { o with lots := ((k + 1 : Nat) : Int) }
  best : OdB W g11 x
  own : OwnE encFl 48 W (g + 1) v out
  chg : Chg u U w W
  apart : ∀ i, v.ownBlock = some i → i ≠ U1

/-- The next lot. -/
theorem MrT.next {w : World} {u U g g11 : Nat} {o x : Od} {b : RB} {K k : Nat} {b1 : RB} {U1 U2 : Nat} {v vo : Value} {out : List Fl} {F : Fl} {T : List Od} {W0 wc w6 : World} (hm : MrS w u U g o b K (k + 1) b1 U1 vo out W0) (hl : listR13 b1.L (!o.sell) = x :: T) (hme : meetO o x = true) (hF : fillO o x 1 = F) (hF1 : F.lots = 1)
    (hu : u < g ∧ g ≠ U1 ∧ w.heap.size = g ∧ g < wc.heap.size ∧ U1 < wc.heap.size) (ht : MrT w u U g g11 o x k b1 U1 v (addF out F) wc) (hB : RBk w6 u U2 (cutR13 b1 x.id 1).1) (hnew : U2 = U1 ∨ wc.heap.size ≤ U2) (hC : Chg u U1 wc w6) (hX : OdB w6 g { o with lots := ((k + 1 : Nat) : Int) }) :
    MrS w u U g o b K k (cutR13 b1 x.id 1).1 U2 v (addF out F) (w6.setCell ⟨g, 4, none⟩ (.int .i64 (k : Int))) := by
  obtain ⟨p, hcu, _⟩ := best_place hm.gb hl
  have hxl := hm.gb.lots x (List.mem_of_getElem? hcu.place)
  have c1 : cutR13 b1 x.id 1 = (bkC b1 p x (x.lots - 1), 0) := by
    have := hcu.cut (n := x.lots) (m := 1) (by omega) (by omega) hxl.2
    rwa [hcu.start] at this
  obtain ⟨g1, g2, g3, g4, g5'⟩ := hu
  have hold := hm.new
  have hle := hm.less
  refine ⟨hB.off fun i hi => heap_setCell_other _ _ _ _ (by rcases hi with rfl | rfl <;> simp only <;> omega), OdB.lots hX (k : Int), ?_, (ht.chg.trans hC (by omega)).setCell (.inr (.inr (by simp only; omega))) _, by omega, fun i hi => ?_, ?_, ?_, ?_, by omega, ?_, ?_⟩
  · refine ht.own.same fun i hi => ?_
    have k1 := ht.own.lt i hi
    have k2 := ht.apart i hi
    rw [heap_setCell_other _ _ _ _ (by simp only; omega)]
    exact hC.block i k1.2 (by omega) k2
  · have k1 := ht.own.lt i hi
    have k2 := ht.apart i hi
    omega
  · rw [c1]; exact hcu.good _ (by omega) (by omega)
  · rw [c1]; exact (bkC_came _ _ _ _).trans hm.came
  · have := hm.run
    rw [lotsR, hl] at this
    simp only at this
    rw [if_pos hme, hF] at this
    exact this
  · have h1 := addF_many out F
    have h2 := hm.many
    omega
  · have h := addF_lots hm.lots hF1
    rwa [show K - (k + 1) + 1 = K - k by omega] at h

set_option maxRecDepth 100000 in
set_option maxHeartbeats 6400000 in
theorem rmatch_c (u U : Nat) (b : RB) (o : Od) (w : World) (h : RBk w u U b) (hG : GB b) (hc : b.came ≤ 900) :
    Calls Tryd.prog 9 #[.pointer (some ⟨u, 0, none⟩), .agg #[.int .i64 o.id, .int .i64 o.tn, .bool o.sell, .int .i64 o.price, .int .i64 o.lots, .int .i64 o.seq]] w fun e w' => ∃ v, e = .returned (.tuple #[v, .int .i64 ((matchO b o).2.2.1 : Nat), .int .i64 ((matchO b o).2.2.2 : Nat)]) ∧
      OwnE encFl 48 w' w.heap.size v (matchO b o).2.1 ∧ (∃ U', RBk w' u U' (matchO b o).1 ∧ (U' = U ∨ w.heap.size ≤ U')) ∧ Chg u U w w' := by
  have H0 := Lib.hid h
  obtain ⟨W1, hW1⟩ : ∃ W1, w.alloc (.cells #[.int .i64 o.id, .int .i64 o.tn, .bool o.sell, .int .i64 o.price, .int .i64 o.lots, .int .i64 o.seq] 40) = W1 := ⟨_, rfl⟩
  obtain ⟨g, hg⟩ : ∃ g, w.heap.size = g := ⟨_, rfl⟩
  have hb1 : Below w.heap.size w W1 := by rw [← hW1]; exact (Below.refl _ _).alloc (Nat.le_refl _) _
  have H1 := Lib.hid (h.on hb1)
  have HX : Hid (OdB W1 g o) := Lib.hid (by rw [← hW1, ← hg]; exact heap_alloc_new w _)
  have hz1 : W1.heap.size = g + 1 := by rw [← hW1, World.size_alloc, hg]
  have HZ := Lib.hid hz1
  have HB1 := Lib.hid hb1
  have HGG := Lib.hid hg
  obtain ⟨A, c, c0, c1, cf, cx⟩ := H1.out.cells
  obtain ⟨v, v1, v2, v3⟩ := H1.out
  obtain rfl : v = .slice A b.L.length c := by
    have := (cell_of_heap v1 0).symm.trans c0
    simpa using this
  have HL := Lib.hid v2.lies
  have hul : u < W1.heap.size := H1.out.lt.1
  have hun : ¬ (u = W1.heap.size) := by omega
  have hlen := hG.len
  obtain ⟨i0, hi, hz0, hz1', hz2⟩ := info_parts Tryd.infoOd
  clear h hb1 cx v1 v2 v3 hz1
  go_enter Tryd.func9, Tryd.ntmps9
  go_upto_region 1 with fail
  try rw [hW1]
  try rw [hg]
  clear hW1 hg
  go_cut [7] (fun v wx => ∃ g5 R5 : Nat, v = .pointer (some ⟨g5, 0, none⟩) ∧ (RBl wx g5 R5 b ∧ g + 1 ≤ g5 ∧ g + 1 ≤ R5) ∧ Below W1.heap.size W1 wx)
  case first =>
    go_region_law (
      refine step_append_L (E := encOd) rfl (.tmp 14) (.tmp 18) _ rfl i0 _ 48 Tryd.underlying27 hi hz0 hz1' hz2 rfl (by decide) (base := g + 1) (v := .slice (some ⟨W1.heap.size, 0, none⟩) 0 0) (L := []) (M := b.L) rfl (OwnE.none (E := encOd) (e := 40) W1 (base := g + 1) (by rw [HZ.out]; exact Nat.le_refl _)) rfl (HL.out.onB (by (repeat' (first | (with_reducible exact Below.refl _ _) | (with_reducible refine below_drewN ?_ _) | (with_reducible refine Below.drew ?_) | (with_reducible refine Below.alloc ?_ ?_ _) | (with_reducible refine Below.setCell ?_ ?_ _) | (with_reducible refine Below.trans ?_ (Below.mono (by with_reducible assumption) ?_)) | omega | (simp only [World.size_alloc, World.size_setCell, World.size_drew, Go.Proofs.YtogmlbjbjgkdcaaDoor.World.size_drewN] at *; omega) | (with_reducible refine Below.size (B := 0) ?_))))) (by simp only [List.length_nil, maxLen]; omega) (by simp only [List.length_nil]; omega) (by have := HZ.out; simp; omega) ?_
      intro v9 w9 own9 gr9 lo9
      have hb9 : Below W1.heap.size W1 w9 := Below.grown (by (repeat' (first | (with_reducible exact Below.refl _ _) | (with_reducible refine below_drewN ?_ _) | (with_reducible refine Below.drew ?_) | (with_reducible refine Below.alloc ?_ ?_ _) | (with_reducible refine Below.setCell ?_ ?_ _) | (with_reducible refine Below.trans ?_ (Below.mono (by with_reducible assumption) ?_)) | omega | (simp only [World.size_alloc, World.size_setCell, World.size_drew, Go.Proofs.YtogmlbjbjgkdcaaDoor.World.size_drewN] at *; omega) | (with_reducible refine Below.size (B := 0) ?_)))) gr9 (by simp) (fun k hk => by cases hk; exact Nat.le_refl _)
      obtain ⟨A9, c9, rfl⟩ := own9.form
      have O9 := Lib.hid own9
      have B9 := Lib.hid hb9
      have d1 := (hb9.cell (p := ⟨u, 1, none⟩) hul).trans c1
      have hu9 : u < w9.heap.size := Nat.lt_of_lt_of_le hul hb9.size
      have hun9 : ¬ (u = w9.heap.size) := by omega
      clear own9 gr9 lo9 hb9 c0 c1)
    all_goals go_wp2_with fail
    all_goals go_meet
    all_goals
      have hO9 := O9.out
      rw [List.nil_append] at hO9
      refine ⟨w9.heap.size, (Value.slice A9 b.L.length c9).ownBlock.getD w9.heap.size, rfl, ⟨⟨.slice A9 b.L.length c9, heap_alloc_new _ _, (hO9.on ((Below.refl _ _).alloc (Nat.le_refl _) _)).base (Nat.zero_le _), rfl, fun k hk => ?_⟩, ?_, ?_⟩, B9.out.alloc B9.out.size _⟩
      · have := hO9.lt k hk; omega
      · have := B9.out.size; rw [HZ.out] at this; omega
      · have := B9.out.size
        rw [HZ.out] at this
        cases hv : (Value.slice A9 b.L.length c9).ownBlock with
        | none => simp; omega
        | some k => simp; have := hO9.lt k hv; omega
  case rest =>
  obtain ⟨g5, R5, rfl, hRL, hb3⟩ := hcut
  have HRL := Lib.hid hRL
  have hx3 : OdB wc g o := HX.out.on' hb3 (by rw [HZ.out]; omega)
  have HB3 := Lib.hid hb3
  obtain ⟨o0, o1, o2, o3, o4, o5, of, ol⟩ := hx3.cells
  clear hRL hb3 hx3 c0 c1 cf hul hun HL
  obtain ⟨er, her⟩ : ∃ er, (addR13 b o).2 = er := ⟨_, rfl⟩
  have HAD := Lib.hid (radd_l g5 R5 b o wc HRL.out.1 (Nat.le_trans hlen (by omega)) (Nat.le_trans hc (by omega)))
  rw [her] at HAD
  have HER := Lib.hid her
  clear her
  go_wp2_with fail
  refine HAD.out.mono ?_
  rintro e w4 ⟨rfl, hC⟩
  have hb4 : Below W1.heap.size W1 w4 := HB3.out.trans (hC.below (by have := HRL.out.2.1; rw [HZ.out]; exact this) (by have := HRL.out.2.2; rw [HZ.out]; exact this) HB3.out.size)
  have H4 : Hid (Below w.heap.size w w4 ∧ RBk w4 u U b ∧ OdB w4 g o ∧ g < w4.heap.size) := Lib.hid ⟨HB1.out.trans (hb4.mono HB1.out.size), H1.out.on hb4, HX.out.on' hb4 (by rw [HZ.out]; omega), by have := hb4.size; have := HZ.out; omega⟩
  clear hC hb4 HAD o0 o1 o2 o3 o4 o5 of ol HB3 HRL
  by_cases h0 : er = 0
  · subst h0
    obtain ⟨ho, _, _⟩ := came_ok HER.out
    obtain ⟨hk1, hk2⟩ := good_lots ho
    obtain ⟨K, hK⟩ : ∃ K : Nat, o.lots = (K : Int) := ⟨o.lots.toNat, by omega⟩
    have hKn : o.lots.toNat = K := by omega
    have hoK : { o with lots := (K : Int) } = o := by rw [← hK]
    obtain ⟨W5, hW5⟩ : ∃ W5, w4.alloc (.cells #[] 48) = W5 := ⟨_, rfl⟩
    obtain ⟨g9, hg9⟩ : ∃ g9, w4.heap.size = g9 := ⟨_, rfl⟩
    have hb5 : Below w4.heap.size w4 W5 := by rw [← hW5]; exact (Below.refl _ _).alloc (Nat.le_refl _) _
    have HM0 : Hid (MrS w u U g o b K K b U (.slice (some ⟨g9, 0, none⟩) 0 0) [] W5) := Lib.hid (by
      refine ⟨H4.out.2.1.on hb5, by rw [hoK]; exact H4.out.2.2.1.on hb5, ?_, Chg.of_below (H4.out.1.trans (hb5.mono H4.out.1.size)), .inl rfl, fun i hi => ?_, hG, rfl, rfl, Nat.le_refl _, Nat.zero_le _, fun f hf => absurd hf List.not_mem_nil⟩
      · rw [← hW5, ← hg9]; exact OwnE.none w4 (by have := H4.out.2.2.2; omega)
      · have e : i = g9 := by simpa [Value.ownBlock] using hi.symm
        have h1 := H0.out.lt
        have h2 := H4.out.1.size
        omega)
    have HKK := Lib.hid hK; have HKN := Lib.hid hKn
    have hK1 : 1 ≤ K := by omega
    have hK2 : K ≤ 1000 := by omega
    clear hk1 hk2 hK hKn hoK ho hb5
    go_upto_block 0 with fail
    try rw [hW5]
    try rw [hg9]
    clear hW5 hg9
    go_cut [9] (fun v wx => ∃ (k : Nat) (b1 : RB) (U1 : Nat) (out : List Fl), MrS w u U g o b K k b1 U1 v out wx ∧ lotsR k b1 o out = (b1, k, out))
    case first =>
      go_wp2_with fail
      go_loopw [9] (fun v wr => ∃ (k : Nat) (b1 : RB) (U1 : Nat) (out : List Fl), MrS w u U g o b K k b1 U1 v out wr) (fun _ W => (intOf ((W.cell? ⟨g, 4, none⟩).getD (.int .i64 0))).toNat)
      case atStart => exact ⟨K, b, U, [], HM0.out⟩
      case round =>
        obtain ⟨k, b1, U1, out, hm⟩ := hrel
        have HM := Lib.hid hm
        clear hm HM0
        obtain ⟨o0, o1, o2, o3, o4, o5, of, ol⟩ := HM.out.box.cells
        cases k with
        | zero =>
          go_wp2_with fail
          go_meet
          exact ⟨0, b1, U1, out, HM.out, rfl⟩
        | succ k =>
          have hk0 : (0 : Int) < ((k + 1 : Nat) : Int) := by omega
          have HOLD : Hid (wr.cell? ⟨g, 4, none⟩ = some (.int .i64 ((k + 1 : Nat) : Int))) := Lib.hid HM.out.box.cells.2.2.2.2.1
          obtain ⟨M, hM⟩ : ∃ M, listR13 b1.L (!o.sell) = M := ⟨_, rfl⟩
          have HMM := Lib.hid hM
          have HRL := Lib.hid (rlist13_c u U1 b1 (!o.sell) wr HM.out.book HM.out.gb.len)
          rw [hM] at HRL
          clear hM
          simp only at o0 o1 o2 o3 o4 o5
          obtain ⟨Ao, co, rfl⟩ := HM.out.own.form
          go_wp2_with fail
          refine HRL.out.mono ?_
          rintro e w5 ⟨vl, rfl, hol, b5⟩
          obtain ⟨Al, cl, rfl⟩ := hol.form
          have HLM := Lib.hid hol.lies
          have HM5 := Lib.hid (HM.out.on b5)
          obtain ⟨N, hN⟩ : ∃ N, M.length = N := ⟨_, rfl⟩
          rw [hN] at HLM
          rw [hN]
          have HN := Lib.hid hN
          clear hN hol b5 HM HRL o0 o1 o2 o3 o4 o5 of ol
          obtain ⟨o0, o1, o2, o3, o4, o5, of, ol⟩ := HM5.out.box.cells
          simp only at o0 o1 o2 o3 o4 o5
          go_upto_region 8 with fail
          go_cut [70] (fun cv wx => cv = .bool (stopO o M) ∧ Below w5.heap.size w5 wx)
          case first =>
            cases M with
            | nil =>
              have hN0 : ((N : Int) == 0) = true := by rw [← HN.out]; rfl
              clear HMM HLM HN
              go_quiet (fail)
              go_wp2_with fail
              go_meet
              exact ⟨rfl, by (repeat' (first | (with_reducible exact Below.refl _ _) | (with_reducible refine below_drewN ?_ _) | (with_reducible refine Below.drew ?_) | (with_reducible refine Below.alloc ?_ ?_ _) | (with_reducible refine Below.setCell ?_ ?_ _) | (with_reducible refine Below.trans ?_ (Below.mono (by with_reducible assumption) ?_)) | omega | (simp only [World.size_alloc, World.size_setCell, World.size_drew, Go.Proofs.YtogmlbjbjgkdcaaDoor.World.size_drewN] at *; omega) | (with_reducible refine Below.size (B := 0) ?_)))⟩
            | cons x T =>
              obtain ⟨ad9, rfl, gl9, lc9⟩ := LiesE.at HLM.out (i := 0) (x := x) rfl
              have hN0 : (0 : Int) < (N : Int) := by rw [← HN.out]; simp
              have hNn : 0 < N := by omega
              have hNb : ((N : Int) == 0) = false := by simpa using (show ¬ (N : Int) = 0 by omega)
              have x3 : w5.cell? ⟨ad9.block, ad9.off + 3, none⟩ = some (.int .i64 x.price) := by
                have := lc9 3 _ rfl
                rw [Nat.zero_mul, Nat.zero_add] at this
                rw [show (⟨ad9.block, ad9.off + 3, none⟩ : Addr) = ad9.add 3 by unfold Addr.add; rw [if_neg (by decide)]]
                exact this
              have ea9 := add_zeroE ad9
              clear HN lc9 gl9 HLM HMM
              have HST : Hid (stopO o (x :: T) = !meetO o x) := Lib.hid rfl
              by_cases hs : o.sell = false
              · rw [hs] at o2
                have HMT : Hid (meetO o x = decide (x.price ≤ o.price)) := Lib.hid (by unfold meetO; rw [hs]; rfl)
                by_cases hp : x.price ≤ o.price
                · have d1 : decide (o.price < x.price) = false := decide_eq_false (by omega)
                  have HP : Hid ((!decide (x.price ≤ o.price)) = false) := Lib.hid (by rw [decide_eq_true hp]; rfl)
                  clear hp hs
                  go_quiet (fail)
                  go_wp2_with fail
                  go_meet
                  exact ⟨by rw [HST.out, HMT.out, HP.out], by (repeat' (first | (with_reducible exact Below.refl _ _) | (with_reducible refine below_drewN ?_ _) | (with_reducible refine Below.drew ?_) | (with_reducible refine Below.alloc ?_ ?_ _) | (with_reducible refine Below.setCell ?_ ?_ _) | (with_reducible refine Below.trans ?_ (Below.mono (by with_reducible assumption) ?_)) | omega | (simp only [World.size_alloc, World.size_setCell, World.size_drew, Go.Proofs.YtogmlbjbjgkdcaaDoor.World.size_drewN] at *; omega) | (with_reducible refine Below.size (B := 0) ?_)))⟩
                · have d1 : decide (o.price < x.price) = true := decide_eq_true (by omega)
                  have HP : Hid ((!decide (x.price ≤ o.price)) = true) := Lib.hid (by rw [decide_eq_false hp]; rfl)
                  clear hp hs
                  go_quiet (fail)
                  go_wp2_with fail
                  go_meet
                  exact ⟨by rw [HST.out, HMT.out, HP.out], by (repeat' (first | (with_reducible exact Below.refl _ _) | (with_reducible refine below_drewN ?_ _) | (with_reducible refine Below.drew ?_) | (with_reducible refine Below.alloc ?_ ?_ _) | (with_reducible refine Below.setCell ?_ ?_ _) | (with_reducible refine Below.trans ?_ (Below.mono (by with_reducible assumption) ?_)) | omega | (simp only [World.size_alloc, World.size_setCell, World.size_drew, Go.Proofs.YtogmlbjbjgkdcaaDoor.World.size_drewN] at *; omega) | (with_reducible refine Below.size (B := 0) ?_)))⟩
              · replace hs : o.sell = true := by simpa using hs
                rw [hs] at o2
                have HMT : Hid (meetO o x = decide (o.price ≤ x.price)) := Lib.hid (by unfold meetO; rw [hs]; rfl)
                by_cases hp : o.price ≤ x.price
                · have d1 : decide (x.price < o.price) = false := decide_eq_false (by omega)
                  have HP : Hid ((!decide (o.price ≤ x.price)) = false) := Lib.hid (by rw [decide_eq_true hp]; rfl)
                  clear hp hs
                  go_quiet (fail)
                  go_wp2_with fail
                  go_meet
                  exact ⟨by rw [HST.out, HMT.out, HP.out], by (repeat' (first | (with_reducible exact Below.refl _ _) | (with_reducible refine below_drewN ?_ _) | (with_reducible refine Below.drew ?_) | (with_reducible refine Below.alloc ?_ ?_ _) | (with_reducible refine Below.setCell ?_ ?_ _) | (with_reducible refine Below.trans ?_ (Below.mono (by with_reducible assumption) ?_)) | omega | (simp only [World.size_alloc, World.size_setCell, World.size_drew, Go.Proofs.YtogmlbjbjgkdcaaDoor.World.size_drewN] at *; omega) | (with_reducible refine Below.size (B := 0) ?_)))⟩
                · have d1 : decide (x.price < o.price) = true := decide_eq_true (by omega)
                  have HP : Hid ((!decide (o.price ≤ x.price)) = true) := Lib.hid (by rw [decide_eq_false hp]; rfl)
                  clear hp hs
                  go_quiet (fail)
                  go_wp2_with fail
                  go_meet
                  exact ⟨by rw [HST.out, HMT.out, HP.out], by (repeat' (first | (with_reducible exact Below.refl _ _) | (with_reducible refine below_drewN ?_ _) | (with_reducible refine Below.drew ?_) | (with_reducible refine Below.alloc ?_ ?_ _) | (with_reducible refine Below.setCell ?_ ?_ _) | (with_reducible refine Below.trans ?_ (Below.mono (by with_reducible assumption) ?_)) | omega | (simp only [World.size_alloc, World.size_setCell, World.size_drew, Go.Proofs.YtogmlbjbjgkdcaaDoor.World.size_drewN] at *; omega) | (with_reducible refine Below.size (B := 0) ?_)))⟩
          case rest =>
            obtain ⟨rfl, hbx⟩ := hcut
            have HM6 := Lib.hid (HM5.out.on hbx)
            cases hst : stopO o M
            · cases M with
              | nil => exact absurd hst (by simp [stopO])
              | cons x T =>
                have HME : Hid (meetO o x = true) := Lib.hid (by simpa [stopO] using hst)
                obtain ⟨ad9, rfl, gl9, lc9⟩ := LiesE.at (HLM.out.onB hbx) (i := 0) (x := x) rfl
                have hN0 : (0 : Int) < (N : Int) := by rw [← HN.out]; simp
                have hNn : 0 < N := by omega
                have x0 : wc.cell? ad9 = some (.int .i64 x.id) := by have := lc9 0 _ rfl; rwa [Nat.zero_mul, Nat.zero_add, add_zeroE] at this
                have x1 : wc.cell? ⟨ad9.block, ad9.off + 1, none⟩ = some (.int .i64 x.tn) := by have := lc9 1 _ rfl; rwa [Nat.zero_mul, Nat.zero_add, show ad9.add 1 = ⟨ad9.block, ad9.off + 1, none⟩ by unfold Addr.add; rw [if_neg (by decide)]] at this
                have x2 : wc.cell? ⟨ad9.block, ad9.off + 2, none⟩ = some (.bool x.sell) := by have := lc9 2 _ rfl; rwa [Nat.zero_mul, Nat.zero_add, show ad9.add 2 = ⟨ad9.block, ad9.off + 2, none⟩ by unfold Addr.add; rw [if_neg (by decide)]] at this
                have x3 : wc.cell? ⟨ad9.block, ad9.off + 3, none⟩ = some (.int .i64 x.price) := by have := lc9 3 _ rfl; rwa [Nat.zero_mul, Nat.zero_add, show ad9.add 3 = ⟨ad9.block, ad9.off + 3, none⟩ by unfold Addr.add; rw [if_neg (by decide)]] at this
                have x4 : wc.cell? ⟨ad9.block, ad9.off + 4, none⟩ = some (.int .i64 x.lots) := by have := lc9 4 _ rfl; rwa [Nat.zero_mul, Nat.zero_add, show ad9.add 4 = ⟨ad9.block, ad9.off + 4, none⟩ by unfold Addr.add; rw [if_neg (by decide)]] at this
                have x5 : wc.cell? ⟨ad9.block, ad9.off + 5, none⟩ = some (.int .i64 x.seq) := by have := lc9 5 _ rfl; rwa [Nat.zero_mul, Nat.zero_add, show ad9.add 5 = ⟨ad9.block, ad9.off + 5, none⟩ by unfold Addr.add; rw [if_neg (by decide)]] at this
                have ea9 := add_zeroE ad9
                clear hst hbx HLM HM5 lc9 gl9 HN
                go_upto_region 10 with fail
                obtain ⟨W9, hW9⟩ : ∃ W9, wc.alloc (.cells #[.int .i64 x.id, .int .i64 x.tn, .bool x.sell, .int .i64 x.price, .int .i64 x.lots, .int .i64 x.seq] 40) = W9 := ⟨_, rfl⟩
                obtain ⟨g11, hg11⟩ : ∃ g11, wc.heap.size = g11 := ⟨_, rfl⟩
                have hb9 : Below wc.heap.size wc W9 := by rw [← hW9]; exact (Below.refl _ _).alloc (Nat.le_refl _) _
                have HM9 := Lib.hid (HM6.out.on hb9)
                have HX9 : Hid (OdB W9 g11 x) := Lib.hid (by rw [← hW9, ← hg11]; exact heap_alloc_new wc _)
                have HNG : Hid (∀ i, (Value.slice Ao out.length co).ownBlock = some i → i < g11) := Lib.hid (by rw [← hg11]; exact fun i hi => (HM6.out.own.lt i hi).2)
                have HG9 : Hid (g < g11) := Lib.hid (by rw [← hg11]; exact HM6.out.box.cells.2.2.2.2.2.2.2)
                try rw [hW9]
                try rw [hg11]
                clear hW9 hg11 hb9 x0 x1 x2 x3 x4 x5 ea9 HM6 hN0 hNn
                obtain ⟨o0, o1, o2, o3, o4, o5, of, ol⟩ := HM9.out.box.cells
                obtain ⟨x0, x1, x2, x3, x4, x5, xf, xl⟩ := HX9.out.cells
                simp only at o0 o1 o2 o3 o4 o5
                go_upto_if 86 with fail
                go_cut [] (fun wx => FlB 48 wx W9.heap.size (fillO o x 1) ∧ Below W9.heap.size W9 wx)
                case first =>
                  go_wp2_with fail
                  all_goals go_meet
                  all_goals
                    refine ⟨?_, (Below.refl _ _).alloc (Nat.le_refl _) _⟩
                    unfold fillO
                    first
                      | (rw [if_pos (by assumption)]; exact heap_alloc_new _ _)
                      | (rw [if_neg (by rw [‹o.sell = false›]; decide)]; exact heap_alloc_new _ _)
                case rest =>
                  obtain ⟨hfl, hb10⟩ := hcut
                  obtain ⟨F, hF⟩ : ∃ F, fillO o x 1 = F := ⟨_, rfl⟩
                  have hF1 : F.lots = 1 := by rw [← hF]; unfold fillO; split <;> rfl
                  rw [hF] at hfl
                  have HFF := Lib.hid hF; have HF1 := Lib.hid hF1
                  have HM10 := Lib.hid (HM9.out.on hb10)
                  have HX10 := Lib.hid (HX9.out.on hb10)
                  obtain ⟨g12, hg12⟩ : ∃ g12, W9.heap.size = g12 := ⟨_, rfl⟩
                  rw [hg12] at hfl
                  rw [hg12]
                  have HFL := Lib.hid hfl
                  obtain ⟨f0, f1, f2, f3, f4, f5, fl⟩ := HFL.out.cells
                  clear hF hF1 hfl hb10 HM9 HX9 o0 o1 o2 o3 o4 o5 of ol x0 x1 x2 x3 x4 x5 xf xl hg12
                  obtain ⟨N2, hN2⟩ : ∃ N2, out.length = N2 := ⟨_, rfl⟩
                  rw [hN2]
                  have HN2 := Lib.hid hN2
                  clear hN2
                  go_upto_region 14 with fail
                  go_cut [123] (fun cv wx => cv = .bool (sameF out F) ∧ Below wc.heap.size wc wx)
                  case first =>
                    rcases List.eq_nil_or_concat out with h0 | ⟨init, f, h0⟩
                    · subst h0
                      have d1 : decide (0 < N2) = false := by rw [← HN2.out]; rfl
                      go_quiet (fail)
                      go_wp2_with fail
                      go_meet
                      exact ⟨rfl, by (repeat' (first | (with_reducible exact Below.refl _ _) | (with_reducible refine below_drewN ?_ _) | (with_reducible refine Below.drew ?_) | (with_reducible refine Below.alloc ?_ ?_ _) | (with_reducible refine Below.setCell ?_ ?_ _) | (with_reducible refine Below.trans ?_ (Below.mono (by with_reducible assumption) ?_)) | omega | (simp only [World.size_alloc, World.size_setCell, World.size_drew, Go.Proofs.YtogmlbjbjgkdcaaDoor.World.size_drewN] at *; omega) | (with_reducible refine Below.size (B := 0) ?_)))⟩
                    · rw [List.concat_eq_append] at h0
                      subst h0
                      have hn2 : N2 = init.length + 1 := by rw [← HN2.out]; simp
                      have hsm : init.length + 1 ≤ 1000 := by have := HM10.out.many; simp at this; omega
                      obtain ⟨i, hi⟩ : ∃ i, init.length = i := ⟨_, rfl⟩
                      rw [hi] at hn2 hsm
                      obtain ⟨ado, gq, rfl, eo, hgq, glq, gfq, hcq⟩ := HM10.out.own.at (i := i) (x := f) (by rw [← hi, List.getElem?_append_right (Nat.le_refl _), Nat.sub_self]; rfl)
                      have e0 := hcq 0 _ rfl
                      have e1 := hcq 1 _ rfl
                      rw [Nat.add_zero] at e0
                      have w1 : IntKind.i64.wrap ((N2 : Int) - 1) = (i : Int) := by rw [IntWalk.i64_in _ (by omega)]; omega
                      have w2 : wrap64 ((N2 : Int) - 1) = (i : Int) := by unfold wrap64; omega
                      have hi0 : (0 : Int) ≤ (i : Int) := by omega
                      have hi1 : (i : Int) < (N2 : Int) := by omega
                      have d1 : decide (0 < N2) = true := decide_eq_true (by omega)
                      have HSS := Lib.hid (same_some init f F)
                      clear hcq gfq hn2 hsm hi
                      by_cases ha : f.ask = F.ask
                      · have ha1 : (f.ask == F.ask) = true := by simpa using ha
                        by_cases hb : f.bid = F.bid
                        · have hb1 : (f.bid == F.bid) = true := by simpa using hb
                          have HSV : Hid (sameF (init ++ [f]) F = true) := Lib.hid (by rw [HSS.out, decide_eq_true ha, decide_eq_true hb]; rfl)
                          clear ha hb HSS
                          go_quiet (fail)
                          go_wp2_with fail
                          go_meet
                          exact ⟨by rw [HSV.out], by (repeat' (first | (with_reducible exact Below.refl _ _) | (with_reducible refine below_drewN ?_ _) | (with_reducible refine Below.drew ?_) | (with_reducible refine Below.alloc ?_ ?_ _) | (with_reducible refine Below.setCell ?_ ?_ _) | (with_reducible refine Below.trans ?_ (Below.mono (by with_reducible assumption) ?_)) | omega | (simp only [World.size_alloc, World.size_setCell, World.size_drew, Go.Proofs.YtogmlbjbjgkdcaaDoor.World.size_drewN] at *; omega) | (with_reducible refine Below.size (B := 0) ?_)))⟩
                        · have hb1 : (f.bid == F.bid) = false := by simpa using hb
                          have HSV : Hid (sameF (init ++ [f]) F = false) := Lib.hid (by rw [HSS.out, decide_eq_true ha, decide_eq_false hb]; rfl)
                          clear ha hb HSS
                          go_quiet (fail)
                          go_wp2_with fail
                          go_meet
                          exact ⟨by rw [HSV.out], by (repeat' (first | (with_reducible exact Below.refl _ _) | (with_reducible refine below_drewN ?_ _) | (with_reducible refine Below.drew ?_) | (with_reducible refine Below.alloc ?_ ?_ _) | (with_reducible refine Below.setCell ?_ ?_ _) | (with_reducible refine Below.trans ?_ (Below.mono (by with_reducible assumption) ?_)) | omega | (simp only [World.size_alloc, World.size_setCell, World.size_drew, Go.Proofs.YtogmlbjbjgkdcaaDoor.World.size_drewN] at *; omega) | (with_reducible refine Below.size (B := 0) ?_)))⟩
                      · have ha1 : (f.ask == F.ask) = false := by simpa using ha
                        have HSV : Hid (sameF (init ++ [f]) F = false) := Lib.hid (by rw [HSS.out, decide_eq_false ha]; rfl)
                        clear ha HSS
                        go_quiet (fail)
                        go_wp2_with fail
                        go_meet
                        exact ⟨by rw [HSV.out], by (repeat' (first | (with_reducible exact Below.refl _ _) | (with_reducible refine below_drewN ?_ _) | (with_reducible refine Below.drew ?_) | (with_reducible refine Below.alloc ?_ ?_ _) | (with_reducible refine Below.setCell ?_ ?_ _) | (with_reducible refine Below.trans ?_ (Below.mono (by with_reducible assumption) ?_)) | omega | (simp only [World.size_alloc, World.size_setCell, World.size_drew, Go.Proofs.YtogmlbjbjgkdcaaDoor.World.size_drewN] at *; omega) | (with_reducible refine Below.size (B := 0) ?_)))⟩
                  case rest =>
                    obtain ⟨rfl, hb14⟩ := hcut
                    have HM14 := Lib.hid (HM10.out.on hb14)
                    have HX14 := Lib.hid (HX10.out.on hb14)
                    have HFL14 := Lib.hid (HFL.out.on hb14)
                    obtain ⟨sm, hsm⟩ : ∃ sm, sameF out F = sm := ⟨_, rfl⟩
                    rw [hsm]
                    clear hb14 HM10 HX10 HFL f0 f1 f2 f3 f4 f5 fl
                    go_upto_if 123 with fail
                    go_cut [9] (fun v wx => MrT w u U g g11 o x k b1 U1 v (addF out F) wx)
                    case first =>
                      have HOW : Hid (OwnE encFl 48 wc (g + 1) (.slice Ao N2 co) out) := Lib.hid (by have := HM14.out.own; rwa [HN2.out] at this)
                      have HOB : Hid (∀ i, (Value.slice Ao N2 co).ownBlock = some i → i ≠ u ∧ i ≠ U1 ∧ i ≠ g ∧ i ≠ g11 ∧ w.heap.size ≤ i) := Lib.hid (fun i hi => by
                        have hi' : (Value.slice Ao out.length co).ownBlock = some i := by rw [HN2.out]; exact hi
                        have k1 := (HOW.out.lt i hi).1
                        have k2 := HM14.out.apart i hi'
                        have k3 := HNG.out i hi'
                        have k4 := H0.out.lt.1
                        have k5 := HGG.out
                        exact ⟨by omega, k2, by omega, by omega, by omega⟩)
                      cases sm
                      · have HSV := Lib.hid (addF_other hsm)
                        obtain ⟨f0, f1, f2, f3, f4, f5, fl⟩ := HFL14.out.cells
                        have hm2 := HM14.out.many
                        have A3 : Hid (out.length + [F].length ≤ maxLen) := Lib.hid (by simp only [List.length_singleton, maxLen]; omega)
                        have A4 : Hid ((out.length + [F].length) * 48 ≤ 140737488355328) := Lib.hid (by simp only [List.length_singleton]; omega)
                        obtain ⟨i0, hi, hz0, hz1', hz2⟩ := info_parts Tryd.infoFl
                        have A5 : Hid (g + 1 ≤ (wc.alloc (.cells #[.int .i64 F.ask, .int .i64 F.bid, .int .i64 F.seller, .int .i64 F.buyer, .int .i64 F.price, .int .i64 F.lots] 48)).heap.size) := Lib.hid (by have : g < wc.heap.size := HM14.out.box.cells.2.2.2.2.2.2.2; simp only [World.size_alloc]; omega)
                        clear hsm hm2
                        go_wp2_with (first
                          | (at_builtin
                             refine wpList_append_E (E := encFl) rfl _ _ 37 rfl i0 _ 48 Tryd.underlying37 hi hz0 hz1' hz2 rfl (by decide) rfl (HOW.out.on ((Below.refl _ _).alloc (Nat.le_refl _) _)) rfl (FlB.lies (t := 48) (x := F) (heap_alloc_new wc _)) A3.out A4.out A5.out ?_
                             intro v2 w5 own5 gr5 lo5
                             have O5 := Lib.hid own5
                             have G5 := Lib.hid gr5
                             have L5 := Lib.hid lo5
                             clear own5 gr5 lo5 f0 f1 f2 f3 f4 f5 fl))
                        go_meet
                        have key : ∀ k, k < wc.heap.size → (∀ i, (Value.slice Ao N2 co).ownBlock = some i → i ≠ k) → w5.heap[k]? = wc.heap[k]? := fun k hk hn =>
                          (G5.out.block k (Nat.lt_of_lt_of_le hk (by simp)) (fun e => hn k e.symm rfl)).trans (Below.heap_alloc wc _ k hk)
                        rw [HSV.out]
                        have bl := HM14.out.book.lt
                        refine ⟨HM14.out.book.off fun k hk => ?_, (key g HM14.out.box.cells.2.2.2.2.2.2.2 fun i hi => (HOB.out i hi).2.2.1).trans HM14.out.box, (key g11 HX14.out.cells.2.2.2.2.2.2.2 fun i hi => (HOB.out i hi).2.2.2.1).trans HX14.out, O5.out, (HM14.out.chg.alloc _).grown G5.out (fun k hk => .inr (.inr (HOB.out k hk).2.2.2.2)), fun i hi => ?_⟩
                        · rcases hk with rfl | rfl
                          · exact key _ bl.1 fun i hi => (HOB.out i hi).1
                          · exact key _ bl.2.1 fun i hi => (HOB.out i hi).2.1
                        · rcases L5.out with h | h
                          · exact (HOB.out i (h.symm.trans hi)).2.1
                          · rw [h] at hi
                            have : wc.heap.size + 1 = i := by simpa using hi
                            have := bl.2.1
                            omega
                      · rcases List.eq_nil_or_concat out with h0 | ⟨init, f, h0⟩
                        · subst h0; cases hsm
                        · rw [List.concat_eq_append] at h0
                          subst h0
                          have HSV := Lib.hid (addF_same hsm)
                          have hn2 : N2 = init.length + 1 := by rw [← HN2.out]; simp
                          have hsm1 : init.length + 1 ≤ 1000 := by have := HM14.out.many; simp at this; omega
                          have hfl := HM14.out.lots f (by simp)
                          have hfl2 : 0 ≤ f.lots ∧ f.lots ≤ 1000 := by omega
                          obtain ⟨i, hi⟩ : ∃ i, init.length = i := ⟨_, rfl⟩
                          have HII := Lib.hid hi
                          rw [hi] at hn2 hsm1
                          have HPL : Hid ((init ++ [f])[i]? = some f) := Lib.hid (by rw [← hi, List.getElem?_append_right (Nat.le_refl _), Nat.sub_self]; rfl)
                          obtain ⟨ado, gq, rfl, eo, hgq, glq, gfq, hcq⟩ := HOW.out.at HPL.out
                          have e5 := hcq 5 _ rfl
                          have w1 : IntKind.i64.wrap ((N2 : Int) - 1) = (i : Int) := by rw [IntWalk.i64_in _ (by omega)]; omega
                          have w2 : wrap64 ((N2 : Int) - 1) = (i : Int) := by unfold wrap64; omega
                          have w3 : IntKind.i64.wrap (f.lots + 1) = f.lots + 1 := IntWalk.i64_in _ (by omega)
                          have w4 : wrap64 (f.lots + 1) = f.lots + 1 := by unfold wrap64; omega
                          have hi0 : (0 : Int) ≤ (i : Int) := by omega
                          have hi1 : (i : Int) < (N2 : Int) := by omega
                          have HEO := Lib.hid eo
                          have HGQ : Hid (gq ≠ u ∧ gq ≠ U1 ∧ gq ≠ g ∧ gq ≠ g11 ∧ w.heap.size ≤ gq) := Lib.hid (by
                            obtain ⟨g', c', hv, _⟩ := HOW.out.some (by simp)
                            simp only [Value.slice.injEq, Option.some.injEq] at hv
                            obtain ⟨rfl, _, _⟩ := hv
                            have h1 := congrArg Addr.block eo
                            have e' : g' = gq := by rw [show ((⟨g', 0, none⟩ : Addr).add (i * 6)).block = g' by unfold Addr.add; split <;> rfl] at h1; exact h1
                            exact HOB.out gq (by rw [← e']; rfl))
                          clear hsm hsm1 hfl hfl2 hn2 hi hcq
                          go_wp2_with fail
                          go_meet
                          rw [HSV.out, HII.out]
                          obtain ⟨q1, q2, q3, q4, q5⟩ := HGQ.out
                          refine ⟨HM14.out.book.off fun k hk => heap_setCell_other _ _ _ _ (by rcases hk with rfl | rfl <;> simp only <;> omega), (heap_setCell_other _ _ _ _ (by simp only; omega)).trans HM14.out.box, (heap_setCell_other _ _ _ _ (by simp only; omega)).trans HX14.out, ?_, HM14.out.chg.setCell (.inr (.inr q5)) _, fun j hj => (HOB.out j hj).2.1⟩
                          obtain ⟨g', c', hv, _⟩ := HOW.out.some (by simp)
                          have how := HOW.out
                          rw [hv] at how ⊢
                          simp only [Value.slice.injEq, Option.some.injEq] at hv
                          obtain ⟨rfl, hv2, rfl⟩ := hv
                          have h1 := congrArg Addr.block HEO.out
                          have e' : g' = gq := by rw [show ((⟨g', 0, none⟩ : Addr).add (i * 6)).block = g' by unfold Addr.add; split <;> rfl] at h1; exact h1
                          subst e'
                          have := OwnE.stored (E := encFl) how (i := i) (r := 5) (x := f) (x' := { f with lots := f.lots + 1 }) (u := .int .i64 (f.lots + 1)) HPL.out (by omega) rfl
                          rwa [List.length_set] at this
                    case rest =>
                      have HT := Lib.hid hcut
                      have HCC := Lib.hid (rcut13_c u U1 b1 x.id 1 wc HT.out.book (Nat.le_trans HM14.out.gb.len (by omega)) (fun z hz => (HM14.out.gb.lots z hz).2))
                      have HUG : Hid (u < g ∧ g ≠ U1 ∧ w.heap.size = g ∧ g < wc.heap.size ∧ U1 < wc.heap.size) := Lib.hid (by
                        have k1 := H0.out.lt
                        have k2 := HGG.out
                        have k3 := HM14.out.new
                        exact ⟨by omega, by omega, k2, HT.out.box.cells.2.2.2.2.2.2.2, HT.out.book.lt.2.1⟩)
                      have HLK : Hid (k + 1 ≤ K) := Lib.hid HM14.out.less
                      obtain ⟨x0, x1, x2, x3, x4, x5, xf, xl⟩ := HT.out.best.cells
                      clear hcut hsm
                      go_wp2_with fail
                      refine HCC.out.mono ?_
                      rintro e w6 ⟨rfl, ⟨U2, hB2, hU2⟩, hC2⟩
                      have HB2 := Lib.hid hB2; have HU2 := Lib.hid hU2; have HC2 := Lib.hid hC2
                      have hx6 : OdB w6 g { o with lots := ((k + 1 : Nat) : Int) } := (hC2.block g HUG.out.2.2.2.1 (by have := HUG.out.1; omega) HUG.out.2.1).trans HT.out.box
                      have HX6 := Lib.hid hx6
                      obtain ⟨o0, o1, o2, o3, o4, o5, of, ol⟩ := hx6.cells
                      simp only at o0 o1 o2 o3 o4 o5
                      have w1 : IntKind.i64.wrap (k : Int) = (k : Int) := IntWalk.i64_in _ (by have := HLK.out; omega)
                      have w2 : wrap64 (k : Int) = (k : Int) := by have := HLK.out; unfold wrap64; omega
                      have w3 : IntKind.i64.wrap ((k : Int) + 1 - 1) = (k : Int) := by rw [show (k : Int) + 1 - 1 = (k : Int) by omega]; exact w1
                      have w4 : wrap64 ((k : Int) + 1 - 1) = (k : Int) := by rw [show (k : Int) + 1 - 1 = (k : Int) by omega]; exact w2
                      clear hB2 hU2 hC2 hx6 x0 x1 x2 x3 x4 x5 xf xl HCC
                      go_wp2_with fail
                      go_roundw
                      case rel => exact ⟨k, (cutR13 b1 x.id 1).1, U2, addF out F, MrT.next HM14.out HMM.out HME.out HFF.out HF1.out HUG.out HT.out HB2.out HU2.out HC2.out HX6.out⟩
                      case measure =>
                        have hn := (OdB.lots HX6.out (k : Int)).cells.2.2.2.2.1
                        rw [HOLD.out, hn]
                        simp [intOf]
                        try omega
            · go_wp2_with fail
              go_meet
              refine ⟨k + 1, b1, U1, out, HM6.out, ?_⟩
              rw [lotsR, HMM.out]
              cases M with
              | nil => rfl
              | cons x T =>
                simp only [stopO, Bool.not_eq_true'] at hst
                simp only
                rw [if_neg (by rw [hst]; decide)]
    case rest =>
      obtain ⟨k, b1, U1, out, hm, hend⟩ := hcut
      have hrun := hm.run
      rw [hend, lotsR_deal o 32 b K [] hG hG.len (fun f hf => by cases hf), List.nil_append] at hrun
      have hd1 : (dealO 32 b o K).1 = b1 := (congrArg Prod.fst hrun).symm
      have hd2 : (dealO 32 b o K).2.1 = k := (congrArg (fun r => r.2.1) hrun).symm
      have hd3 : (dealO 32 b o K).2.2 = out := (congrArg (fun r => r.2.2) hrun).symm
      have HMO : Hid (matchO b o = (if k = 0 then b1 else (addR13 b1 { o with lots := (k : Int) }).1, out, k, 0)) := Lib.hid (by
        unfold matchO
        rw [if_pos HER.out, HKN.out]
        simp only
        rw [hd1, hd2, hd3])
      have HM := Lib.hid hm
      obtain ⟨Ao, co, rfl⟩ := hm.own.form
      have HUG : Hid (u < g ∧ g ≠ U1 ∧ w.heap.size = g ∧ g < wc.heap.size ∧ U1 < wc.heap.size) := Lib.hid (by
        have k1 := H0.out.lt
        have k2 := HGG.out
        have k3 := HM.out.new
        exact ⟨by omega, by omega, k2, HM.out.box.cells.2.2.2.2.2.2.2, HM.out.book.lt.2.1⟩)
      obtain ⟨o0, o1, o2, o3, o4, o5, of, ol⟩ := HM.out.box.cells
      simp only at o0 o1 o2 o3 o4 o5
      clear hm hend hrun hd1 hd2 hd3 HM0
      cases k with
      | zero =>
        go_wp2_with fail
        go_quiet (fail)
        go_wp2_with fail
        refine bodyPost_ret (v := .tuple #[.slice Ao out.length co, .int .i64 0, .int .i64 0]) (by simp [results, Tryd.results9, go_sem]) rfl ?_
        rw [HMO.out]
        exact ⟨_, rfl, (HM.out.own.base (by have := HUG.out.2.2.1; omega)).on (by (repeat' (first | (with_reducible exact Below.refl _ _) | (with_reducible refine below_drewN ?_ _) | (with_reducible refine Below.drew ?_) | (with_reducible refine Below.alloc ?_ ?_ _) | (with_reducible refine Below.setCell ?_ ?_ _) | (with_reducible refine Below.trans ?_ (Below.mono (by with_reducible assumption) ?_)) | omega | (simp only [World.size_alloc, World.size_setCell, World.size_drew, Go.Proofs.YtogmlbjbjgkdcaaDoor.World.size_drewN] at *; omega) | (with_reducible refine Below.size (B := 0) ?_)))), ⟨U1, HM.out.book.on (by (repeat' (first | (with_reducible exact Below.refl _ _) | (with_reducible refine below_drewN ?_ _) | (with_reducible refine Below.drew ?_) | (with_reducible refine Below.alloc ?_ ?_ _) | (with_reducible refine Below.setCell ?_ ?_ _) | (with_reducible refine Below.trans ?_ (Below.mono (by with_reducible assumption) ?_)) | omega | (simp only [World.size_alloc, World.size_setCell, World.size_drew, Go.Proofs.YtogmlbjbjgkdcaaDoor.World.size_drewN] at *; omega) | (with_reducible refine Below.size (B := 0) ?_)))), by have := HM.out.new; omega⟩, HM.out.chg.trans (Chg.of_below (by (repeat' (first | (with_reducible exact Below.refl _ _) | (with_reducible refine below_drewN ?_ _) | (with_reducible refine Below.drew ?_) | (with_reducible refine Below.alloc ?_ ?_ _) | (with_reducible refine Below.setCell ?_ ?_ _) | (with_reducible refine Below.trans ?_ (Below.mono (by with_reducible assumption) ?_)) | omega | (simp only [World.size_alloc, World.size_setCell, World.size_drew, Go.Proofs.YtogmlbjbjgkdcaaDoor.World.size_drewN] at *; omega) | (with_reducible refine Below.size (B := 0) ?_))))) (.inl rfl)⟩
      | succ k =>
        have had := radd13_c u U1 b1 { o with lots := ((k + 1 : Nat) : Int) } wc HM.out.book (Nat.le_trans HM.out.gb.len (by omega)) (by rw [HM.out.came]; omega)
        dsimp only at had
        have HAD := Lib.hid had
        have hk0 : (0 : Int) < (k : Int) + 1 := by omega
        have hkd : decide ((0 : Int) < (k : Int) + 1) = true := decide_eq_true hk0
        clear had
        go_wp2_with fail
        refine HAD.out.mono ?_
        rintro e w6 ⟨rfl, ⟨U2, hB2, hU2⟩, hC2⟩
        have HB2 := Lib.hid hB2
        have HU2 := Lib.hid hU2
        have HC2 := Lib.hid hC2
        have hx6 : OdB w6 g { o with lots := ((k + 1 : Nat) : Int) } := (hC2.block g HUG.out.2.2.2.1 (by have := HUG.out.1; omega) HUG.out.2.1).trans HM.out.box
        have HOW : Hid (OwnE encFl 48 w6 (g + 1) (.slice Ao out.length co) out) := Lib.hid (HM.out.own.same fun i hi => hC2.block i (HM.out.own.lt i hi).2 (by have := (HM.out.own.lt i hi).1; have := HUG.out.1; omega) (HM.out.apart i hi))
        obtain ⟨o0, o1, o2, o3, o4, o5, of, ol⟩ := hx6.cells
        simp only at o0 o1 o2 o3 o4 o5
        clear hB2 hU2 hC2 hx6 HAD
        go_wp2_with fail
        go_quiet (fail)
        go_wp2_with fail
        refine bodyPost_ret (v := .tuple #[.slice Ao out.length co, .int .i64 ((k + 1 : Nat) : Int), .int .i64 0]) (by simp [results, Tryd.results9, go_sem]) rfl ?_
        rw [HMO.out]
        exact ⟨_, rfl, (HOW.out.base (by have := HUG.out.2.2.1; omega)).on (by (repeat' (first | (with_reducible exact Below.refl _ _) | (with_reducible refine below_drewN ?_ _) | (with_reducible refine Below.drew ?_) | (with_reducible refine Below.alloc ?_ ?_ _) | (with_reducible refine Below.setCell ?_ ?_ _) | (with_reducible refine Below.trans ?_ (Below.mono (by with_reducible assumption) ?_)) | omega | (simp only [World.size_alloc, World.size_setCell, World.size_drew, Go.Proofs.YtogmlbjbjgkdcaaDoor.World.size_drewN] at *; omega) | (with_reducible refine Below.size (B := 0) ?_)))), ⟨U2, HB2.out.on (by (repeat' (first | (with_reducible exact Below.refl _ _) | (with_reducible refine below_drewN ?_ _) | (with_reducible refine Below.drew ?_) | (with_reducible refine Below.alloc ?_ ?_ _) | (with_reducible refine Below.setCell ?_ ?_ _) | (with_reducible refine Below.trans ?_ (Below.mono (by with_reducible assumption) ?_)) | omega | (simp only [World.size_alloc, World.size_setCell, World.size_drew, Go.Proofs.YtogmlbjbjgkdcaaDoor.World.size_drewN] at *; omega) | (with_reducible refine Below.size (B := 0) ?_)))), by have h1 := HM.out.new; have h2 := HU2.out; have h3 := HUG.out; omega⟩, (HM.out.chg.trans HC2.out (by have := HM.out.new; omega)).trans (Chg.of_below (by (repeat' (first | (with_reducible exact Below.refl _ _) | (with_reducible refine below_drewN ?_ _) | (with_reducible refine Below.drew ?_) | (with_reducible refine Below.alloc ?_ ?_ _) | (with_reducible refine Below.setCell ?_ ?_ _) | (with_reducible refine Below.trans ?_ (Below.mono (by with_reducible assumption) ?_)) | omega | (simp only [World.size_alloc, World.size_setCell, World.size_drew, Go.Proofs.YtogmlbjbjgkdcaaDoor.World.size_drewN] at *; omega) | (with_reducible refine Below.size (B := 0) ?_))))) (.inl rfl)⟩
  · have hne : ((er : Int) != 0) = true := by simpa using (show ¬ (er : Int) = 0 by omega)
    have hm : matchO b o = (b, [], 0, er) := by
      unfold matchO; rw [HER.out, if_neg h0]
    have HM := Lib.hid hm
    clear hm h0
    go_wp2_with fail
    refine bodyPost_ret (v := .tuple #[.slice none 0 0, .int .i64 0, .int .i64 (er : Int)]) (by simp [results, Tryd.results9, go_sem]) rfl ?_
    rw [HM.out]
    exact ⟨_, rfl, OwnE.nil _ _ _, ⟨U, H4.out.2.1, .inl rfl⟩, Chg.of_below H4.out.1⟩
end Go.Proofs.YtogmlbjbjgkdcaaDoor
