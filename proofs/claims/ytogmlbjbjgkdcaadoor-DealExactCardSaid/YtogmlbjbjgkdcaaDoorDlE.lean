/- Deal's Match by contract. Conditions: the book is one that the calls have made, and it is a good one; the sentinels lie where the program's text lays them. -/
import Derived.Test.YtogmlbjbjgkdcaaDoorBkA
import Derived.Test.YtogmlbjbjgkdcaaDoorDlD
namespace Go.Proofs.YtogmlbjbjgkdcaaDoor
open Go Go.RowKit

/-- What a round begins with. -/
structure MpS (w0 w : World) (q R g : Nat) (o : Od) (b : RB) (K k : Nat) (b1 : RB) (v : Value) (out : List Fl) (W : World) : Prop where
  bk : BkAt w0 W q R b1
  box : BOdBlk W g { o with lots := (k : Int) }
  own : OwnE encFl 47 W (g + 1) v out
  chg : Chg q R w W
  gb : GB b1
  came : b1.came = b.came
  run : ∃ f, (b1.L.length ≤ f ∨ k = 0) ∧ dealO 32 b o K = ((dealO f b1 o k).1, (dealO f b1 o k).2.1, out ++ (dealO f b1 o k).2.2)
  less : k ≤ K
  many : out.length ≤ K - k

theorem MpS.on {w0 w : World} {q R g : Nat} {o : Od} {b : RB} {K k : Nat} {b1 : RB} {v : Value} {out : List Fl} {W W' : World} (h : MpS w0 w q R g o b K k b1 v out W) (hb : Below W.heap.size W W') : MpS w0 w q R g o b K k b1 v out W' :=
  ⟨h.bk.on hb, h.box.on hb, h.own.on hb, h.chg.trans (Chg.of_below hb) (.inl rfl), h.gb, h.came, h.run, h.less, h.many⟩
/-- What is left when the rounds end. -/
theorem MpS.done {w0 w : World} {q R g : Nat} {o : Od} {b : RB} {K k : Nat} {b1 : RB} {v : Value} {out : List Fl} {W : World} (h : MpS w0 w q R g o b K k b1 v out W) (hst : k = 0 ∨ listR13 b1.L (!o.sell) = [] ∨ ∃ x T, listR13 b1.L (!o.sell) = x :: T ∧ meetO o x = false) : dealO 32 b o K = (b1, k, out) := by
  obtain ⟨f, _, hr⟩ := h.run
  have hd : dealO f b1 o k = (b1, k, []) := by
    cases f with
    | zero => rfl
    | succ f =>
      rw [dealO]
      by_cases hk : k = 0
      · rw [if_pos hk, hk]
      · rw [if_neg hk]
        rcases hst with h0 | h0 | ⟨x, T, h1, h2⟩
        · exact absurd h0 hk
        · rw [h0]
        · rw [h1]
          simp only
          rw [if_neg (by rw [h2]; decide)]
  rw [hr, hd, List.append_nil]
/-- The next round. -/
theorem MpS.next {w0 w : World} {q R g : Nat} {o x : Od} {b : RB} {K k n m : Nat} {b1 : RB} {v vo : Value} {out : List Fl} {T : List Od} {W0 W : World} (hm : MpS w0 w q R g o b K k b1 vo out W0) (hk : k ≠ 0) (hl : listR13 b1.L (!o.sell) = x :: T) (hme : meetO o x = true) (hn : min k x.lots.toNat = n) (hm2 : k - n = m)
    (hB : BkAt w0 W q R (cutR13 b1 x.id (n : Int)).1) (hX : BOdBlk W g { o with lots := (m : Int) }) (hO : OwnE encFl 47 W (g + 1) v (out ++ [fillO o x (n : Int)])) (hC : Chg q R w W) :
    MpS w0 w q R g o b K m (cutR13 b1 x.id (n : Int)).1 v (out ++ [fillO o x (n : Int)]) W := by
  obtain ⟨p, hcu, _⟩ := best_place hm.gb hl
  have hxl := hm.gb.lots x (List.mem_of_getElem? hcu.place)
  have c1 : cutR13 b1 x.id (n : Int) = (bkC b1 p x (x.lots - (n : Int)), 0) := by
    have := hcu.cut (n := x.lots) (m := (n : Int)) (by omega) (by omega) hxl.2
    rwa [hcu.start] at this
  have hle := hm.less
  have hmany := hm.many
  have hsz := hcu.size (x.lots - (n : Int))
  refine ⟨hB, hX, hO, hC, ?_, ?_, ?_, by omega, by rw [List.length_append, List.length_singleton]; omega⟩
  · rw [c1]; exact hcu.good _ (by omega) (by omega)
  · rw [c1]
    have : (bkC b1 p x (x.lots - (n : Int))).came = b1.came := by unfold bkC; split <;> rfl
    exact this.trans hm.came
  · obtain ⟨f, hf, hr⟩ := hm.run
    have hlen : 0 < b1.L.length := (Nat.zero_lt_of_lt (List.getElem?_eq_some_iff.1 hcu.place).1)
    cases f with
    | zero => omega
    | succ f =>
      refine ⟨f, ?_, ?_⟩
      · rw [c1]
        by_cases hz : x.lots - (n : Int) = 0
        · have := hsz.2 hz; left; simp only; omega
        · right; omega
      · rw [hr, dealO, if_neg hk, hl]
        simp only
        rw [if_pos hme, hn, hm2, List.append_assoc]
        rfl

/-- Add, at the law's book, and where its row lies behind it. -/
theorem BkAt.addR {s : Nat → Addr} {w0 w : World} {q R : Nat} {b : RB} (h : BkAt w0 w q R b) (hs : Sent s w0) (hG : GB b) (hc : b.came ≤ 1000) (o : Od) :
    Calls Tryd.prog 20 #[.pointer (some ⟨q, 0, none⟩), .agg #[.int .i64 o.id, .int .i64 o.tn, .bool o.sell, .int .i64 o.price, .int .i64 o.lots, .int .i64 o.seq]] w fun e w' => e = .returned (errV s (addR13 b o).2) ∧ (∃ R', BkAt w0 w' q R' (addR13 b o).1 ∧ (R' = R ∨ w.heap.size ≤ R')) ∧ Chg q R w w' :=
  (add_c s q R b o w (h.sent hs) h.book (Nat.le_trans hG.len (by omega)) hc).mono fun _ _ ⟨he, ⟨R', hR, hl⟩, hC⟩ => ⟨he, ⟨R', h.chg hR hC, hl⟩, hC⟩

set_option maxRecDepth 100000 in
set_option maxHeartbeats 6400000 in
theorem match_c (s : Nat → Addr) (w0 w : World) (q R : Nat) (b : RB) (o : Od) (hs : Sent s w0) (h : BkAt w0 w q R b) (hG : GB b) (hc : b.came ≤ 900) :
    Calls Tryd.prog 8 #[.pointer (some ⟨q, 0, none⟩), .agg #[.int .i64 o.id, .int .i64 o.tn, .bool o.sell, .int .i64 o.price, .int .i64 o.lots, .int .i64 o.seq]] w fun e w' => ∃ v, e = .returned (.tuple #[v, .int .i64 ((matchO b o).2.2.1 : Nat), errV s (matchO b o).2.2.2]) ∧
      OwnE encFl 47 w' w.heap.size v (matchO b o).2.1 ∧ (∃ R', BkAt w0 w' q R' (matchO b o).1 ∧ (R' = R ∨ w.heap.size ≤ R')) ∧ Chg q R w w' := by
  have HS := Lib.hid hs
  have H0 := Lib.hid h
  obtain ⟨W1, hW1⟩ : ∃ W1, w.alloc (.cells #[.int .i64 o.id, .int .i64 o.tn, .bool o.sell, .int .i64 o.price, .int .i64 o.lots, .int .i64 o.seq] 36) = W1 := ⟨_, rfl⟩
  obtain ⟨g, hg⟩ : ∃ g, w.heap.size = g := ⟨_, rfl⟩
  have hb1 : Below w.heap.size w W1 := by rw [← hW1]; exact (Below.refl _ _).alloc (Nat.le_refl _) _
  have H1 := Lib.hid (h.on hb1)
  have HX : Hid (BOdBlk W1 g o) := Lib.hid (by rw [← hW1, ← hg]; exact BOdBlk.new w o)
  have HB1 := Lib.hid hb1
  have HGG := Lib.hid hg
  have HQ : Hid (q < g ∧ R < g) := Lib.hid (by rw [← hg]; exact ⟨h.book.lt.1, h.book.lt.2.1⟩)
  have HGB := Lib.hid hG
  have HCM := Lib.hid hc
  obtain ⟨er, her⟩ : ∃ er, (addR13 b o).2 = er := ⟨_, rfl⟩
  have HCK := Lib.hid (check_c s q R b o W1 (H1.out.sent hs) H1.out.book (Nat.le_trans hG.len (by omega)))
  rw [her] at HCK
  have HER := Lib.hid her
  clear h hb1 her hG hc hs
  go_enter Tryd.func8, Tryd.ntmps8
  go_upto_region 1 with fail
  try rw [hW1]
  try rw [hg]
  clear hW1 hg
  obtain ⟨o0, o1, o2, o3, o4, o5, ol⟩ := HX.out.cells
  go_wp2_with fail
  refine HCK.out.mono ?_
  rintro e w2 ⟨rfl, b2⟩
  have H2 := Lib.hid (H1.out.on b2)
  have HX2 := Lib.hid (HX.out.on b2)
  have HB2 : Hid (Below w.heap.size w w2) := Lib.hid (HB1.out.trans (b2.mono HB1.out.size))
  clear b2 HCK o0 o1 o2 o3 o4 o5 ol H1 HX HB1
  by_cases h0 : er = 0
  · subst h0
    rw [show errV s 0 = .nilIface from rfl]
    obtain ⟨ho, _, _⟩ := came_ok HER.out
    obtain ⟨hk1, hk2⟩ := good_lots ho
    obtain ⟨K, hK⟩ : ∃ K : Nat, o.lots = (K : Int) := ⟨o.lots.toNat, by omega⟩
    have hKn : o.lots.toNat = K := by omega
    have hoK : { o with lots := (K : Int) } = o := by rw [← hK]
    have HM0 : Hid (MpS w0 w q R g o b K K b (.slice none 0 0) [] w2) := Lib.hid
      ⟨H2.out, by rw [hoK]; exact HX2.out, OwnE.nil _ _ _, Chg.of_below HB2.out, HGB.out, rfl, ⟨32, .inl HGB.out.len, rfl⟩, Nat.le_refl _, Nat.zero_le _⟩
    have HKN := Lib.hid hKn
    have hK2 : K ≤ 1000 := by omega
    clear hk1 hk2 hK hKn hoK ho
    go_upto_block 0 with fail
    go_cut [8] (fun v wx => ∃ (k : Nat) (b1 : RB) (out : List Fl), MpS w0 w q R g o b K k b1 v out wx ∧ dealO 32 b o K = (b1, k, out))
    case first =>
      go_wp2_with fail
      go_loopw [8] (fun v wr => ∃ (k : Nat) (b1 : RB) (out : List Fl), MpS w0 w q R g o b K k b1 v out wr) (fun _ W => (intOf ((W.cell? ⟨g, 4, none⟩).getD (.int .i64 0))).toNat)
      case atStart => exact ⟨K, b, [], HM0.out⟩
      case round =>
        obtain ⟨k, b1, out, hm⟩ := hrel
        have HM := Lib.hid hm
        clear hm HM0
        cases k with
        | zero =>
          obtain ⟨o0, o1, o2, o3, o4, o5, ol⟩ := HM.out.box.cells
          go_wp2_with fail
          go_meet
          exact ⟨0, b1, out, HM.out, HM.out.done (.inl rfl)⟩
        | succ k =>
          obtain ⟨y, hy⟩ : ∃ y : Od, { o with lots := ((k + 1 : Nat) : Int) } = y := ⟨_, rfl⟩
          have HBX : Hid (BOdBlk wr g y) := Lib.hid (by rw [← hy]; exact HM.out.box)
          have hyl : y.lots = (k : Int) + 1 := by rw [← hy]; simp only; omega
          have hk0 : (0 : Int) < y.lots := by omega
          have HYS : Hid (y.sell = o.sell) := Lib.hid (by rw [← hy])
          have HYM : Hid (∀ x, meetO y x = meetO o x) := Lib.hid (fun x => by rw [← hy]; rfl)
          have HYF : Hid (∀ x n, fillO y x n = fillO o x n) := Lib.hid (fun x n => by rw [← hy]; rfl)
          have HYL := Lib.hid hyl
          have HKK : Hid (k + 1 ≤ K) := Lib.hid HM.out.less
          have HOLD : Hid (wr.cell? ⟨g, 4, none⟩ = some (.int .i64 ((k : Int) + 1))) := Lib.hid (by rw [← hyl]; exact HBX.out.cells.2.2.2.2.1)
          obtain ⟨M, hM⟩ : ∃ M, listR13 b1.L (!y.sell) = M := ⟨_, rfl⟩
          have HMM : Hid (listR13 b1.L (!o.sell) = M) := Lib.hid (by rw [← HYS.out]; exact hM)
          have HBE := Lib.hid (HM.out.bk.best HM.out.gb (!y.sell))
          rw [hM] at HBE
          obtain ⟨o0, o1, o2, o3, o4, o5, ol⟩ := HBX.out.cells
          obtain ⟨Ao, co, rfl⟩ := HM.out.own.form
          have HYE := Lib.hid hy
          clear hM hy hyl
          go_wp2_with fail
          refine HBE.out.mono ?_
          rintro e w5 ⟨he, _, b5⟩
          have HM5 := Lib.hid (HM.out.on b5)
          have HX5 := Lib.hid (HBX.out.on b5)
          clear b5 HBE HBX HM o0 o1 o2 o3 o4 o5 ol
          obtain ⟨o0, o1, o2, o3, o4, o5, ol⟩ := HX5.out.cells
          cases M with
          | nil =>
            replace he := he.trans (show _ = Ending.returned (.tuple #[.agg #[.int .i64 0, .int .i64 0, .bool false, .int .i64 0, .int .i64 0, .int .i64 0], .bool false]) from rfl)
            subst he
            go_wp2_with fail
            go_meet
            exact ⟨k + 1, b1, out, HM5.out.on ((Below.refl _ _).alloc (Nat.le_refl _) _), HM5.out.done (.inr (.inl HMM.out))⟩
          | cons x T =>
            replace he := he.trans (show _ = Ending.returned (.tuple #[.agg #[.int .i64 x.id, .int .i64 x.tn, .bool x.sell, .int .i64 x.price, .int .i64 x.lots, .int .i64 x.seq], .bool true]) by rw [decide_eq_true (by simp)]; rfl)
            subst he
            have HXS : Hid (x.sell = !y.sell ∧ 1 ≤ x.lots ∧ x.lots ≤ 1000) := Lib.hid (by
              obtain ⟨p, hcu, hs⟩ := best_place HM5.out.gb HMM.out
              exact ⟨by rw [hs, HYS.out], HM5.out.gb.lots x (List.mem_of_getElem? hcu.place)⟩)
            obtain ⟨W9, hW9⟩ : ∃ W9, w5.alloc (.cells #[.int .i64 x.id, .int .i64 x.tn, .bool x.sell, .int .i64 x.price, .int .i64 x.lots, .int .i64 x.seq] 36) = W9 := ⟨_, rfl⟩
            obtain ⟨g9, hg9⟩ : ∃ g9, w5.heap.size = g9 := ⟨_, rfl⟩
            have hb9 : Below w5.heap.size w5 W9 := by rw [← hW9]; exact (Below.refl _ _).alloc (Nat.le_refl _) _
            have HM9 := Lib.hid (HM5.out.on hb9)
            have HX9 := Lib.hid (HX5.out.on hb9)
            have HZ9 : Hid (BOdBlk W9 g9 x) := Lib.hid (by rw [← hW9, ← hg9]; exact BOdBlk.new w5 x)
            have HNG : Hid (g < g9 ∧ ∀ i, (Value.slice Ao out.length co).ownBlock = some i → i < g9) := Lib.hid (by rw [← hg9]; exact ⟨ol, fun i hi => (HM5.out.own.lt i hi).2⟩)
            have HSD := Lib.hid (fun W => sides_c y x W)
            have HME := Lib.hid (fun W => meets_c (sellO y x) (buyO y x) W)
            have hms : meetsO (sellO y x) (buyO y x) = meetO o x := (meets_meet HXS.out.1).trans (HYM.out x)
            rw [hms] at HME
            obtain ⟨mt, hmt⟩ : ∃ mt, meetO o x = mt := ⟨_, rfl⟩
            rw [hmt] at HME
            have HMT := Lib.hid hmt
            generalize sellO y x = se at HSD HME
            generalize buyO y x = bu at HSD HME
            clear hms hmt hb9 HX5 HM5
            go_upto_region 7 with fail
            try rw [hW9]
            try rw [hg9]
            clear hW9 hg9 o0 o1 o2 o3 o4 o5 ol
            obtain ⟨o0, o1, o2, o3, o4, o5, ol⟩ := HX9.out.cells
            obtain ⟨x0, x1, x2, x3, x4, x5, xl⟩ := HZ9.out.cells
            go_wp2_with fail
            refine (HSD.out _).mono ?_
            rintro e w6 ⟨rfl, b6⟩
            have HM6 := Lib.hid (HM9.out.on b6)
            have HX6 := Lib.hid (HX9.out.on b6)
            have HZ6 := Lib.hid (HZ9.out.on b6)
            clear b6 HM9 HX9 HZ9 HSD o0 o1 o2 o3 o4 o5 ol x0 x1 x2 x3 x4 x5 xl
            go_wp2_with fail
            refine (HME.out _).mono ?_
            rintro e w7 ⟨rfl, b7⟩
            have HM7 := Lib.hid (HM6.out.on b7)
            have HX7 := Lib.hid (HX6.out.on b7)
            have HZ7 := Lib.hid (HZ6.out.on b7)
            clear b7 HM6 HX6 HZ6 HME
            obtain ⟨o0, o1, o2, o3, o4, o5, ol⟩ := HX7.out.cells
            obtain ⟨x0, x1, x2, x3, x4, x5, xl⟩ := HZ7.out.cells
            cases mt with
            | false =>
              go_wp2_with fail
              go_meet
              exact ⟨k + 1, b1, out, HM7.out, HM7.out.done (.inr (.inr ⟨x, T, HMM.out, HMT.out⟩))⟩
            | true =>
              obtain ⟨n, hn⟩ : ∃ n, min (k + 1) x.lots.toNat = n := ⟨_, rfl⟩
              obtain ⟨m, hm2⟩ : ∃ m, k + 1 - n = m := ⟨_, rfl⟩
              have hmn : min y.lots x.lots = (n : Int) := by have := HXS.out; have := HYL.out; omega
              have HFI := Lib.hid (fun W => fill_c y x W)
              obtain ⟨F, hF⟩ : ∃ F, fillO y x (min y.lots x.lots) = F := ⟨_, rfl⟩
              rw [hF] at HFI
              have hFo : fillO o x (n : Int) = F := by rw [← hF, hmn, HYF.out]
              have hFl : F.lots = (n : Int) := by rw [← hFo, fill_lot]
              have HFO := Lib.hid hFo
              have HFL := Lib.hid hFl
              have HN := Lib.hid hn
              have HM2 := Lib.hid hm2
              have HNN : Hid (n ≤ k + 1 ∧ 1 ≤ n ∧ m + n = k + 1) := Lib.hid (by have := HXS.out; omega)
              clear hn hm2 hmn hF hFo hFl
              go_upto_region 8 with fail
              go_wp2_with fail
              refine (HFI.out _).mono ?_
              rintro e w8 ⟨rfl, b8⟩
              have HM8 := Lib.hid (HM7.out.on b8)
              have HX8 := Lib.hid (HX7.out.on b8)
              have HZ8 := Lib.hid (HZ7.out.on b8)
              have HG8 : Hid (g9 < w8.heap.size) := Lib.hid (Nat.lt_of_lt_of_le xl b8.size)
              clear b8 HM7 HX7 HZ7 HFI o0 o1 o2 o3 o4 o5 ol x0 x1 x2 x3 x4 x5 xl
              obtain ⟨W10, hW10⟩ : ∃ W10, w8.alloc (.cells #[.int .i64 F.ask, .int .i64 F.bid, .int .i64 F.seller, .int .i64 F.buyer, .int .i64 F.price, .int .i64 F.lots] 47) = W10 := ⟨_, rfl⟩
              obtain ⟨g11, hg11⟩ : ∃ g11, w8.heap.size = g11 := ⟨_, rfl⟩
              have hb10 : Below w8.heap.size w8 W10 := by rw [← hW10]; exact (Below.refl _ _).alloc (Nat.le_refl _) _
              have HM10 := Lib.hid (HM8.out.on hb10)
              have HX10 := Lib.hid (HX8.out.on hb10)
              have HZ10 := Lib.hid (HZ8.out.on hb10)
              have HF10 : Hid (FlB 47 W10 g11 F) := Lib.hid (by rw [← hW10, ← hg11]; exact heap_alloc_new w8 _)
              have HG11 : Hid (g9 < g11) := Lib.hid (by rw [← hg11]; exact HG8.out)
              clear hb10 HM8 HX8 HZ8 HG8
              go_upto_region 9 with fail
              try rw [hW10]
              try rw [hg11]
              clear hW10 hg11
              obtain ⟨N2, hN2⟩ : ∃ N2, out.length = N2 := ⟨_, rfl⟩
              rw [hN2]
              have HN2 := Lib.hid hN2
              clear hN2
              have HOW : Hid (OwnE encFl 47 W10 (g + 1) (.slice Ao N2 co) out) := Lib.hid (by have := HM10.out.own; rwa [HN2.out] at this)
              have HOB : Hid (∀ i, (Value.slice Ao N2 co).ownBlock = some i → i ≠ q ∧ i ≠ R ∧ i ≠ g ∧ i ≠ g9 ∧ i ≠ g11 ∧ w.heap.size ≤ i ∧ w0.heap.size ≤ i) := Lib.hid (fun i hi => by
                have hi' : (Value.slice Ao out.length co).ownBlock = some i := by rw [HN2.out]; exact hi
                have k1 := (HOW.out.lt i hi).1
                have k3 := HNG.out.2 i hi'
                have k4 := HQ.out
                have k5 := HGG.out
                have k6 := HG11.out
                have k7 := H0.out.below.size
                exact ⟨by omega, by omega, by omega, by omega, by omega, by omega, by omega⟩)
              obtain ⟨f0, f1, f2, f3, f4, f5, fl⟩ := HF10.out.cells
              have A3 : Hid (out.length + [F].length ≤ maxLen) := Lib.hid (by have := HM10.out.many; simp only [List.length_singleton, maxLen]; omega)
              have A4 : Hid ((out.length + [F].length) * 48 ≤ 140737488355328) := Lib.hid (by have := HM10.out.many; simp only [List.length_singleton]; omega)
              obtain ⟨i0, hi, hz0, hz1', hz2⟩ := info_parts Tryd.infoDF
              have A5 : Hid (g + 1 ≤ (W10.alloc (.cells #[.int .i64 F.ask, .int .i64 F.bid, .int .i64 F.seller, .int .i64 F.buyer, .int .i64 F.price, .int .i64 F.lots] 47)).heap.size) := Lib.hid (by have : g < W10.heap.size := HX10.out.cells.2.2.2.2.2.2; simp only [World.size_alloc]; omega)
              go_upto_region 10 with (first
                | (at_builtin
                   refine wpList_append_E (E := encFl) rfl _ _ 30 rfl i0 _ 48 Tryd.underlying30 hi hz0 hz1' hz2 rfl (by decide) rfl (HOW.out.on ((Below.refl _ _).alloc (Nat.le_refl _) _)) rfl (FlB.lies (t := 47) (x := F) (heap_alloc_new W10 _)) A3.out A4.out A5.out ?_
                   intro v2 w11 own11 gr11 lo11
                   have O11 := Lib.hid own11
                   have G11 := Lib.hid gr11
                   clear own11 gr11 lo11))
              have key : ∀ k, k < W10.heap.size → (∀ i, (Value.slice Ao N2 co).ownBlock = some i → i ≠ k) → w11.heap[k]? = W10.heap[k]? := fun k hk hn =>
                (G11.out.block k (Nat.lt_of_lt_of_le hk (by simp)) (fun e => hn k e.symm rfl)).trans (Below.heap_alloc W10 _ k hk)
              have X11 : Hid (BOdBlk w11 g y) := Lib.hid ((key g (lt_of_block HX10.out) (fun i hi => (HOB.out i hi).2.2.1)).trans HX10.out)
              have Z11 : Hid (BOdBlk w11 g9 x) := Lib.hid ((key g9 (lt_of_block HZ10.out) (fun i hi => (HOB.out i hi).2.2.2.1)).trans HZ10.out)
              have F11 : Hid (FlB 47 w11 g11 F) := Lib.hid ((key g11 (lt_of_block HF10.out) (fun i hi => (HOB.out i hi).2.2.2.2.1)).trans HF10.out)
              have K11 : Hid (BkAt w0 w11 q R b1) := Lib.hid ((HM10.out.bk.alloc _).grown G11.out (fun k hk => ⟨(HOB.out k hk).1, (HOB.out k hk).2.1, (HOB.out k hk).2.2.2.2.2.2⟩))
              have C11 : Hid (Chg q R w w11) := Lib.hid ((HM10.out.chg.alloc _).grown G11.out (fun k hk => .inr (.inr (HOB.out k hk).2.2.2.2.2.1)))
              clear key f0 f1 f2 f3 f4 f5 fl HOW A3 A4 A5 hi hz0 hz1' hz2 G11
              obtain ⟨o0, o1, o2, o3, o4, o5, ol⟩ := X11.out.cells
              obtain ⟨x0, x1, x2, x3, x4, x5, xl⟩ := Z11.out.cells
              obtain ⟨f0, f1, f2, f3, f4, f5, fl⟩ := F11.out.cells
              have w3 : IntKind.i64.wrap (y.lots - F.lots) = (m : Int) := by rw [HYL.out, HFL.out, IntWalk.i64_in _ (by have := HNN.out; have := HKK.out; omega)]; have := HNN.out; omega
              have w4 : wrap64 (y.lots - F.lots) = (m : Int) := by rw [HYL.out, HFL.out]; have := HNN.out; have := HKK.out; unfold wrap64; omega
              have of' : ∀ j, w11.frozen? ⟨g, j, none⟩ = false := fun j => frozen_of_heap X11.out j
              have hg9 : ¬ (g9 = g) := by have := HNG.out.1; omega
              have hg11 : ¬ (g11 = g) := by have := HNG.out.1; have := HG11.out; omega
              go_wp2_with fail
              have hg0 : w.heap.size ≤ g := Nat.le_of_eq HGG.out
              have hlow : w0.heap.size ≤ g := by have := H0.out.below.size; omega
              have hqr := HQ.out
              have K12 : BkAt w0 (w11.setCell ⟨g, 4, none⟩ (.int .i64 (m : Int))) q R b1 :=
                ⟨K11.out.book.same (fun i hi => heap_setCell_other _ _ _ _ (by rcases hi with rfl | rfl <;> simp only <;> omega)), Below.setCell K11.out.below hlow _, K11.out.lowq⟩
              have X12 : BOdBlk (w11.setCell ⟨g, 4, none⟩ (.int .i64 (m : Int))) g { o with lots := (m : Int) } := by
                have e : { o with lots := (m : Int) } = { y with lots := (m : Int) } := by rw [← HYE.out]
                rw [e]
                unfold BOdBlk
                rw [heap_setCell_same _ _ _ _ _ _ X11.out]
                rfl
              have O12 : OwnE encFl 47 (w11.setCell ⟨g, 4, none⟩ (.int .i64 (m : Int))) (g + 1) v2 (out ++ [F]) := O11.out.same fun i hi => heap_setCell_other _ _ _ _ (by have := (O11.out.lt i hi).1; simp only; omega)
              have C12 : Chg q R w (w11.setCell ⟨g, 4, none⟩ (.int .i64 (m : Int))) := C11.out.setCell (.inr (.inr hg0)) _
              have X12' := Lib.hid X12
              have O12' := Lib.hid O12
              have C12' := Lib.hid C12
              refine (K12.cut HS.out HM10.out.gb x.id F.lots).mono ?_
              rw [HFL.out]
              rintro e w13 ⟨rfl, t13, g13⟩
              have T13 := Lib.hid t13
              have X13 : Hid (BOdBlk w13 g { o with lots := (m : Int) }) := Lib.hid (g13.row X12'.out (by omega) (by omega))
              have O13 : Hid (OwnE encFl 47 w13 (g + 1) v2 (out ++ [F])) := Lib.hid (O12'.out.same fun i hi => g13.block i (O12'.out.lt i hi).2 (by have := (O12'.out.lt i hi).1; omega) (by have := (O12'.out.lt i hi).1; omega))
              have C13 : Hid (Chg q R w w13) := Lib.hid (C12'.out.trans g13 (.inl rfl))
              clear t13 g13 K12 X12 O12 C12 X11 K11 C11 O11 o0 o1 o2 o3 o4 o5 ol x0 x1 x2 x3 x4 x5 xl f0 f1 f2 f3 f4 f5 fl w3 w4 of'
              go_wp2_with fail
              go_roundw
              case rel =>
                have hnx := MpS.next (v := v2) HM10.out (by omega) HMM.out HMT.out HN.out HM2.out T13.out X13.out (by rw [HFO.out]; exact O13.out) C13.out
                exact ⟨m, _, _, hnx⟩
              case measure =>
                have hn := X13.out.cells.2.2.2.2.1
                simp only at hn
                rw [HOLD.out, hn]
                have := HNN.out
                simp [intOf]
                try omega
    case rest =>
      obtain ⟨k, b1, out, hm, hend⟩ := hcut
      have HMO : Hid (matchO b o = (if k = 0 then b1 else (addR13 b1 { o with lots := (k : Int) }).1, out, k, 0)) := Lib.hid (by
        unfold matchO
        rw [if_pos HER.out, HKN.out]
        simp only
        rw [hend])
      have HM := Lib.hid hm
      obtain ⟨Ao, co, rfl⟩ := hm.own.form
      clear hm hend HM0
      cases k with
      | zero =>
        obtain ⟨o0, o1, o2, o3, o4, o5, ol⟩ := HM.out.box.cells
        go_wp2_with fail
        go_quiet (fail)
        go_wp2_with fail
        refine bodyPost_ret (v := .tuple #[.slice Ao out.length co, .int .i64 0, .nilIface]) (by simp [results, Tryd.results8, go_sem]) rfl ?_
        rw [HMO.out]
        exact ⟨_, rfl, (HM.out.own.base (by have := HGG.out; omega)).on (by (repeat' (first | (with_reducible exact Below.refl _ _) | (with_reducible refine below_drewN ?_ _) | (with_reducible refine Below.drew ?_) | (with_reducible refine Below.alloc ?_ ?_ _) | (with_reducible refine Below.setCell ?_ ?_ _) | (with_reducible refine Below.trans ?_ (Below.mono (by with_reducible assumption) ?_)) | omega | (simp only [World.size_alloc, World.size_setCell, World.size_drew, Go.Proofs.YtogmlbjbjgkdcaaDoor.World.size_drewN] at *; omega) | (with_reducible refine Below.size (B := 0) ?_)))), ⟨R, HM.out.bk.on (by (repeat' (first | (with_reducible exact Below.refl _ _) | (with_reducible refine below_drewN ?_ _) | (with_reducible refine Below.drew ?_) | (with_reducible refine Below.alloc ?_ ?_ _) | (with_reducible refine Below.setCell ?_ ?_ _) | (with_reducible refine Below.trans ?_ (Below.mono (by with_reducible assumption) ?_)) | omega | (simp only [World.size_alloc, World.size_setCell, World.size_drew, Go.Proofs.YtogmlbjbjgkdcaaDoor.World.size_drewN] at *; omega) | (with_reducible refine Below.size (B := 0) ?_)))), .inl rfl⟩, HM.out.chg.trans (Chg.of_below (by (repeat' (first | (with_reducible exact Below.refl _ _) | (with_reducible refine below_drewN ?_ _) | (with_reducible refine Below.drew ?_) | (with_reducible refine Below.alloc ?_ ?_ _) | (with_reducible refine Below.setCell ?_ ?_ _) | (with_reducible refine Below.trans ?_ (Below.mono (by with_reducible assumption) ?_)) | omega | (simp only [World.size_alloc, World.size_setCell, World.size_drew, Go.Proofs.YtogmlbjbjgkdcaaDoor.World.size_drewN] at *; omega) | (with_reducible refine Below.size (B := 0) ?_))))) (.inl rfl)⟩
      | succ k =>
        obtain ⟨y, hy⟩ : ∃ y : Od, { o with lots := ((k + 1 : Nat) : Int) } = y := ⟨_, rfl⟩
        have hb := HM.out.box
        rw [hy] at hb HMO
        have hyl : y.lots = ((k + 1 : Nat) : Int) := by rw [← hy]
        have hk0 : (0 : Int) < y.lots := by omega
        have HYL := Lib.hid hyl
        have HBX := Lib.hid hb
        have HAD := Lib.hid (HM.out.bk.addR HS.out HM.out.gb (by rw [HM.out.came]; have := HCM.out; omega) y)
        obtain ⟨o0, o1, o2, o3, o4, o5, ol⟩ := HBX.out.cells
        clear hb hy hyl
        go_wp2_with fail
        refine HAD.out.mono ?_
        rintro e w6 ⟨rfl, ⟨R2, hB2, hR2⟩, hC2⟩
        have hqr := HQ.out
        have HB2 := Lib.hid hB2
        have HR2 := Lib.hid hR2
        have HC2 := Lib.hid hC2
        have hx6 : BOdBlk w6 g y := hC2.row HBX.out (by omega) (by omega)
        have HOW : Hid (OwnE encFl 47 w6 (g + 1) (.slice Ao out.length co) out) := Lib.hid (HM.out.own.same fun i hi => hC2.block i (HM.out.own.lt i hi).2 (by have := (HM.out.own.lt i hi).1; omega) (by have := (HM.out.own.lt i hi).1; omega))
        obtain ⟨o0, o1, o2, o3, o4, o5, ol⟩ := hx6.cells
        clear hB2 hR2 hC2 hx6 HAD
        go_wp2_with fail
        go_quiet (fail)
        go_wp2_with fail
        refine bodyPost_ret (v := .tuple #[.slice Ao out.length co, .int .i64 y.lots, .nilIface]) (by simp [results, Tryd.results8, go_sem]) rfl ?_
        rw [HMO.out]
        exact ⟨_, by rw [HYL.out]; rfl, (HOW.out.base (by have := HGG.out; omega)).on (by (repeat' (first | (with_reducible exact Below.refl _ _) | (with_reducible refine below_drewN ?_ _) | (with_reducible refine Below.drew ?_) | (with_reducible refine Below.alloc ?_ ?_ _) | (with_reducible refine Below.setCell ?_ ?_ _) | (with_reducible refine Below.trans ?_ (Below.mono (by with_reducible assumption) ?_)) | omega | (simp only [World.size_alloc, World.size_setCell, World.size_drew, Go.Proofs.YtogmlbjbjgkdcaaDoor.World.size_drewN] at *; omega) | (with_reducible refine Below.size (B := 0) ?_)))), ⟨R2, HB2.out.on (by (repeat' (first | (with_reducible exact Below.refl _ _) | (with_reducible refine below_drewN ?_ _) | (with_reducible refine Below.drew ?_) | (with_reducible refine Below.alloc ?_ ?_ _) | (with_reducible refine Below.setCell ?_ ?_ _) | (with_reducible refine Below.trans ?_ (Below.mono (by with_reducible assumption) ?_)) | omega | (simp only [World.size_alloc, World.size_setCell, World.size_drew, Go.Proofs.YtogmlbjbjgkdcaaDoor.World.size_drewN] at *; omega) | (with_reducible refine Below.size (B := 0) ?_)))), by have h1 := HR2.out; have h2 := HM.out.chg.size; omega⟩, (HM.out.chg.trans HC2.out (.inl rfl)).trans (Chg.of_below (by (repeat' (first | (with_reducible exact Below.refl _ _) | (with_reducible refine below_drewN ?_ _) | (with_reducible refine Below.drew ?_) | (with_reducible refine Below.alloc ?_ ?_ _) | (with_reducible refine Below.setCell ?_ ?_ _) | (with_reducible refine Below.trans ?_ (Below.mono (by with_reducible assumption) ?_)) | omega | (simp only [World.size_alloc, World.size_setCell, World.size_drew, Go.Proofs.YtogmlbjbjgkdcaaDoor.World.size_drewN] at *; omega) | (with_reducible refine Below.size (B := 0) ?_))))) (.inl rfl)⟩
  · have hne : errV s er ≠ .nilIface := by unfold errV; rw [if_neg h0]; simp
    have hm : matchO b o = (b, [], 0, er) := by
      unfold matchO; rw [HER.out, if_neg h0]
    have HM := Lib.hid hm
    have hev : errV s er = .iface 125 (.pointer (some (s (er - 1)))) := by unfold errV; rw [if_neg h0]
    have HEV := Lib.hid hev
    rw [hev]
    clear hm h0 hne hev
    go_wp2_with fail
    refine bodyPost_ret (v := .tuple #[.slice none 0 0, .int .i64 0, .iface 125 (.pointer (some (s (er - 1))))]) (by simp [results, Tryd.results8, go_sem]) rfl ?_
    rw [HM.out, HEV.out]
    exact ⟨_, rfl, OwnE.nil _ _ _, ⟨R, H2.out, .inl rfl⟩, Chg.of_below HB2.out⟩
end Go.Proofs.YtogmlbjbjgkdcaaDoor
