/- The law's own comparison of rows of numbers, and what it asks of the document's example. Condition: the sentinels lie where the program's text lays them. -/
import Derived.Test.YtaibmdjcppeopaaDoorKnF
import Derived.Test.YtaibmdjcppeopaaDoorKd
import Derived.Deep.DeepCutAuto
import Derived.Deep.CutBlock
namespace Go.Proofs.YtaibmdjcppeopaaDoor
open Go Go.RowKit Go.Maps Go.Sort

/-- A slice reads as a row of numbers. -/
def RI (w : World) (v : Value) (L : List Int) : Prop := ∃ a c, v = .slice a L.length c ∧ ∀ i z, L[i]? = some z → ∃ ad, a = some ad ∧ w.cell? (ad.add i) = some (.int .i64 z)
theorem RI.on {w w' : World} {v : Value} {L : List Int} (h : RI w v L) (hb : Below w.heap.size w w') : RI w' v L := by
  obtain ⟨a, c, e, hc⟩ := h
  refine ⟨a, c, e, fun i z hz => ?_⟩
  obtain ⟨ad, h1, h2⟩ := hc i z hz
  exact ⟨ad, h1, (hb.cell (p := ad.add i) (lt_of_cell h2)).trans h2⟩
theorem RI.drewN {w : World} {v : Value} {L : List Int} (h : RI w v L) (n : Nat) : RI (w.drewN n) v L := h.on (below_drewN (Below.refl _ _) n)
theorem RI.drew {w : World} {v : Value} {L : List Int} (h : RI w v L) : RI w.drew v L := h.on ((Below.refl _ _).drew)
theorem IOwn.ri {w : World} {base : Nat} {v : Value} {L : List Int} (h : IOwn w base v L) : RI w v L := by
  rcases h.shape with ⟨rfl, rfl⟩ | ⟨g, c, rfl, _⟩
  · exact ⟨none, 0, rfl, fun i z hz => by simp at hz⟩
  · exact ⟨_, c, rfl, fun i z hz => ⟨_, rfl, h.cells (g := g) rfl i _ (by rw [List.getElem?_map, hz]; rfl)⟩⟩

/-- What a round of the comparing begins with. -/
def IRel (w : World) (X Y : List Int) (x : Value) (wr : World) : Prop := ∃ j : Nat, x = .int .i64 (j : Int) ∧ j ≤ X.length ∧ X.take j = Y.take j ∧ Below w.heap.size w wr

set_option maxHeartbeats 1600000 in
set_option maxRecDepth 100000 in
/-- Are two rows of numbers the same? -/
theorem ints_c (v1 v2 : Value) (X Y : List Int) (w : World) (h1 : RI w v1 X) (h2 : RI w v2 Y) (hl : X.length ≤ 100000) (hl2 : Y.length ≤ 9223372036854775807) :
    Calls Tryd.prog 20 #[v1, v2] w fun e w' => e = .returned (.bool (decide (X = Y))) ∧ Below w.heap.size w w' := by
  have H1 := Lib.hid h1; have H2 := Lib.hid h2
  obtain ⟨A, c, rfl, _⟩ := h1
  obtain ⟨A', c', rfl, _⟩ := h2
  by_cases hlen : X.length = Y.length
  · have hne : ((X.length : Int) != (Y.length : Int)) = false := by rw [bne_eq_false_iff_eq, hlen]
    have HST : Hid (IRel w X Y (.int .i64 0) w) := Lib.hid ⟨0, rfl, Nat.zero_le _, rfl, Below.refl _ w⟩
    have HL := Lib.hid hlen; clear hlen
    go_enter Tryd.func20, Tryd.ntmps20
    go_wp2_with fail
    go_loopw [5] (fun x wr => IRel w X Y x wr) (fun x _ => X.length - (intOf x).toNat)
    case atStart => exact HST.out
    case round =>
      obtain ⟨j, rfl, hj, ht, hs⟩ := hrel
      clear HST
      by_cases hjn : j < X.length
      · have hjy : j < Y.length := by rw [← HL.out]; exact hjn
        have hx : X[j]? = some X[j] := List.getElem?_eq_getElem hjn
        have hy : Y[j]? = some Y[j] := List.getElem?_eq_getElem hjy
        obtain ⟨_, _, e1, k1⟩ := H1.out.on hs
        obtain ⟨_, _, e2, k2⟩ := H2.out.on hs
        obtain ⟨a, ha, ca⟩ := k1 j _ hx
        obtain ⟨a', ha', ca'⟩ := k2 j _ hy
        cases e1; cases e2
        subst ha; subst ha'
        clear k1 k2
        have j0 : (0 : Int) ≤ (j : Int) := by omega
        have j1 : (j : Int) < (X.length : Int) := by omega
        have j2 : (j : Int) < (Y.length : Int) := by omega
        obtain ⟨P, hP⟩ : ∃ P, X[j] = P := ⟨_, rfl⟩
        obtain ⟨Q, hQ⟩ : ∃ Q, Y[j] = Q := ⟨_, rfl⟩
        rw [hP] at ca hx
        rw [hQ] at ca' hy
        by_cases he : P = Q
        · have hb : (P != Q) = false := by rw [bne_eq_false_iff_eq, he]
          have HN : Hid (∀ W, Below wr.heap.size wr W → IRel w X Y (.int .i64 ((j : Int) + 1)) W) := Lib.hid fun W hW => ⟨j + 1, ret_v (by omega), hjn, by rw [List.take_add_one, List.take_add_one, hx, hy, ht, he], hs.trans (hW.mono hs.size)⟩
          clear hx hy hP hQ he ht hs H1 H2
          go_wp2_with fail
          go_region
          all_goals go_wp2_with fail
          all_goals go_roundw
          all_goals first
            | (simp [intOf]; omega)
            | (refine HN.out _ ?_; (repeat' (first | (with_reducible exact Below.refl _ _) | (with_reducible refine below_drewN ?_ _) | (with_reducible refine Below.drew ?_) | (with_reducible refine Below.alloc ?_ ?_ _) | (with_reducible refine Below.setCell ?_ ?_ _) | (with_reducible refine Below.trans ?_ (Below.mono (by with_reducible assumption) ?_)) | omega | (simp only [World.size_alloc, World.size_setCell, World.size_drew, Go.Proofs.YtaibmdjcppeopaaDoor.World.size_drewN] at *; omega) | (with_reducible refine Below.size (B := 0) ?_))))
        · have hb : (P != Q) = true := by rw [bne_iff_ne]; exact he
          have HN : Hid (decide (X = Y) = false) := Lib.hid (decide_eq_false fun h => he (by subst h; rw [hx] at hy; exact Option.some.inj hy))
          have HS := Lib.hid hs
          clear hx hy hP hQ he ht hs H1 H2
          go_wp2_with fail
          go_region
          all_goals go_wp2_with fail
          all_goals go_ret
          all_goals exact ⟨by rw [HN.out]; rfl, by have := HS.out; (repeat' (first | (with_reducible exact Below.refl _ _) | (with_reducible refine below_drewN ?_ _) | (with_reducible refine Below.drew ?_) | (with_reducible refine Below.alloc ?_ ?_ _) | (with_reducible refine Below.setCell ?_ ?_ _) | (with_reducible refine Below.trans ?_ (Below.mono (by with_reducible assumption) ?_)) | omega | (simp only [World.size_alloc, World.size_setCell, World.size_drew, Go.Proofs.YtaibmdjcppeopaaDoor.World.size_drewN] at *; omega) | (with_reducible refine Below.size (B := 0) ?_)))⟩
      · have heq : X = Y := by
          rw [List.take_of_length_le (by omega), List.take_of_length_le (by rw [← HL.out]; omega)] at ht
          exact ht
        have HN : Hid (decide (X = Y) = true) := Lib.hid (decide_eq_true heq)
        have HS := Lib.hid hs
        have hge : ¬ ((j : Int) < (X.length : Int)) := by omega
        clear heq ht hs
        go_wp2_with fail
        go_ret
        exact ⟨by rw [HN.out]; rfl, HS.out⟩
  · have hne : ((X.length : Int) != (Y.length : Int)) = true := by rw [bne_iff_ne]; omega
    have HN : Hid (decide (X = Y) = false) := Lib.hid (decide_eq_false fun h => hlen (by rw [h]))
    clear hlen
    go_enter Tryd.func20, Tryd.ntmps20
    go_wp2_with fail
    go_ret
    exact ⟨by rw [HN.out]; rfl, Below.refl _ _⟩

/-- A tree that a law has made. -/
structure KinAt (w0 w : World) (q b : Nat) (T : Kin) : Prop where
  tree : TreeAt w q b T
  below : Below w0.heap.size w0 w
  lowq : w0.heap.size ≤ q
  lowb : w0.heap.size ≤ b
theorem KinAt.on {w0 w w' : World} {q b : Nat} {T : Kin} (h : KinAt w0 w q b T) (hb : Below w.heap.size w w') : KinAt w0 w' q b T :=
  ⟨h.tree.on hb (Nat.le_refl _), h.below.trans (hb.mono h.below.size), h.lowq, h.lowb⟩
theorem KinAt.grown {w0 w w' : World} {q b : Nat} {T T' : Kin} (h : KinAt w0 w q b T) (t : TreeAt w' q b T') (hg : w.grownBy w' (some b)) : KinAt w0 w' q b T' :=
  ⟨t, h.below.grown hg h.below.size (fun k e => by cases e; exact h.lowb), h.lowq, h.lowb⟩
theorem KinAt.chg {w0 w w' : World} {q b : Nat} {T T' : Kin} (h : KinAt w0 w q b T) (t : TreeAt w' q b T') (hg : Chg b b w w') : KinAt w0 w' q b T' :=
  ⟨t, h.below.trans (hg.below h.lowb h.lowb h.below.size), h.lowq, h.lowb⟩
theorem KinAt.sent {s : Nat → Addr} {w0 w : World} {q b : Nat} {T : Kin} (h : KinAt w0 w q b T) (hs : Sent s w0) : Sent s w := hs.below h.below (Nat.le_refl _)
theorem errV_zero (s : Nat → Addr) : errV s 0 = .nilIface := rfl
theorem lit3_ri (w : World) (x y z : Int) : RI (w.alloc (.cells #[.int .i64 x, .int .i64 y, .int .i64 z] 3)) (.slice (some ⟨w.heap.size, 0, none⟩) 3 3) [x, y, z] := by
  refine ⟨_, 3, rfl, fun i u hu => ⟨_, rfl, ?_⟩⟩
  rw [Addr.add_lit, World.cell?_alloc_at _ _ _ _ rfl]
  match i, hu with
  | 0, hu => simp at hu; subst hu; rfl
  | 1, hu => simp at hu; subst hu; rfl
  | 2, hu => simp at hu; subst hu; rfl

def T1 : Kin := [(2, 1), (1, 0)]
def T2 : Kin := [(3, 2), (2, 1), (1, 0)]
theorem good1 : Good T1 := .add .root rfl (by decide) (by decide) rfl
theorem good2 : Good T2 := .add good1 rfl (by decide) (by decide) rfl
theorem drop2 : dropErr T2 2 = 13 := by
  unfold dropErr
  rw [if_neg (by decide), if_pos (.inr (fun e => by have := good2.kids_mem.2 (show up T2 3 = some 2 from rfl); rw [e] at this; cases this))]

set_option maxHeartbeats 3200000 in
set_option maxRecDepth 100000 in
/-- What the law asks of the document's example. -/
theorem awake_c (s : Nat → Addr) (w : World) (hs : Sent s w) : Calls Tryd.prog 6 #[] w fun e w' => e = .returned (.bool true) ∧ Below w.heap.size w w' := by
  have HS := Lib.hid hs; clear hs
  go_enter Tryd.func6, Tryd.ntmps6
  go_wp2_with fail
  refine (new_c _).mono ?_
  rintro e w1 ⟨q, b, rfl, t1, b1, lb, lq⟩
  have K1 : Hid (KinAt w w1 q b [(1, 0)]) := Lib.hid ⟨t1, b1, lq, lb⟩
  clear t1 b1 lb lq
  go_wp2_with fail
  refine (add_c s q b _ 2 1 _ (K1.out.sent HS.out) K1.out.tree (by decide) (by decide) (by decide) (by decide)).mono ?_
  rw [show addErr [(1, 0)] 2 1 = 0 from by decide, show added [(1, 0)] 2 1 = T1 from by decide]
  rintro e w2 ⟨rfl, t2, g2⟩
  have K2 : Hid (KinAt w w2 q b T1) := Lib.hid (K1.out.grown t2 g2)
  clear K1 t2 g2
  rw [errV_zero]
  go_wp2_with fail
  refine (add_c s q b _ 3 2 _ (K2.out.sent HS.out) K2.out.tree (by decide) (by decide) (by decide) (by decide)).mono ?_
  rw [show addErr T1 3 2 = 0 from by decide, show added T1 3 2 = T2 from by decide]
  rintro e w3 ⟨rfl, t3, g3⟩
  have K3 : Hid (KinAt w w3 q b T2) := Lib.hid (K2.out.grown t3 g3)
  clear K2 t3 g3
  rw [errV_zero]
  go_wp2_with fail
  refine (way_c q b _ 3 _ K3.out.tree (by decide) (by decide)).mono ?_
  rw [show way T2 3 = [1, 2, 3] from by decide]
  rintro e w4 ⟨v, rfl, ho, b4⟩
  have K4 : Hid (KinAt w w4 q b T2) := Lib.hid (K3.out.on b4)
  have HR : Hid (RI w4 v [1, 2, 3]) := Lib.hid ho.ri
  clear K3 b4 ho
  go_wp2_with fail
  refine (ints_c v _ [1, 2, 3] [1, 2, 3] _ (HR.out.on ((Below.refl _ _).alloc (Nat.le_refl _) _)) (lit3_ri _ 1 2 3) (by decide) (by decide)).mono ?_
  rw [show decide ([(1 : Int), 2, 3] = [1, 2, 3]) = true from by decide]
  rintro e w5 ⟨rfl, b5⟩
  have K5 : Hid (KinAt w w5 q b T2) := Lib.hid (K4.out.on (((Below.refl _ _).alloc (Nat.le_refl _) _).trans (b5.mono (by simp))))
  clear K4 b5 HR
  go_wp2_with fail
  refine (below_c q b _ 3 1 _ K5.out.tree (by decide) (by decide)).mono ?_
  rw [show (way T2 3).contains 1 = true from by decide]
  rintro e w6 ⟨rfl, b6⟩
  have K6 := Lib.hid (K5.out.on b6); clear K5 b6
  go_wp2_with fail
  refine (below_c q b _ 1 3 _ K6.out.tree (by decide) (by decide)).mono ?_
  rw [show (way T2 1).contains 3 = false from by decide]
  rintro e w7 ⟨rfl, b7⟩
  have K7 := Lib.hid (K6.out.on b7); clear K6 b7
  go_wp2_with fail
  refine (depth_c q b _ 3 _ K7.out.tree (by decide) (by decide)).mono ?_
  rw [show (way T2 3).length - 1 = 2 from by decide]
  rintro e w8 ⟨rfl, b8⟩
  have K8 := Lib.hid (K7.out.on b8); clear K7 b8
  go_wp2_with fail
  refine (add_c s q b _ 3 1 _ (K8.out.sent HS.out) K8.out.tree (by decide) (by decide) (by decide) (by decide)).mono ?_
  rw [show addErr T2 3 1 = 6 from by decide, show added T2 3 1 = T2 from by decide]
  rintro e w9 ⟨rfl, t9, g9⟩
  have K9 : Hid (KinAt w w9 q b T2) := Lib.hid (K8.out.grown t9 g9)
  clear K8 t9 g9
  go_wp2_with fail
  refine (kind_errV s 6 _ (K9.out.sent HS.out) (by omega)).mono ?_
  rintro e w10 ⟨rfl, b10⟩
  have K10 := Lib.hid (K9.out.on b10); clear K9 b10
  go_wp2_with fail
  refine (drop_c s q b _ 2 _ (K10.out.sent HS.out) K10.out.tree (by decide) (by decide)).mono ?_
  rw [drop2]
  rintro e w11 ⟨rfl, t11, g11⟩
  have K11 := Lib.hid (K10.out.chg t11 g11)
  clear K10 t11 g11
  go_wp2_with fail
  refine (kind_errV s 13 _ (K11.out.sent HS.out) (by omega)).mono ?_
  rintro e w12 ⟨rfl, b12⟩
  have K12 := Lib.hid (K11.out.on b12); clear K11 b12
  go_wp2_with fail
  go_ret
  exact ⟨rfl, K12.out.below⟩
end Go.Proofs.YtaibmdjcppeopaaDoor
