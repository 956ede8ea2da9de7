/- Purse's law: a book in the law's own world, the document's example, a deed. Conditions: the sentinels lie where the program's text lays them. -/
import Derived.Test.YtgioinjcgeepoaaDoorPuD
import Derived.Test.YtgioinjcgeepoaaDoorKd
import Derived.Test.YtgioinjcgeepoaaDoorRowPAct
namespace Go.Proofs.YtgioinjcgeepoaaDoor
open Go Go.RowKit Go.Maps Go.Sort

/-- A book that the law has made, in a world that has come of the law's first. -/
structure PuAt (w0 w : World) (q b : Nat) (P : Pur) : Prop where
  book : BookAt w q b P
  below : Below w0.heap.size w0 w
  lowq : w0.heap.size ≤ q
  lowb : w0.heap.size ≤ b
theorem PuAt.on {w0 w w' : World} {q b : Nat} {P : Pur} (h : PuAt w0 w q b P) (hb : Below w.heap.size w w') : PuAt w0 w' q b P :=
  ⟨h.book.on hb (Nat.le_refl _), h.below.trans (hb.mono h.below.size), h.lowq, h.lowb⟩
theorem PuAt.chg {w0 w w' : World} {q b : Nat} {P P' : Pur} (h : PuAt w0 w q b P) (t : BookAt w' q b P') (hg : Chg b b w w') : PuAt w0 w' q b P' :=
  ⟨t, h.below.trans (hg.below h.lowb h.lowb h.below.size), h.lowq, h.lowb⟩
theorem PuAt.sent {s : Nat → Addr} {w0 w : World} {q b : Nat} {P : Pur} (h : PuAt w0 w q b P) (hs : Sent s w0) : Sent s w := hs.below h.below (Nat.le_refl _)
theorem PuAt.alloc {w0 w : World} {q b : Nat} {P : Pur} (h : PuAt w0 w q b P) (o : Obj) : PuAt w0 (w.alloc o) q b P := h.on ((Below.refl _ _).alloc (Nat.le_refl _) _)
theorem PuAt.drewN {w0 w : World} {q b : Nat} {P : Pur} (h : PuAt w0 w q b P) (n : Nat) : PuAt w0 (w.drewN n) q b P := h.on (below_drewN (Below.refl _ _) n)

def Q1 : Pur := [(1, 10, 0)]
def Q2 : Pur := [(1, 6, 4)]
def Q3 : Pur := [(2, 3, 0), (1, 6, 1)]

set_option maxHeartbeats 3200000 in
set_option maxRecDepth 100000 in
/-- What the law asks of the document's example. -/
theorem awake_c (s : Nat → Addr) (w : World) (hs : Sent s w) : Calls Tryd.prog 5 #[] w fun e w' => e = .returned (.bool true) ∧ Below w.heap.size w w' := by
  have HS := Lib.hid hs; clear hs
  go_enter Tryd.func5, Tryd.ntmps5
  go_wp2_with fail
  refine (pnew_c _).mono ?_
  rintro e w1 ⟨q, b, rfl, t1, b1, lb, lq⟩
  have K1 : Hid (PuAt w w1 q b []) := Lib.hid ⟨t1, b1, lq, lb⟩
  clear t1 b1 lb lq
  go_wp2_with fail
  refine (give_c s q b _ 1 10 _ (K1.out.sent HS.out) K1.out.book (by decide) (by decide) (by decide)).mono ?_
  rw [show giveErr [] 10 = 0 from by decide, show given [] 1 10 = Q1 from by decide]
  rintro e w2 ⟨rfl, t2, g2⟩
  have K2 : Hid (PuAt w w2 q b Q1) := Lib.hid (K1.out.chg t2 g2)
  clear K1 t2 g2
  rw [errV_none]
  go_wp2_with fail
  refine (hold_c s q b _ 1 4 _ (K2.out.sent HS.out) K2.out.book (by decide) (by decide) (by decide)).mono ?_
  rw [show takeErr Q1 1 4 = 0 from by decide, show holds Q1 1 4 = Q2 from by decide]
  rintro e w3 ⟨rfl, t3, g3⟩
  have K3 : Hid (PuAt w w3 q b Q2) := Lib.hid (K2.out.chg t3 g3)
  clear K2 t3 g3
  rw [errV_none]
  go_wp2_with fail
  refine (pay_c s q b _ 1 2 3 _ (K3.out.sent HS.out) K3.out.book (by decide) (by decide) (by decide) (by decide) (by decide)).mono ?_
  rw [show payErr Q2 1 3 = 0 from by decide, show paid Q2 1 2 3 = Q3 from by decide]
  rintro e w4 ⟨rfl, t4, g4⟩
  have K4 : Hid (PuAt w w4 q b Q3) := Lib.hid (K3.out.chg t4 g4)
  clear K3 t4 g4
  rw [errV_none]
  go_wp2_with fail
  refine (owners_c q b _ _ K4.out.book (by decide)).mono ?_
  rintro e w5 ⟨v, rfl, ho, b5⟩
  have K5 : Hid (PuAt w w5 q b Q3) := Lib.hid (K4.out.on b5)
  have hl : (keysUp Q3).length = 2 := keysUp_len Q3
  obtain ⟨a, c, rfl, _⟩ := ho.ri
  rw [hl]
  clear K4 b5 ho hl
  have hE := eqP; have hF0 := fieldP0
  go_wp2_with fail
  refine (of_c q b _ 1 _ K5.out.book (by decide) (by decide)).mono ?_
  rw [show purse Q3 1 = (6, 1) from by decide]
  rintro e w6 ⟨rfl, b6⟩
  have K6 := Lib.hid (K5.out.on b6); clear K5 b6
  go_wp2_with fail
  refine (of_c q b _ 2 _ K6.out.book (by decide) (by decide)).mono ?_
  rw [show purse Q3 2 = (3, 0) from by decide]
  rintro e w7 ⟨rfl, b7⟩
  have K7 := Lib.hid (K6.out.on b7); clear K6 b7
  go_wp2_with fail
  refine (total_c q b _ _ K7.out.book).mono ?_
  rw [show wealth Q3 = 10 from by decide]
  rintro e w8 ⟨rfl, b8⟩
  have K8 := Lib.hid (K7.out.on b8); clear K7 b8
  go_wp2_with fail
  refine (take_c s q b _ 2 4 _ (K8.out.sent HS.out) K8.out.book (by decide) (by decide) (by decide)).mono ?_
  rw [show takeErr Q3 2 4 = 12 from by decide, show taken Q3 2 4 = Q3 from by decide]
  rintro e w9 ⟨rfl, t9, g9⟩
  have K9 := Lib.hid (K8.out.chg t9 g9); clear K8 t9 g9
  go_wp2_with fail
  refine (kind_errV s 12 _ (K9.out.sent HS.out) (by omega)).mono ?_
  rintro e w10 ⟨rfl, b10⟩
  have K10 := Lib.hid (K9.out.on b10); clear K9 b10
  go_wp2_with fail
  refine (unhold_c s q b _ 1 2 _ (K10.out.sent HS.out) K10.out.book (by decide) (by decide) (by decide)).mono ?_
  rw [show payErr Q3 1 2 = 13 from by decide, show paid Q3 1 1 2 = Q3 from by decide]
  rintro e w11 ⟨rfl, t11, g11⟩
  have K11 := Lib.hid (K10.out.chg t11 g11); clear K10 t11 g11
  go_wp2_with fail
  refine (kind_errV s 13 _ (K11.out.sent HS.out) (by omega)).mono ?_
  rintro e w12 ⟨rfl, b12⟩
  have K12 := Lib.hid (K11.out.on b12); clear K11 b12
  go_wp2_with fail
  go_ret
  exact ⟨rfl, K12.out.below⟩

set_option maxRecDepth 100000 in
/-- A deed. -/
theorem do_c (s : Nat → Addr) (q b : Nat) (P : Pur) (x : PActD) (w : World) (hs : Sent s w) (h : BookAt w q b P) (hx : GoodPAct x) (hn : P.length + 1 < 1000000) :
    Calls Tryd.prog 8 #[.pointer (some ⟨q, 0, none⟩), .agg #[.int .i64 x.kind, .int .i64 x.who, .int .i64 x.other, .int .i64 x.amt]] w fun e w' => e = .returned (errV s (deedErr P x.kind x.who x.amt)) ∧ BookAt w' q b (deed P x.kind x.who x.other x.amt) ∧ Chg b b w w' := by
  obtain ⟨kind, who, other, amt⟩ := x
  obtain ⟨_, ⟨h0, h1⟩, ⟨y0, y1⟩, _⟩ := hx
  simp only at h0 h1 y0 y1 ⊢
  have hb : ∀ W, Below w.heap.size w W → Sent s W ∧ BookAt W q b P := fun W hW => ⟨hs.below hW (Nat.le_refl _), h.on hW (Nat.le_refl _)⟩
  have b1 : Below w.heap.size w (w.alloc (.cells #[.int .i64 kind, .int .i64 who, .int .i64 other, .int .i64 amt] 27)) := (Below.refl _ w).alloc (Nat.le_refl _) _
  obtain ⟨hs1, ht1⟩ := hb _ b1
  by_cases k1 : kind = 1
  · have hE : deedErr P kind who amt = giveErr P amt := by unfold deedErr; rw [if_pos k1]
    have hD : deed P kind who other amt = given P who amt := by unfold deed; rw [if_pos k1]
    have C := Lib.hid (give_c s q b P who amt _ hs1 ht1 h0 h1 (by omega))
    rw [hE, hD]
    subst k1
    clear hs h hb hs1 ht1 hE hD
    obtain ⟨z, hz⟩ : ∃ z, errV s (giveErr P amt) = z := ⟨_, rfl⟩
    rw [hz] at C ⊢; clear hz
    go_enter Tryd.func8, Tryd.ntmps8
    go_wp2_with (go_at_call 11; refine C.out.mono ?_; rintro e w2 ⟨rfl, t2, k2⟩)
    go_ret
    exact ⟨rfl, t2, (Chg.of_below b1).trans k2 (.inl rfl)⟩
  have g1 : (kind == 1) = false := by rw [beq_eq_false_iff_ne]; exact k1
  by_cases k2 : kind = 2
  · have hE : deedErr P kind who amt = takeErr P who amt := by unfold deedErr; rw [if_neg k1, if_pos k2]
    have hD : deed P kind who other amt = taken P who amt := by unfold deed; rw [if_neg k1, if_pos k2]
    have C := Lib.hid (take_c s q b P who amt _ hs1 ht1 h0 h1 (by omega))
    rw [hE, hD]
    subst k2
    clear hs h hb hs1 ht1 hE hD k1
    obtain ⟨z, hz⟩ : ∃ z, errV s (takeErr P who amt) = z := ⟨_, rfl⟩
    rw [hz] at C ⊢; clear hz
    go_enter Tryd.func8, Tryd.ntmps8
    go_wp2_with (go_at_call 16; refine C.out.mono ?_; rintro e w2 ⟨rfl, t2, k2⟩)
    go_ret
    exact ⟨rfl, t2, (Chg.of_below b1).trans k2 (.inl rfl)⟩
  have g2 : (kind == 2) = false := by rw [beq_eq_false_iff_ne]; exact k2
  by_cases k3 : kind = 3
  · have hE : deedErr P kind who amt = takeErr P who amt := by unfold deedErr; rw [if_neg k1, if_neg k2, if_pos k3]
    have hD : deed P kind who other amt = holds P who amt := by unfold deed; rw [if_neg k1, if_neg k2, if_pos k3]
    have C := Lib.hid (hold_c s q b P who amt _ hs1 ht1 h0 h1 (by omega))
    rw [hE, hD]
    subst k3
    clear hs h hb hs1 ht1 hE hD k1 k2
    obtain ⟨z, hz⟩ : ∃ z, errV s (takeErr P who amt) = z := ⟨_, rfl⟩
    rw [hz] at C ⊢; clear hz
    go_enter Tryd.func8, Tryd.ntmps8
    go_wp2_with (go_at_call 12; refine C.out.mono ?_; rintro e w2 ⟨rfl, t2, k2⟩)
    go_ret
    exact ⟨rfl, t2, (Chg.of_below b1).trans k2 (.inl rfl)⟩
  have g3 : (kind == 3) = false := by rw [beq_eq_false_iff_ne]; exact k3
  have hE : deedErr P kind who amt = payErr P who amt := by unfold deedErr; rw [if_neg k1, if_neg k2, if_neg k3]
  by_cases k4 : kind = 4
  · have hD : deed P kind who other amt = paid P who who amt := by unfold deed; rw [if_neg k1, if_neg k2, if_neg k3, if_pos k4]
    have C := Lib.hid (unhold_c s q b P who amt _ hs1 ht1 h0 h1 (by omega))
    rw [hE, hD]
    subst k4
    clear hs h hb hs1 ht1 hE hD k1 k2 k3
    obtain ⟨z, hz⟩ : ∃ z, errV s (payErr P who amt) = z := ⟨_, rfl⟩
    rw [hz] at C ⊢; clear hz
    go_enter Tryd.func8, Tryd.ntmps8
    go_wp2_with (go_at_call 14; refine C.out.mono ?_; rintro e w2 ⟨rfl, t2, k2⟩)
    go_ret
    exact ⟨rfl, t2, (Chg.of_below b1).trans k2 (.inl rfl)⟩
  · have g4 : (kind == 4) = false := by rw [beq_eq_false_iff_ne]; exact k4
    have hD : deed P kind who other amt = paid P who other amt := by unfold deed; rw [if_neg k1, if_neg k2, if_neg k3, if_neg k4]
    have C := Lib.hid (pay_c s q b P who other amt _ hs1 ht1 h0 h1 y0 y1 (by omega))
    rw [hE, hD]
    clear hs h hb hs1 ht1 hE hD k1 k2 k3 k4
    obtain ⟨z, hz⟩ : ∃ z, errV s (payErr P who amt) = z := ⟨_, rfl⟩
    rw [hz] at C ⊢; clear hz
    go_enter Tryd.func8, Tryd.ntmps8
    go_wp2_with (go_at_call 13; refine C.out.mono ?_; rintro e w2 ⟨rfl, t2, k2⟩)
    go_ret
    exact ⟨rfl, t2, (Chg.of_below b1).trans k2 (.inl rfl)⟩
end Go.Proofs.YtgioinjcgeepoaaDoor
