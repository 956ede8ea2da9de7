/- The walk of the law PurseTotal: whatever the arguments, it returns true. Condition: the sentinels lie where the program's text lays them. -/
import Derived.Test.YtgioinjcgeepoaaDoorPuA
import Derived.Test.YtgioinjcgeepoaaDoorRgo
import Derived.Test.YtgioinjcgeepoaaDoorInts
import Derived.Deep.DeepCutAuto
import Derived.Deep.CutBlock
namespace Go.Proofs.YtgioinjcgeepoaaDoor
open Go Go.RowKit Go.Maps Go.Sort

/-- A purse in a block of its own. -/
def PBlk (w : World) (g : Nat) (p : Int × Int) : Prop := w.heap[g]? = some (.cells #[.int .i64 p.1, .int .i64 p.2] 29 (0, 0))
theorem PBlk.lt {w : World} {g : Nat} {p : Int × Int} (h : PBlk w g p) : g < w.heap.size := (Array.getElem?_eq_some_iff.1 h).1
theorem PBlk.on {w w' : World} {g : Nat} {p : Int × Int} (h : PBlk w g p) (hb : Below w.heap.size w w') : PBlk w' g p := (hb.block g h.lt).trans h
theorem PBlk.chg {w w' : World} {g b : Nat} {p : Int × Int} (h : PBlk w g p) (hc : Chg b b w w') (hn : g ≠ b) : PBlk w' g p := hc.row h hn hn
theorem PBlk.new (w : World) (f g : Int) : PBlk (w.alloc (.cells #[.int .i64 f, .int .i64 g] 29)) w.heap.size (f, g) := heap_alloc_new w _
/-- What a round begins with. -/
def TRel (w : World) (q b n : Nat) (N I : Value) (wr : World) : Prop :=
  ∃ (j : Nat) (P : Pur), N = .int .i64 (wealth P) ∧ I = .int .i64 (j : Int) ∧ j ≤ n ∧ j ≤ 80 ∧ P.length ≤ 2 * j ∧ PuAt w wr q b P
theorem PActBlk.lt {w : World} {g : Nat} {x : PActD} (h : PActBlk w g x) : g < w.heap.size := (Array.getElem?_eq_some_iff.1 h).1

/-- A round: the book, the deed, the purses of two tenants ahead of it, one of them behind it. -/
structure PRnd (w0 W : World) (q b : Nat) (P : Pur) (U : Nat) (x : PActD) (V : Nat) (v : Int × Int) (O : Nat) (o : Int × Int) (Z : Nat) (z : Int × Int) : Prop where
  pu : PuAt w0 W q b P
  act : PActBlk W U x
  was : PBlk W V v
  oth : PBlk W O o
  now : PBlk W Z z
  nU : b ≠ U
  nV : b ≠ V
  nO : b ≠ O
  nZ : b ≠ Z
/-- What the first k of a row of tenants have. -/
def sumTo (P : Pur) (L : List Int) (k : Nat) : Int := ((L.take k).map fun x => worth (purse P x)).sum
theorem sumTo_step (P : Pur) {L : List Int} {k : Nat} {y : Int} (h : L[k]? = some y) : sumTo P L (k + 1) = sumTo P L k + (purse P y).1 + (purse P y).2 := by
  unfold sumTo
  rw [List.take_add_one, h, List.map_append, List.sum_append]
  simp [worth]; omega
theorem sumTo_nonneg {P : Pur} (h : Solid P) (L : List Int) (k : Nat) : 0 ≤ sumTo P L k := by
  unfold sumTo
  induction L.take k with
  | nil => exact Int.le_refl _
  | cons y l ih =>
    have h1 := h.free y; have h2 := h.held y
    rw [List.map_cons, List.sum_cons]; have h3 : worth (purse P y) = (purse P y).1 + (purse P y).2 := rfl; omega
theorem sumTo_le {P : Pur} (h : Solid P) (L : List Int) (k : Nat) : sumTo P L k ≤ sumTo P L L.length := by
  have e : sumTo P L L.length = sumTo P L k + ((L.drop k).map fun x => worth (purse P x)).sum := by
    unfold sumTo
    rw [← List.sum_append, ← List.map_append, List.take_length, List.take_append_drop]
  have h2 : 0 ≤ ((L.drop k).map fun x => worth (purse P x)).sum := by
    induction L.drop k with
    | nil => exact Int.le_refl _
    | cons y l ih =>
      have h1 := h.free y; have h2 := h.held y
      rw [List.map_cons, List.sum_cons]; have h3 : worth (purse P y) = (purse P y).1 + (purse P y).2 := rfl; omega
  omega
theorem sumTo_all {P : Pur} (h : Solid P) : sumTo P (keysUp P) (keysUp P).length = wealth P := by
  unfold sumTo
  rw [List.take_length]
  exact keysUp_sum worth (0, 0) h.apart
/-- The second loop's state: the book, the row of owners. -/
structure ORel (w W : World) (q b : Nat) (P : Pur) (ad : Option Addr) (c : Nat) (L : List Int) : Prop where
  pu : PuAt w W q b P
  row : RI W (.slice ad L.length c) L
theorem ORel.on {w W W' : World} {q b : Nat} {P : Pur} {ad : Option Addr} {c : Nat} {L : List Int} (h : ORel w W q b P ad c L) (hb : Below W.heap.size W W') : ORel w W' q b P ad c L := ⟨h.pu.on hb, h.row.on hb⟩
section
variable {w0 W W' : World} {q b : Nat} {P : Pur} {U : Nat} {x : PActD} {V : Nat} {v : Int × Int} {O : Nat} {o : Int × Int} {Z : Nat} {z : Int × Int}
theorem PRnd.on (h : PRnd w0 W q b P U x V v O o Z z) (hb : Below W.heap.size W W') : PRnd w0 W' q b P U x V v O o Z z :=
  ⟨h.pu.on hb, PActBlk.on hb h.act, h.was.on hb, h.oth.on hb, h.now.on hb, h.nU, h.nV, h.nO, h.nZ⟩
theorem PRnd.drewN (h : PRnd w0 W q b P U x V v O o Z z) (n : Nat) : PRnd w0 (W.drewN n) q b P U x V v O o Z z := h.on (below_drewN (Below.refl _ _) n)
theorem PRnd.cells (h : PRnd w0 W q b P U x V v O o Z z) : W.cell? ⟨U, 2, none⟩ = some (.int .i64 x.other) ∧ W.cell? ⟨Z, 0, none⟩ = some (.int .i64 z.1) ∧ W.cell? ⟨Z, 1, none⟩ = some (.int .i64 z.2) ∧
    W.cell? ⟨V, 0, none⟩ = some (.int .i64 v.1) ∧ W.cell? ⟨V, 1, none⟩ = some (.int .i64 v.2) ∧ W.cell? ⟨O, 0, none⟩ = some (.int .i64 o.1) ∧ W.cell? ⟨O, 1, none⟩ = some (.int .i64 o.2) :=
  ⟨cell_of_heap h.act 2, cell_of_heap h.now 0, cell_of_heap h.now 1, cell_of_heap h.was 0, cell_of_heap h.was 1, cell_of_heap h.oth 0, cell_of_heap h.oth 1⟩
end

set_option maxHeartbeats 6400000 in
set_option maxRecDepth 100000 in
theorem ptotal_any (s : Nat → Addr) (A : Option Addr) (c : Nat) (xs : List PActD) (w : World) (hs : Sent s w) (hA : PActRow w w.heap.size A xs) (hG : ∀ x ∈ xs, GoodPAct x) (hl : xs.length ≤ 9223372036854775807) :
    Calls Tryd.prog 3 #[.slice A xs.length c] w fun e w' => e = .returned (.bool true) ∧ Below w.heap.size w w' := by
  have HS := Lib.hid hs; have HA := Lib.hid hA; have HG := Lib.hid hG
  obtain ⟨n, hn⟩ : ∃ n, xs.length = n := ⟨_, rfl⟩
  have HN := Lib.hid hn
  rw [hn] at hl ⊢
  clear hs hA hG hn
  go_enter Tryd.func3, Tryd.ntmps3
  go_wp2_with fail
  refine (awake_c s _ HS.out).mono ?_
  rintro e w1 ⟨rfl, b1⟩
  have HB1 := Lib.hid b1; clear b1
  go_wp2_with fail
  refine (pnew_c _).mono ?_
  rintro e w2 ⟨q, b, rfl, t2, b2, lb, lq⟩
  have HST : Hid (TRel w q b n (.int .i64 0) (.int .i64 0) w2) := Lib.hid ⟨0, [], rfl, rfl, by omega, by omega, by simp, ⟨t2, HB1.out.trans (b2.mono HB1.out.size), Nat.le_trans HB1.out.size lq, Nat.le_trans HB1.out.size lb⟩⟩
  clear t2 b2 lb lq HB1
  go_wp2_with fail
  go_loopw [4, 5] (fun N I wr => TRel w q b n N I wr) (fun _ I _ => n - (intOf I).toNat)
  case atStart => exact HST.out
  case round =>
    clear HST
    obtain ⟨j, P, rfl, rfl, hjn, hj80, hP, hK⟩ := hrel
    have HK := Lib.hid hK
    clear hK
    by_cases hlt : j < n ∧ j < 80
    · obtain ⟨hlt, h80⟩ := hlt
      have j0 : (0 : Int) ≤ (j : Int) := by omega
      have j1 : (j : Int) < (n : Int) := by omega
      have j2 : decide ((j : Int) < 80) = true := decide_eq_true (by omega)
      have hx := List.getElem?_eq_getElem (l := xs) (i := j) (by rw [HN.out]; exact hlt)
      obtain ⟨x, hx⟩ : ∃ x, xs[j]? = some x := ⟨_, hx⟩
      have HGX : Hid (GoodPAct x) := Lib.hid (HG.out x (List.mem_of_getElem? hx))
      obtain ⟨ad, rfl, c0, c1, c2, c3⟩ := HA.out.cells HK.out.below hx
      clear hx
      go_wp2_with fail
      obtain ⟨U, hU⟩ : ∃ U, wr.heap.size = U := ⟨_, rfl⟩
      obtain ⟨W1, hW1⟩ : ∃ W1, wr.alloc (.cells #[.int .i64 x.kind, .int .i64 x.who, .int .i64 x.other, .int .i64 x.amt] 27) = W1 := ⟨_, rfl⟩
      have HK1 : Hid (PuAt w W1 q b P) := Lib.hid (by rw [← hW1]; exact HK.out.alloc _)
      have HA1 : Hid (PActBlk W1 U x) := Lib.hid (by rw [← hW1, ← hU]; exact PActBlk.new wr x)
      have HNU : Hid (b ≠ U) := Lib.hid (by have := HK.out.book.map.lt; omega)
      rw [hW1, hU]
      clear hW1 hU c0 c1 c2 c3 HK
      refine (of_c q b P x.who _ HK1.out.book (by have := HGX.out.2.1; omega) (by have := HGX.out.2.1; omega)).mono ?_
      obtain ⟨v, hv⟩ : ∃ v, purse P x.who = v := ⟨_, rfl⟩
      have HV := Lib.hid hv
      rw [hv]; clear hv
      rintro e w3 ⟨rfl, b3⟩
      have HK3 := Lib.hid (HK1.out.on b3); have HA3 := Lib.hid (PActBlk.on b3 HA1.out)
      obtain ⟨a0, a1, a2, a3, al⟩ := HA3.out.cells
      clear b3 HK1 HA1
      go_wp2_with fail
      obtain ⟨V, hV⟩ : ∃ V, w3.heap.size = V := ⟨_, rfl⟩
      obtain ⟨W4, hW4⟩ : ∃ W4, w3.alloc (.cells #[.int .i64 v.1, .int .i64 v.2] 29) = W4 := ⟨_, rfl⟩
      have HK4 : Hid (PuAt w W4 q b P) := Lib.hid (by rw [← hW4]; exact HK3.out.alloc _)
      have HA4 : Hid (PActBlk W4 U x) := Lib.hid (by rw [← hW4]; exact HA3.out.alloc _)
      have HV4 : Hid (PBlk W4 V v) := Lib.hid (by rw [← hW4, ← hV]; exact PBlk.new w3 v.1 v.2)
      have HNV : Hid (b ≠ V) := Lib.hid (by have := HK3.out.book.map.lt; omega)
      rw [hW4, hV]
      clear hW4 hV a0 a1 a2 a3 al HK3 HA3
      refine (of_c q b P x.other _ HK4.out.book (by have := HGX.out.2.2.1; omega) (by have := HGX.out.2.2.1; omega)).mono ?_
      obtain ⟨o, ho⟩ : ∃ o, purse P x.other = o := ⟨_, rfl⟩
      have HO := Lib.hid ho
      rw [ho]; clear ho
      rintro e w5 ⟨rfl, b5⟩
      have HK5 := Lib.hid (HK4.out.on b5); have HA5 := Lib.hid (PActBlk.on b5 HA4.out); have HV5 := Lib.hid (HV4.out.on b5)
      obtain ⟨a0, a1, a2, a3, al⟩ := HA5.out.cells
      clear b5 HK4 HA4 HV4
      go_wp2_with fail
      obtain ⟨O, hO⟩ : ∃ O, w5.heap.size = O := ⟨_, rfl⟩
      obtain ⟨W6, hW6⟩ : ∃ W6, w5.alloc (.cells #[.int .i64 o.1, .int .i64 o.2] 29) = W6 := ⟨_, rfl⟩
      have HK6 : Hid (PuAt w W6 q b P) := Lib.hid (by rw [← hW6]; exact HK5.out.alloc _)
      have HA6 : Hid (PActBlk W6 U x) := Lib.hid (by rw [← hW6]; exact HA5.out.alloc _)
      have HV6 : Hid (PBlk W6 V v) := Lib.hid (by rw [← hW6]; exact HV5.out.on ((Below.refl _ _).alloc (Nat.le_refl _) _))
      have HO6 : Hid (PBlk W6 O o) := Lib.hid (by rw [← hW6, ← hO]; exact PBlk.new w5 o.1 o.2)
      have HNE : Hid (b ≠ U ∧ b ≠ V ∧ b ≠ O) := Lib.hid ⟨HNU.out, HNV.out, by have := HK5.out.book.map.lt; omega⟩
      rw [hW6, hO]
      clear hW6 hO a0 a1 a2 a3 al HK5 HA5 HV5 HNU HNV
      refine (do_c s q b P x _ (HK6.out.sent HS.out) HK6.out.book HGX.out (by omega)).mono ?_
      obtain ⟨m, hm⟩ : ∃ m, deedErr P x.kind x.who x.amt = m := ⟨_, rfl⟩
      obtain ⟨P2, hP2⟩ : ∃ P2, deed P x.kind x.who x.other x.amt = P2 := ⟨_, rfl⟩
      obtain ⟨T, hT⟩ : ∃ T, wealth P = T := ⟨_, rfl⟩
      obtain ⟨T2, hT2⟩ : ∃ T2, wealth P2 = T2 := ⟨_, rfl⟩
      have HT2 := Lib.hid hT2
      have hwd := wealth_deed HK6.out.book.solid x.kind x.who x.other x.amt
      rw [hP2, hT2, hT] at hwd
      have HL2 : Hid (P2.length ≤ 2 * (j + 1)) := Lib.hid (by have := deed_len P x.kind x.who x.other x.amt; rw [hP2] at this; omega)
      have bT0 : 0 ≤ T := by rw [← hT]; exact HK6.out.book.solid.nonneg
      have bT1 : T ≤ 1125899906842624 := by rw [← hT]; exact HK6.out.book.solid.most
      have HMB : Hid (m ≠ 0 → P2 = P) := Lib.hid fun h => by rw [← hP2]; exact deed_bad (by rw [hm]; exact h)
      have hS2 : Solid P2 := by rw [← hP2]; exact HK6.out.book.solid.deed _ _ _ _
      have bU0 : 0 ≤ T2 := by rw [← hT2]; exact hS2.nonneg
      have bU1 : T2 ≤ 1125899906842624 := by rw [← hT2]; exact hS2.most
      rw [hm, hP2, hT]
      unfold gain at hwd
      rw [hm] at hwd
      rintro e w7 ⟨rfl, t7, k7⟩
      have HK7 := Lib.hid (HK6.out.chg t7 k7)
      have HA7 : Hid (PActBlk w7 U x) := Lib.hid (HA6.out.kept k7 (fun h => HNE.out.1 h.symm) (fun h => HNE.out.1 h.symm))
      have HV7 := Lib.hid (HV6.out.chg k7 (fun h => HNE.out.2.1 h.symm))
      have HO7 := Lib.hid (HO6.out.chg k7 (fun h => HNE.out.2.2 h.symm))
      clear hT2 hT hm hP2 hS2 t7 k7 HK6 HA6 HV6 HO6
      by_cases hm0 : m = 0
      · rw [if_pos hm0] at hwd
        subst hm0
        rw [errV_none]
        obtain ⟨a0, a1, a2, a3, al⟩ := HA7.out.cells
        by_cases k1 : x.kind = 1
        · as_aux_lemma =>
          rw [if_pos k1] at hwd
          have q1 : (x.kind == 1) = true := by rw [k1]; rfl
          have q2 : (x.kind == 2) = false := by rw [k1]; rfl
          have ww : wrap64 (T + x.amt) = T2 := by unfold wrap64; omega
          clear hwd bU0 bU1 bT0 bT1 k1
          obtain ⟨a0, a1, a2, a3, al⟩ := HA7.out.cells
          go_wp2_with fail
          refine (of_c q b P2 x.who _ HK7.out.book (by have := HGX.out.2.1; omega) (by have := HGX.out.2.1; omega)).mono ?_
          obtain ⟨z, hz⟩ : ∃ z, purse P2 x.who = z := ⟨_, rfl⟩
          rw [hz]
          have z0 : 0 ≤ z.1 := by rw [← hz]; exact HK7.out.book.solid.free _
          have z1 : 0 ≤ z.2 := by rw [← hz]; exact HK7.out.book.solid.held _
          rintro e w8 ⟨rfl, b8⟩
          obtain ⟨Z, hZ⟩ : ∃ Z, w8.heap.size = Z := ⟨_, rfl⟩
          have HR : Hid (PRnd w (w8.alloc (.cells #[.int .i64 z.1, .int .i64 z.2] 29)) q b P2 U x V v O o Z z) := Lib.hid (by
            have b9 : Below w7.heap.size w7 (w8.alloc (.cells #[.int .i64 z.1, .int .i64 z.2] 29)) := b8.alloc b8.size _
            refine ⟨HK7.out.on b9, PActBlk.on b9 HA7.out, HV7.out.on b9, HO7.out.on b9, by rw [← hZ]; exact PBlk.new w8 z.1 z.2, HNE.out.1, HNE.out.2.1, HNE.out.2.2, ?_⟩
            have := (HK7.out.on b8).book.map.lt; omega)
          have HZ := Lib.hid hz
          clear a0 a1 a2 a3 al b8 hz
          have g1 : decide (z.1 < 0) = false := decide_eq_false (by omega)
          have g2 : decide (z.2 < 0) = false := decide_eq_false (by omega)
          have gT : (T2 != T2) = false := by simp
          go_wp2_with fail
          try rw [hZ]
          clear hZ
          have HTOT : Hid (∀ W, PRnd w W q b P2 U x V v O o Z z → Calls Tryd.prog 9 #[.pointer (some ⟨q, 0, none⟩)] W fun e w' => e = .returned (.int .i64 T2) ∧ PRnd w w' q b P2 U x V v O o Z z) := Lib.hid fun W h => by rw [← HT2.out]; exact (total_c q b P2 W h.pu.book).mono fun _ _ k => ⟨k.1, h.on k.2⟩
          refine wp_region_held_drew (S := fun W => PRnd w W q b P2 U x V v O o Z z) (by kernel_rfl) ?_ (fun hHeld => ?_)
          · exact HR.out.drewN _
          refine rg_take 0 (some 68) _ (by kernel_rfl) (by kernel_rfl) (by kernel_rfl) (fun _ _ _ h => h) (by kernel_rfl) (by kernel_rfl) (by intro w' hSw op_ ho; obtain ⟨y2, z0, z1, v0, v1, o0, o1⟩ := PRnd.cells hSw; simp only [List.getElem?_toArray, List.getElem?_cons_zero, Option.some.injEq] at ho; subst ho; go_simp; with_reducible rfl) (by assumption) ?_
          try simp only [Act.put, List.setIfInBounds_toArray, List.set_cons_zero, List.set_cons_succ]
          refine rg_take 2 (some 70) _ (by kernel_rfl) (by kernel_rfl) (by kernel_rfl) (fun _ _ _ h => h) (by kernel_rfl) (by kernel_rfl) (by intro w' hSw op_ ho; obtain ⟨y2, z0, z1, v0, v1, o0, o1⟩ := PRnd.cells hSw; simp only [List.getElem?_toArray, List.getElem?_cons_succ, List.getElem?_cons_zero, Option.some.injEq] at ho; subst ho; go_simp; with_reducible rfl) (by assumption) ?_
          try simp only [Act.put, List.setIfInBounds_toArray, List.set_cons_zero, List.set_cons_succ]
          refine rg_one 1 (by kernel_rfl) (by kernel_rfl) (fun op_ ho K hK => ?_)
          simp only [List.getElem?_toArray, List.getElem?_cons_succ, List.getElem?_cons_zero, Option.some.injEq] at ho
          subst ho
          go_simp
          go_at_call 9
          refine (HTOT.out _ (by assumption)).mono ?_
          rintro e wa ⟨rfl, ra⟩
          go_wp2_with fail
          refine hK.out _ _ (by assumption) (fun hHeld => ?_)
          clear hK
          try simp only [Act.put, List.setIfInBounds_toArray, List.set_cons_zero, List.set_cons_succ]
          refine rg_take 3 (some 71) _ (by kernel_rfl) (by kernel_rfl) (by kernel_rfl) (fun _ _ _ h => h) (by kernel_rfl) (by kernel_rfl) (by intro w' hSw op_ ho; obtain ⟨y2, z0, z1, v0, v1, o0, o1⟩ := PRnd.cells hSw; simp only [List.getElem?_toArray, List.getElem?_cons_succ, List.getElem?_cons_zero, Option.some.injEq] at ho; subst ho; go_simp; with_reducible rfl) (by assumption) ?_
          try simp only [Act.put, List.setIfInBounds_toArray, List.set_cons_zero, List.set_cons_succ]
          refine rg_take 4 (some 72) _ (by kernel_rfl) (by kernel_rfl) (by kernel_rfl) (fun _ _ _ h => h) (by kernel_rfl) (by kernel_rfl) (by intro w' hSw op_ ho; obtain ⟨y2, z0, z1, v0, v1, o0, o1⟩ := PRnd.cells hSw; simp only [List.getElem?_toArray, List.getElem?_cons_succ, List.getElem?_cons_zero, Option.some.injEq] at ho; subst ho; go_simp; with_reducible rfl) (by assumption) ?_
          try simp only [Act.put, List.setIfInBounds_toArray, List.set_cons_zero, List.set_cons_succ]
          refine rg_take 5 (some 73) _ (by kernel_rfl) (by kernel_rfl) (by kernel_rfl) (fun _ _ _ h => h) (by kernel_rfl) (by kernel_rfl) (by intro w' hSw op_ ho; obtain ⟨y2, z0, z1, v0, v1, o0, o1⟩ := PRnd.cells hSw; simp only [List.getElem?_toArray, List.getElem?_cons_succ, List.getElem?_cons_zero, Option.some.injEq] at ho; subst ho; go_simp; with_reducible rfl) (by assumption) ?_
          try simp only [Act.put, List.setIfInBounds_toArray, List.set_cons_zero, List.set_cons_succ]
          refine rg_take 6 (some 74) _ (by kernel_rfl) (by kernel_rfl) (by kernel_rfl) (fun _ _ _ h => h) (by kernel_rfl) (by kernel_rfl) (by intro w' hSw op_ ho; obtain ⟨y2, z0, z1, v0, v1, o0, o1⟩ := PRnd.cells hSw; simp only [List.getElem?_toArray, List.getElem?_cons_succ, List.getElem?_cons_zero, Option.some.injEq] at ho; subst ho; go_simp; with_reducible rfl) (by assumption) ?_
          try simp only [Act.put, List.setIfInBounds_toArray, List.set_cons_zero, List.set_cons_succ]
          refine rg_take 7 (some 75) _ (by kernel_rfl) (by kernel_rfl) (by kernel_rfl) (fun _ _ _ h => h) (by kernel_rfl) (by kernel_rfl) (by intro w' hSw op_ ho; obtain ⟨y2, z0, z1, v0, v1, o0, o1⟩ := PRnd.cells hSw; simp only [List.getElem?_toArray, List.getElem?_cons_succ, List.getElem?_cons_zero, Option.some.injEq] at ho; subst ho; go_simp; with_reducible rfl) (by assumption) ?_
          try simp only [Act.put, List.setIfInBounds_toArray, List.set_cons_zero, List.set_cons_succ]
          refine rg_take 8 (some 76) _ (by kernel_rfl) (by kernel_rfl) (by kernel_rfl) (fun _ _ _ h => h) (by kernel_rfl) (by kernel_rfl) (by intro w' hSw op_ ho; obtain ⟨y2, z0, z1, v0, v1, o0, o1⟩ := PRnd.cells hSw; simp only [List.getElem?_toArray, List.getElem?_cons_succ, List.getElem?_cons_zero, Option.some.injEq] at ho; subst ho; go_simp; with_reducible rfl) (by assumption) ?_
          try simp only [Act.put, List.setIfInBounds_toArray, List.set_cons_zero, List.set_cons_succ]
          refine rg_take 9 (some 77) _ (by kernel_rfl) (by kernel_rfl) (by kernel_rfl) (fun _ _ _ h => h) (by kernel_rfl) (by kernel_rfl) (by intro w' hSw op_ ho; obtain ⟨y2, z0, z1, v0, v1, o0, o1⟩ := PRnd.cells hSw; simp only [List.getElem?_toArray, List.getElem?_cons_succ, List.getElem?_cons_zero, Option.some.injEq] at ho; subst ho; go_simp; with_reducible rfl) (by assumption) ?_
          try simp only [Act.put, List.setIfInBounds_toArray, List.set_cons_zero, List.set_cons_succ]
          refine rg_take 10 (some 78) _ (by kernel_rfl) (by kernel_rfl) (by kernel_rfl) (fun _ _ _ h => h) (by kernel_rfl) (by kernel_rfl) (by intro w' hSw op_ ho; obtain ⟨y2, z0, z1, v0, v1, o0, o1⟩ := PRnd.cells hSw; simp only [List.getElem?_toArray, List.getElem?_cons_succ, List.getElem?_cons_zero, Option.some.injEq] at ho; subst ho; go_simp; with_reducible rfl) (by assumption) ?_
          try simp only [Act.put, List.setIfInBounds_toArray, List.set_cons_zero, List.set_cons_succ]
          refine rg_take 11 (some 79) _ (by kernel_rfl) (by kernel_rfl) (by kernel_rfl) (fun _ _ _ h => h) (by kernel_rfl) (by kernel_rfl) (by intro w' hSw op_ ho; obtain ⟨y2, z0, z1, v0, v1, o0, o1⟩ := PRnd.cells hSw; simp only [List.getElem?_toArray, List.getElem?_cons_succ, List.getElem?_cons_zero, Option.some.injEq] at ho; subst ho; go_simp; with_reducible rfl) (by assumption) ?_
          try simp only [Act.put, List.setIfInBounds_toArray, List.set_cons_zero, List.set_cons_succ]
          refine rg_take 12 (some 80) _ (by kernel_rfl) (by kernel_rfl) (by kernel_rfl) (fun _ _ _ h => h) (by kernel_rfl) (by kernel_rfl) (by intro w' hSw op_ ho; obtain ⟨y2, z0, z1, v0, v1, o0, o1⟩ := PRnd.cells hSw; simp only [List.getElem?_toArray, List.getElem?_cons_succ, List.getElem?_cons_zero, Option.some.injEq] at ho; subst ho; go_simp; with_reducible rfl) (by assumption) ?_
          try simp only [Act.put, List.setIfInBounds_toArray, List.set_cons_zero, List.set_cons_succ]
          refine rg_take 13 (some 81) _ (by kernel_rfl) (by kernel_rfl) (by kernel_rfl) (fun _ _ _ h => h) (by kernel_rfl) (by kernel_rfl) (by intro w' hSw op_ ho; obtain ⟨y2, z0, z1, v0, v1, o0, o1⟩ := PRnd.cells hSw; simp only [List.getElem?_toArray, List.getElem?_cons_succ, List.getElem?_cons_zero, Option.some.injEq] at ho; subst ho; go_simp; with_reducible rfl) (by assumption) ?_
          try simp only [Act.put, List.setIfInBounds_toArray, List.set_cons_zero, List.set_cons_succ]
          refine rg_take 14 (some 82) _ (by kernel_rfl) (by kernel_rfl) (by kernel_rfl) (fun _ _ _ h => h) (by kernel_rfl) (by kernel_rfl) (by intro w' hSw op_ ho; obtain ⟨y2, z0, z1, v0, v1, o0, o1⟩ := PRnd.cells hSw; simp only [List.getElem?_toArray, List.getElem?_cons_succ, List.getElem?_cons_zero, Option.some.injEq] at ho; subst ho; go_simp; with_reducible rfl) (by assumption) ?_
          try simp only [Act.put, List.setIfInBounds_toArray, List.set_cons_zero, List.set_cons_succ]
          refine rg_take 15 (some 83) _ (by kernel_rfl) (by kernel_rfl) (by kernel_rfl) (fun _ _ _ h => h) (by kernel_rfl) (by kernel_rfl) (by intro w' hSw op_ ho; obtain ⟨y2, z0, z1, v0, v1, o0, o1⟩ := PRnd.cells hSw; simp only [List.getElem?_toArray, List.getElem?_cons_succ, List.getElem?_cons_zero, Option.some.injEq] at ho; subst ho; go_simp; with_reducible rfl) (by assumption) ?_
          try simp only [Act.put, List.setIfInBounds_toArray, List.set_cons_zero, List.set_cons_succ]
          refine rg_take 16 (some 84) _ (by kernel_rfl) (by kernel_rfl) (by kernel_rfl) (fun _ _ _ h => h) (by kernel_rfl) (by kernel_rfl) (by intro w' hSw op_ ho; obtain ⟨y2, z0, z1, v0, v1, o0, o1⟩ := PRnd.cells hSw; simp only [List.getElem?_toArray, List.getElem?_cons_succ, List.getElem?_cons_zero, Option.some.injEq] at ho; subst ho; go_simp; with_reducible rfl) (by assumption) ?_
          try simp only [Act.put, List.setIfInBounds_toArray, List.set_cons_zero, List.set_cons_succ]
          refine rg_take 17 (some 85) _ (by kernel_rfl) (by kernel_rfl) (by kernel_rfl) (fun _ _ _ h => h) (by kernel_rfl) (by kernel_rfl) (by intro w' hSw op_ ho; obtain ⟨y2, z0, z1, v0, v1, o0, o1⟩ := PRnd.cells hSw; simp only [List.getElem?_toArray, List.getElem?_cons_succ, List.getElem?_cons_zero, Option.some.injEq] at ho; subst ho; go_simp; with_reducible rfl) (by assumption) ?_
          try simp only [Act.put, List.setIfInBounds_toArray, List.set_cons_zero, List.set_cons_succ]
          refine rg_skip 18 (some 86) (by kernel_rfl) (by kernel_rfl) (by kernel_rfl) (fun _ _ _ h => h) (by kernel_rfl) (by kernel_rfl) (by assumption) ?_
          try simp only [Act.put, List.setIfInBounds_toArray, List.set_cons_zero, List.set_cons_succ]
          refine rg_skip 19 (some 87) (by kernel_rfl) (by kernel_rfl) (by kernel_rfl) (fun _ _ _ h => h) (by kernel_rfl) (by kernel_rfl) (by assumption) ?_
          try simp only [Act.put, List.setIfInBounds_toArray, List.set_cons_zero, List.set_cons_succ]
          refine rg_skip 20 (some 88) (by kernel_rfl) (by kernel_rfl) (by kernel_rfl) (fun _ _ _ h => h) (by kernel_rfl) (by kernel_rfl) (by assumption) ?_
          try simp only [Act.put, List.setIfInBounds_toArray, List.set_cons_zero, List.set_cons_succ]
          refine rg_skip 21 (some 89) (by kernel_rfl) (by kernel_rfl) (by kernel_rfl) (fun _ _ _ h => h) (by kernel_rfl) (by kernel_rfl) (by assumption) ?_
          try simp only [Act.put, List.setIfInBounds_toArray, List.set_cons_zero, List.set_cons_succ]
          refine rg_skip 22 (some 90) (by kernel_rfl) (by kernel_rfl) (by kernel_rfl) (fun _ _ _ h => h) (by kernel_rfl) (by kernel_rfl) (by assumption) ?_
          try simp only [Act.put, List.setIfInBounds_toArray, List.set_cons_zero, List.set_cons_succ]
          refine rg_skip 23 (some 91) (by kernel_rfl) (by kernel_rfl) (by kernel_rfl) (fun _ _ _ h => h) (by kernel_rfl) (by kernel_rfl) (by assumption) ?_
          try simp only [Act.put, List.setIfInBounds_toArray, List.set_cons_zero, List.set_cons_succ]
          refine rg_skip 24 (some 92) (by kernel_rfl) (by kernel_rfl) (by kernel_rfl) (fun _ _ _ h => h) (by kernel_rfl) (by kernel_rfl) (by assumption) ?_
          try simp only [Act.put, List.setIfInBounds_toArray, List.set_cons_zero, List.set_cons_succ]
          refine rg_skip 25 (some 93) (by kernel_rfl) (by kernel_rfl) (by kernel_rfl) (fun _ _ _ h => h) (by kernel_rfl) (by kernel_rfl) (by assumption) ?_
          try simp only [Act.put, List.setIfInBounds_toArray, List.set_cons_zero, List.set_cons_succ]
          refine rg_skip 26 (some 94) (by kernel_rfl) (by kernel_rfl) (by kernel_rfl) (fun _ _ _ h => h) (by kernel_rfl) (by kernel_rfl) (by assumption) ?_
          try simp only [Act.put, List.setIfInBounds_toArray, List.set_cons_zero, List.set_cons_succ]
          refine rg_skip 27 (some 95) (by kernel_rfl) (by kernel_rfl) (by kernel_rfl) (fun _ _ _ h => h) (by kernel_rfl) (by kernel_rfl) (by assumption) ?_
          try simp only [Act.put, List.setIfInBounds_toArray, List.set_cons_zero, List.set_cons_succ]
          refine rg_skip 28 (some 96) (by kernel_rfl) (by kernel_rfl) (by kernel_rfl) (fun _ _ _ h => h) (by kernel_rfl) (by kernel_rfl) (by assumption) ?_
          try simp only [Act.put, List.setIfInBounds_toArray, List.set_cons_zero, List.set_cons_succ]
          refine rg_take 29 (some 97) _ (by kernel_rfl) (by kernel_rfl) (by kernel_rfl) (fun _ _ _ h => h) (by kernel_rfl) (by kernel_rfl) (by intro w' hSw op_ ho; obtain ⟨y2, z0, z1, v0, v1, o0, o1⟩ := PRnd.cells hSw; simp only [List.getElem?_toArray, List.getElem?_cons_succ, List.getElem?_cons_zero, Option.some.injEq] at ho; subst ho; go_simp; with_reducible rfl) (by assumption) ?_
          try simp only [Act.put, List.setIfInBounds_toArray, List.set_cons_zero, List.set_cons_succ]
          refine rg_take 30 (some 98) _ (by kernel_rfl) (by kernel_rfl) (by kernel_rfl) (fun _ _ _ h => h) (by kernel_rfl) (by kernel_rfl) (by intro w' hSw op_ ho; obtain ⟨y2, z0, z1, v0, v1, o0, o1⟩ := PRnd.cells hSw; simp only [List.getElem?_toArray, List.getElem?_cons_succ, List.getElem?_cons_zero, Option.some.injEq] at ho; subst ho; go_simp; with_reducible rfl) (by assumption) ?_
          try simp only [Act.put, List.setIfInBounds_toArray, List.set_cons_zero, List.set_cons_succ]
          refine wpAnyH_done (by kernel_rfl) ?_ _
          have HE := Lib.hid hHeld
          clear hHeld
          go_wp2_with fail
          go_roundw
          case rel => exact ⟨j + 1, P2, ret_v HT2.out.symm, ret_v (by omega), by omega, by omega, by have := HL2.out; omega, HE.out.pu⟩
          case measure => simp [intOf]; omega
        by_cases k2 : x.kind = 2
        · as_aux_lemma =>
          rw [if_neg k1, if_pos k2] at hwd
          have q1 : (x.kind == 1) = false := by rw [k2]; rfl
          have q2 : (x.kind == 2) = true := by rw [k2]; rfl
          have ww : wrap64 (T - x.amt) = T2 := by unfold wrap64; omega
          clear hwd bU0 bU1 bT0 bT1 k1 k2
          obtain ⟨a0, a1, a2, a3, al⟩ := HA7.out.cells
          go_wp2_with fail
          refine (of_c q b P2 x.who _ HK7.out.book (by have := HGX.out.2.1; omega) (by have := HGX.out.2.1; omega)).mono ?_
          obtain ⟨z, hz⟩ : ∃ z, purse P2 x.who = z := ⟨_, rfl⟩
          rw [hz]
          have z0 : 0 ≤ z.1 := by rw [← hz]; exact HK7.out.book.solid.free _
          have z1 : 0 ≤ z.2 := by rw [← hz]; exact HK7.out.book.solid.held _
          rintro e w8 ⟨rfl, b8⟩
          obtain ⟨Z, hZ⟩ : ∃ Z, w8.heap.size = Z := ⟨_, rfl⟩
          have HR : Hid (PRnd w (w8.alloc (.cells #[.int .i64 z.1, .int .i64 z.2] 29)) q b P2 U x V v O o Z z) := Lib.hid (by
            have b9 : Below w7.heap.size w7 (w8.alloc (.cells #[.int .i64 z.1, .int .i64 z.2] 29)) := b8.alloc b8.size _
            refine ⟨HK7.out.on b9, PActBlk.on b9 HA7.out, HV7.out.on b9, HO7.out.on b9, by rw [← hZ]; exact PBlk.new w8 z.1 z.2, HNE.out.1, HNE.out.2.1, HNE.out.2.2, ?_⟩
            have := (HK7.out.on b8).book.map.lt; omega)
          have HZ := Lib.hid hz
          clear a0 a1 a2 a3 al b8 hz
          have g1 : decide (z.1 < 0) = false := decide_eq_false (by omega)
          have g2 : decide (z.2 < 0) = false := decide_eq_false (by omega)
          have gT : (T2 != T2) = false := by simp
          go_wp2_with fail
          try rw [hZ]
          clear hZ
          have HTOT : Hid (∀ W, PRnd w W q b P2 U x V v O o Z z → Calls Tryd.prog 9 #[.pointer (some ⟨q, 0, none⟩)] W fun e w' => e = .returned (.int .i64 T2) ∧ PRnd w w' q b P2 U x V v O o Z z) := Lib.hid fun W h => by rw [← HT2.out]; exact (total_c q b P2 W h.pu.book).mono fun _ _ k => ⟨k.1, h.on k.2⟩
          refine wp_region_held_drew (S := fun W => PRnd w W q b P2 U x V v O o Z z) (by kernel_rfl) ?_ (fun hHeld => ?_)
          · exact HR.out.drewN _
          refine rg_take 0 (some 68) _ (by kernel_rfl) (by kernel_rfl) (by kernel_rfl) (fun _ _ _ h => h) (by kernel_rfl) (by kernel_rfl) (by intro w' hSw op_ ho; obtain ⟨y2, z0, z1, v0, v1, o0, o1⟩ := PRnd.cells hSw; simp only [List.getElem?_toArray, List.getElem?_cons_zero, Option.some.injEq] at ho; subst ho; go_simp; with_reducible rfl) (by assumption) ?_
          try simp only [Act.put, List.setIfInBounds_toArray, List.set_cons_zero, List.set_cons_succ]
          refine rg_take 2 (some 70) _ (by kernel_rfl) (by kernel_rfl) (by kernel_rfl) (fun _ _ _ h => h) (by kernel_rfl) (by kernel_rfl) (by intro w' hSw op_ ho; obtain ⟨y2, z0, z1, v0, v1, o0, o1⟩ := PRnd.cells hSw; simp only [List.getElem?_toArray, List.getElem?_cons_succ, List.getElem?_cons_zero, Option.some.injEq] at ho; subst ho; go_simp; with_reducible rfl) (by assumption) ?_
          try simp only [Act.put, List.setIfInBounds_toArray, List.set_cons_zero, List.set_cons_succ]
          refine rg_one 1 (by kernel_rfl) (by kernel_rfl) (fun op_ ho K hK => ?_)
          simp only [List.getElem?_toArray, List.getElem?_cons_succ, List.getElem?_cons_zero, Option.some.injEq] at ho
          subst ho
          go_simp
          go_at_call 9
          refine (HTOT.out _ (by assumption)).mono ?_
          rintro e wa ⟨rfl, ra⟩
          go_wp2_with fail
          refine hK.out _ _ (by assumption) (fun hHeld => ?_)
          clear hK
          try simp only [Act.put, List.setIfInBounds_toArray, List.set_cons_zero, List.set_cons_succ]
          refine rg_take 3 (some 71) _ (by kernel_rfl) (by kernel_rfl) (by kernel_rfl) (fun _ _ _ h => h) (by kernel_rfl) (by kernel_rfl) (by intro w' hSw op_ ho; obtain ⟨y2, z0, z1, v0, v1, o0, o1⟩ := PRnd.cells hSw; simp only [List.getElem?_toArray, List.getElem?_cons_succ, List.getElem?_cons_zero, Option.some.injEq] at ho; subst ho; go_simp; with_reducible rfl) (by assumption) ?_
          try simp only [Act.put, List.setIfInBounds_toArray, List.set_cons_zero, List.set_cons_succ]
          refine rg_take 4 (some 72) _ (by kernel_rfl) (by kernel_rfl) (by kernel_rfl) (fun _ _ _ h => h) (by kernel_rfl) (by kernel_rfl) (by intro w' hSw op_ ho; obtain ⟨y2, z0, z1, v0, v1, o0, o1⟩ := PRnd.cells hSw; simp only [List.getElem?_toArray, List.getElem?_cons_succ, List.getElem?_cons_zero, Option.some.injEq] at ho; subst ho; go_simp; with_reducible rfl) (by assumption) ?_
          try simp only [Act.put, List.setIfInBounds_toArray, List.set_cons_zero, List.set_cons_succ]
          refine rg_take 5 (some 73) _ (by kernel_rfl) (by kernel_rfl) (by kernel_rfl) (fun _ _ _ h => h) (by kernel_rfl) (by kernel_rfl) (by intro w' hSw op_ ho; obtain ⟨y2, z0, z1, v0, v1, o0, o1⟩ := PRnd.cells hSw; simp only [List.getElem?_toArray, List.getElem?_cons_succ, List.getElem?_cons_zero, Option.some.injEq] at ho; subst ho; go_simp; with_reducible rfl) (by assumption) ?_
          try simp only [Act.put, List.setIfInBounds_toArray, List.set_cons_zero, List.set_cons_succ]
          refine rg_take 6 (some 74) _ (by kernel_rfl) (by kernel_rfl) (by kernel_rfl) (fun _ _ _ h => h) (by kernel_rfl) (by kernel_rfl) (by intro w' hSw op_ ho; obtain ⟨y2, z0, z1, v0, v1, o0, o1⟩ := PRnd.cells hSw; simp only [List.getElem?_toArray, List.getElem?_cons_succ, List.getElem?_cons_zero, Option.some.injEq] at ho; subst ho; go_simp; with_reducible rfl) (by assumption) ?_
          try simp only [Act.put, List.setIfInBounds_toArray, List.set_cons_zero, List.set_cons_succ]
          refine rg_take 7 (some 75) _ (by kernel_rfl) (by kernel_rfl) (by kernel_rfl) (fun _ _ _ h => h) (by kernel_rfl) (by kernel_rfl) (by intro w' hSw op_ ho; obtain ⟨y2, z0, z1, v0, v1, o0, o1⟩ := PRnd.cells hSw; simp only [List.getElem?_toArray, List.getElem?_cons_succ, List.getElem?_cons_zero, Option.some.injEq] at ho; subst ho; go_simp; with_reducible rfl) (by assumption) ?_
          try simp only [Act.put, List.setIfInBounds_toArray, List.set_cons_zero, List.set_cons_succ]
          refine rg_take 8 (some 76) _ (by kernel_rfl) (by kernel_rfl) (by kernel_rfl) (fun _ _ _ h => h) (by kernel_rfl) (by kernel_rfl) (by intro w' hSw op_ ho; obtain ⟨y2, z0, z1, v0, v1, o0, o1⟩ := PRnd.cells hSw; simp only [List.getElem?_toArray, List.getElem?_cons_succ, List.getElem?_cons_zero, Option.some.injEq] at ho; subst ho; go_simp; with_reducible rfl) (by assumption) ?_
          try simp only [Act.put, List.setIfInBounds_toArray, List.set_cons_zero, List.set_cons_succ]
          refine rg_take 9 (some 77) _ (by kernel_rfl) (by kernel_rfl) (by kernel_rfl) (fun _ _ _ h => h) (by kernel_rfl) (by kernel_rfl) (by intro w' hSw op_ ho; obtain ⟨y2, z0, z1, v0, v1, o0, o1⟩ := PRnd.cells hSw; simp only [List.getElem?_toArray, List.getElem?_cons_succ, List.getElem?_cons_zero, Option.some.injEq] at ho; subst ho; go_simp; with_reducible rfl) (by assumption) ?_
          try simp only [Act.put, List.setIfInBounds_toArray, List.set_cons_zero, List.set_cons_succ]
          refine rg_take 10 (some 78) _ (by kernel_rfl) (by kernel_rfl) (by kernel_rfl) (fun _ _ _ h => h) (by kernel_rfl) (by kernel_rfl) (by intro w' hSw op_ ho; obtain ⟨y2, z0, z1, v0, v1, o0, o1⟩ := PRnd.cells hSw; simp only [List.getElem?_toArray, List.getElem?_cons_succ, List.getElem?_cons_zero, Option.some.injEq] at ho; subst ho; go_simp; with_reducible rfl) (by assumption) ?_
          try simp only [Act.put, List.setIfInBounds_toArray, List.set_cons_zero, List.set_cons_succ]
          refine rg_take 11 (some 79) _ (by kernel_rfl) (by kernel_rfl) (by kernel_rfl) (fun _ _ _ h => h) (by kernel_rfl) (by kernel_rfl) (by intro w' hSw op_ ho; obtain ⟨y2, z0, z1, v0, v1, o0, o1⟩ := PRnd.cells hSw; simp only [List.getElem?_toArray, List.getElem?_cons_succ, List.getElem?_cons_zero, Option.some.injEq] at ho; subst ho; go_simp; with_reducible rfl) (by assumption) ?_
          try simp only [Act.put, List.setIfInBounds_toArray, List.set_cons_zero, List.set_cons_succ]
          refine rg_take 12 (some 80) _ (by kernel_rfl) (by kernel_rfl) (by kernel_rfl) (fun _ _ _ h => h) (by kernel_rfl) (by kernel_rfl) (by intro w' hSw op_ ho; obtain ⟨y2, z0, z1, v0, v1, o0, o1⟩ := PRnd.cells hSw; simp only [List.getElem?_toArray, List.getElem?_cons_succ, List.getElem?_cons_zero, Option.some.injEq] at ho; subst ho; go_simp; with_reducible rfl) (by assumption) ?_
          try simp only [Act.put, List.setIfInBounds_toArray, List.set_cons_zero, List.set_cons_succ]
          refine rg_take 13 (some 81) _ (by kernel_rfl) (by kernel_rfl) (by kernel_rfl) (fun _ _ _ h => h) (by kernel_rfl) (by kernel_rfl) (by intro w' hSw op_ ho; obtain ⟨y2, z0, z1, v0, v1, o0, o1⟩ := PRnd.cells hSw; simp only [List.getElem?_toArray, List.getElem?_cons_succ, List.getElem?_cons_zero, Option.some.injEq] at ho; subst ho; go_simp; with_reducible rfl) (by assumption) ?_
          try simp only [Act.put, List.setIfInBounds_toArray, List.set_cons_zero, List.set_cons_succ]
          refine rg_take 14 (some 82) _ (by kernel_rfl) (by kernel_rfl) (by kernel_rfl) (fun _ _ _ h => h) (by kernel_rfl) (by kernel_rfl) (by intro w' hSw op_ ho; obtain ⟨y2, z0, z1, v0, v1, o0, o1⟩ := PRnd.cells hSw; simp only [List.getElem?_toArray, List.getElem?_cons_succ, List.getElem?_cons_zero, Option.some.injEq] at ho; subst ho; go_simp; with_reducible rfl) (by assumption) ?_
          try simp only [Act.put, List.setIfInBounds_toArray, List.set_cons_zero, List.set_cons_succ]
          refine rg_take 15 (some 83) _ (by kernel_rfl) (by kernel_rfl) (by kernel_rfl) (fun _ _ _ h => h) (by kernel_rfl) (by kernel_rfl) (by intro w' hSw op_ ho; obtain ⟨y2, z0, z1, v0, v1, o0, o1⟩ := PRnd.cells hSw; simp only [List.getElem?_toArray, List.getElem?_cons_succ, List.getElem?_cons_zero, Option.some.injEq] at ho; subst ho; go_simp; with_reducible rfl) (by assumption) ?_
          try simp only [Act.put, List.setIfInBounds_toArray, List.set_cons_zero, List.set_cons_succ]
          refine rg_take 16 (some 84) _ (by kernel_rfl) (by kernel_rfl) (by kernel_rfl) (fun _ _ _ h => h) (by kernel_rfl) (by kernel_rfl) (by intro w' hSw op_ ho; obtain ⟨y2, z0, z1, v0, v1, o0, o1⟩ := PRnd.cells hSw; simp only [List.getElem?_toArray, List.getElem?_cons_succ, List.getElem?_cons_zero, Option.some.injEq] at ho; subst ho; go_simp; with_reducible rfl) (by assumption) ?_
          try simp only [Act.put, List.setIfInBounds_toArray, List.set_cons_zero, List.set_cons_succ]
          refine rg_take 17 (some 85) _ (by kernel_rfl) (by kernel_rfl) (by kernel_rfl) (fun _ _ _ h => h) (by kernel_rfl) (by kernel_rfl) (by intro w' hSw op_ ho; obtain ⟨y2, z0, z1, v0, v1, o0, o1⟩ := PRnd.cells hSw; simp only [List.getElem?_toArray, List.getElem?_cons_succ, List.getElem?_cons_zero, Option.some.injEq] at ho; subst ho; go_simp; with_reducible rfl) (by assumption) ?_
          try simp only [Act.put, List.setIfInBounds_toArray, List.set_cons_zero, List.set_cons_succ]
          refine rg_skip 18 (some 86) (by kernel_rfl) (by kernel_rfl) (by kernel_rfl) (fun _ _ _ h => h) (by kernel_rfl) (by kernel_rfl) (by assumption) ?_
          try simp only [Act.put, List.setIfInBounds_toArray, List.set_cons_zero, List.set_cons_succ]
          refine rg_skip 19 (some 87) (by kernel_rfl) (by kernel_rfl) (by kernel_rfl) (fun _ _ _ h => h) (by kernel_rfl) (by kernel_rfl) (by assumption) ?_
          try simp only [Act.put, List.setIfInBounds_toArray, List.set_cons_zero, List.set_cons_succ]
          refine rg_skip 20 (some 88) (by kernel_rfl) (by kernel_rfl) (by kernel_rfl) (fun _ _ _ h => h) (by kernel_rfl) (by kernel_rfl) (by assumption) ?_
          try simp only [Act.put, List.setIfInBounds_toArray, List.set_cons_zero, List.set_cons_succ]
          refine rg_skip 21 (some 89) (by kernel_rfl) (by kernel_rfl) (by kernel_rfl) (fun _ _ _ h => h) (by kernel_rfl) (by kernel_rfl) (by assumption) ?_
          try simp only [Act.put, List.setIfInBounds_toArray, List.set_cons_zero, List.set_cons_succ]
          refine rg_skip 22 (some 90) (by kernel_rfl) (by kernel_rfl) (by kernel_rfl) (fun _ _ _ h => h) (by kernel_rfl) (by kernel_rfl) (by assumption) ?_
          try simp only [Act.put, List.setIfInBounds_toArray, List.set_cons_zero, List.set_cons_succ]
          refine rg_skip 23 (some 91) (by kernel_rfl) (by kernel_rfl) (by kernel_rfl) (fun _ _ _ h => h) (by kernel_rfl) (by kernel_rfl) (by assumption) ?_
          try simp only [Act.put, List.setIfInBounds_toArray, List.set_cons_zero, List.set_cons_succ]
          refine rg_skip 24 (some 92) (by kernel_rfl) (by kernel_rfl) (by kernel_rfl) (fun _ _ _ h => h) (by kernel_rfl) (by kernel_rfl) (by assumption) ?_
          try simp only [Act.put, List.setIfInBounds_toArray, List.set_cons_zero, List.set_cons_succ]
          refine rg_skip 25 (some 93) (by kernel_rfl) (by kernel_rfl) (by kernel_rfl) (fun _ _ _ h => h) (by kernel_rfl) (by kernel_rfl) (by assumption) ?_
          try simp only [Act.put, List.setIfInBounds_toArray, List.set_cons_zero, List.set_cons_succ]
          refine rg_skip 26 (some 94) (by kernel_rfl) (by kernel_rfl) (by kernel_rfl) (fun _ _ _ h => h) (by kernel_rfl) (by kernel_rfl) (by assumption) ?_
          try simp only [Act.put, List.setIfInBounds_toArray, List.set_cons_zero, List.set_cons_succ]
          refine rg_skip 27 (some 95) (by kernel_rfl) (by kernel_rfl) (by kernel_rfl) (fun _ _ _ h => h) (by kernel_rfl) (by kernel_rfl) (by assumption) ?_
          try simp only [Act.put, List.setIfInBounds_toArray, List.set_cons_zero, List.set_cons_succ]
          refine rg_skip 28 (some 96) (by kernel_rfl) (by kernel_rfl) (by kernel_rfl) (fun _ _ _ h => h) (by kernel_rfl) (by kernel_rfl) (by assumption) ?_
          try simp only [Act.put, List.setIfInBounds_toArray, List.set_cons_zero, List.set_cons_succ]
          refine rg_take 29 (some 97) _ (by kernel_rfl) (by kernel_rfl) (by kernel_rfl) (fun _ _ _ h => h) (by kernel_rfl) (by kernel_rfl) (by intro w' hSw op_ ho; obtain ⟨y2, z0, z1, v0, v1, o0, o1⟩ := PRnd.cells hSw; simp only [List.getElem?_toArray, List.getElem?_cons_succ, List.getElem?_cons_zero, Option.some.injEq] at ho; subst ho; go_simp; with_reducible rfl) (by assumption) ?_
          try simp only [Act.put, List.setIfInBounds_toArray, List.set_cons_zero, List.set_cons_succ]
          refine rg_take 30 (some 98) _ (by kernel_rfl) (by kernel_rfl) (by kernel_rfl) (fun _ _ _ h => h) (by kernel_rfl) (by kernel_rfl) (by intro w' hSw op_ ho; obtain ⟨y2, z0, z1, v0, v1, o0, o1⟩ := PRnd.cells hSw; simp only [List.getElem?_toArray, List.getElem?_cons_succ, List.getElem?_cons_zero, Option.some.injEq] at ho; subst ho; go_simp; with_reducible rfl) (by assumption) ?_
          try simp only [Act.put, List.setIfInBounds_toArray, List.set_cons_zero, List.set_cons_succ]
          refine wpAnyH_done (by kernel_rfl) ?_ _
          have HE := Lib.hid hHeld
          clear hHeld
          go_wp2_with fail
          go_roundw
          case rel => exact ⟨j + 1, P2, ret_v HT2.out.symm, ret_v (by omega), by omega, by omega, by have := HL2.out; omega, HE.out.pu⟩
          case measure => simp [intOf]; omega
        · as_aux_lemma =>
          rw [if_neg k1, if_neg k2] at hwd
          have q1 : (x.kind == 1) = false := by rw [beq_eq_false_iff_ne]; exact k1
          have q2 : (x.kind == 2) = false := by rw [beq_eq_false_iff_ne]; exact k2
          obtain rfl : T2 = T := by omega
          clear hwd bU0 bU1 bT0 bT1 k1 k2
          obtain ⟨a0, a1, a2, a3, al⟩ := HA7.out.cells
          go_wp2_with fail
          refine (of_c q b P2 x.who _ HK7.out.book (by have := HGX.out.2.1; omega) (by have := HGX.out.2.1; omega)).mono ?_
          obtain ⟨z, hz⟩ : ∃ z, purse P2 x.who = z := ⟨_, rfl⟩
          rw [hz]
          have z0 : 0 ≤ z.1 := by rw [← hz]; exact HK7.out.book.solid.free _
          have z1 : 0 ≤ z.2 := by rw [← hz]; exact HK7.out.book.solid.held _
          rintro e w8 ⟨rfl, b8⟩
          obtain ⟨Z, hZ⟩ : ∃ Z, w8.heap.size = Z := ⟨_, rfl⟩
          have HR : Hid (PRnd w (w8.alloc (.cells #[.int .i64 z.1, .int .i64 z.2] 29)) q b P2 U x V v O o Z z) := Lib.hid (by
            have b9 : Below w7.heap.size w7 (w8.alloc (.cells #[.int .i64 z.1, .int .i64 z.2] 29)) := b8.alloc b8.size _
            refine ⟨HK7.out.on b9, PActBlk.on b9 HA7.out, HV7.out.on b9, HO7.out.on b9, by rw [← hZ]; exact PBlk.new w8 z.1 z.2, HNE.out.1, HNE.out.2.1, HNE.out.2.2, ?_⟩
            have := (HK7.out.on b8).book.map.lt; omega)
          have HZ := Lib.hid hz
          clear a0 a1 a2 a3 al b8 hz
          have g1 : decide (z.1 < 0) = false := decide_eq_false (by omega)
          have g2 : decide (z.2 < 0) = false := decide_eq_false (by omega)
          have gT : (T2 != T2) = false := by simp
          go_wp2_with fail
          try rw [hZ]
          clear hZ
          have HTOT : Hid (∀ W, PRnd w W q b P2 U x V v O o Z z → Calls Tryd.prog 9 #[.pointer (some ⟨q, 0, none⟩)] W fun e w' => e = .returned (.int .i64 T2) ∧ PRnd w w' q b P2 U x V v O o Z z) := Lib.hid fun W h => by rw [← HT2.out]; exact (total_c q b P2 W h.pu.book).mono fun _ _ k => ⟨k.1, h.on k.2⟩
          refine wp_region_held_drew (S := fun W => PRnd w W q b P2 U x V v O o Z z) (by kernel_rfl) ?_ (fun hHeld => ?_)
          · exact HR.out.drewN _
          refine rg_take 0 (some 68) _ (by kernel_rfl) (by kernel_rfl) (by kernel_rfl) (fun _ _ _ h => h) (by kernel_rfl) (by kernel_rfl) (by intro w' hSw op_ ho; obtain ⟨y2, z0, z1, v0, v1, o0, o1⟩ := PRnd.cells hSw; simp only [List.getElem?_toArray, List.getElem?_cons_zero, Option.some.injEq] at ho; subst ho; go_simp; with_reducible rfl) (by assumption) ?_
          try simp only [Act.put, List.setIfInBounds_toArray, List.set_cons_zero, List.set_cons_succ]
          refine rg_take 2 (some 70) _ (by kernel_rfl) (by kernel_rfl) (by kernel_rfl) (fun _ _ _ h => h) (by kernel_rfl) (by kernel_rfl) (by intro w' hSw op_ ho; obtain ⟨y2, z0, z1, v0, v1, o0, o1⟩ := PRnd.cells hSw; simp only [List.getElem?_toArray, List.getElem?_cons_succ, List.getElem?_cons_zero, Option.some.injEq] at ho; subst ho; go_simp; with_reducible rfl) (by assumption) ?_
          try simp only [Act.put, List.setIfInBounds_toArray, List.set_cons_zero, List.set_cons_succ]
          refine rg_one 1 (by kernel_rfl) (by kernel_rfl) (fun op_ ho K hK => ?_)
          simp only [List.getElem?_toArray, List.getElem?_cons_succ, List.getElem?_cons_zero, Option.some.injEq] at ho
          subst ho
          go_simp
          go_at_call 9
          refine (HTOT.out _ (by assumption)).mono ?_
          rintro e wa ⟨rfl, ra⟩
          go_wp2_with fail
          refine hK.out _ _ (by assumption) (fun hHeld => ?_)
          clear hK
          try simp only [Act.put, List.setIfInBounds_toArray, List.set_cons_zero, List.set_cons_succ]
          refine rg_take 3 (some 71) _ (by kernel_rfl) (by kernel_rfl) (by kernel_rfl) (fun _ _ _ h => h) (by kernel_rfl) (by kernel_rfl) (by intro w' hSw op_ ho; obtain ⟨y2, z0, z1, v0, v1, o0, o1⟩ := PRnd.cells hSw; simp only [List.getElem?_toArray, List.getElem?_cons_succ, List.getElem?_cons_zero, Option.some.injEq] at ho; subst ho; go_simp; with_reducible rfl) (by assumption) ?_
          try simp only [Act.put, List.setIfInBounds_toArray, List.set_cons_zero, List.set_cons_succ]
          refine rg_take 4 (some 72) _ (by kernel_rfl) (by kernel_rfl) (by kernel_rfl) (fun _ _ _ h => h) (by kernel_rfl) (by kernel_rfl) (by intro w' hSw op_ ho; obtain ⟨y2, z0, z1, v0, v1, o0, o1⟩ := PRnd.cells hSw; simp only [List.getElem?_toArray, List.getElem?_cons_succ, List.getElem?_cons_zero, Option.some.injEq] at ho; subst ho; go_simp; with_reducible rfl) (by assumption) ?_
          try simp only [Act.put, List.setIfInBounds_toArray, List.set_cons_zero, List.set_cons_succ]
          refine rg_take 5 (some 73) _ (by kernel_rfl) (by kernel_rfl) (by kernel_rfl) (fun _ _ _ h => h) (by kernel_rfl) (by kernel_rfl) (by intro w' hSw op_ ho; obtain ⟨y2, z0, z1, v0, v1, o0, o1⟩ := PRnd.cells hSw; simp only [List.getElem?_toArray, List.getElem?_cons_succ, List.getElem?_cons_zero, Option.some.injEq] at ho; subst ho; go_simp; with_reducible rfl) (by assumption) ?_
          try simp only [Act.put, List.setIfInBounds_toArray, List.set_cons_zero, List.set_cons_succ]
          refine rg_take 6 (some 74) _ (by kernel_rfl) (by kernel_rfl) (by kernel_rfl) (fun _ _ _ h => h) (by kernel_rfl) (by kernel_rfl) (by intro w' hSw op_ ho; obtain ⟨y2, z0, z1, v0, v1, o0, o1⟩ := PRnd.cells hSw; simp only [List.getElem?_toArray, List.getElem?_cons_succ, List.getElem?_cons_zero, Option.some.injEq] at ho; subst ho; go_simp; with_reducible rfl) (by assumption) ?_
          try simp only [Act.put, List.setIfInBounds_toArray, List.set_cons_zero, List.set_cons_succ]
          refine rg_take 7 (some 75) _ (by kernel_rfl) (by kernel_rfl) (by kernel_rfl) (fun _ _ _ h => h) (by kernel_rfl) (by kernel_rfl) (by intro w' hSw op_ ho; obtain ⟨y2, z0, z1, v0, v1, o0, o1⟩ := PRnd.cells hSw; simp only [List.getElem?_toArray, List.getElem?_cons_succ, List.getElem?_cons_zero, Option.some.injEq] at ho; subst ho; go_simp; with_reducible rfl) (by assumption) ?_
          try simp only [Act.put, List.setIfInBounds_toArray, List.set_cons_zero, List.set_cons_succ]
          refine rg_take 8 (some 76) _ (by kernel_rfl) (by kernel_rfl) (by kernel_rfl) (fun _ _ _ h => h) (by kernel_rfl) (by kernel_rfl) (by intro w' hSw op_ ho; obtain ⟨y2, z0, z1, v0, v1, o0, o1⟩ := PRnd.cells hSw; simp only [List.getElem?_toArray, List.getElem?_cons_succ, List.getElem?_cons_zero, Option.some.injEq] at ho; subst ho; go_simp; with_reducible rfl) (by assumption) ?_
          try simp only [Act.put, List.setIfInBounds_toArray, List.set_cons_zero, List.set_cons_succ]
          refine rg_take 9 (some 77) _ (by kernel_rfl) (by kernel_rfl) (by kernel_rfl) (fun _ _ _ h => h) (by kernel_rfl) (by kernel_rfl) (by intro w' hSw op_ ho; obtain ⟨y2, z0, z1, v0, v1, o0, o1⟩ := PRnd.cells hSw; simp only [List.getElem?_toArray, List.getElem?_cons_succ, List.getElem?_cons_zero, Option.some.injEq] at ho; subst ho; go_simp; with_reducible rfl) (by assumption) ?_
          try simp only [Act.put, List.setIfInBounds_toArray, List.set_cons_zero, List.set_cons_succ]
          refine rg_take 10 (some 78) _ (by kernel_rfl) (by kernel_rfl) (by kernel_rfl) (fun _ _ _ h => h) (by kernel_rfl) (by kernel_rfl) (by intro w' hSw op_ ho; obtain ⟨y2, z0, z1, v0, v1, o0, o1⟩ := PRnd.cells hSw; simp only [List.getElem?_toArray, List.getElem?_cons_succ, List.getElem?_cons_zero, Option.some.injEq] at ho; subst ho; go_simp; with_reducible rfl) (by assumption) ?_
          try simp only [Act.put, List.setIfInBounds_toArray, List.set_cons_zero, List.set_cons_succ]
          refine rg_take 11 (some 79) _ (by kernel_rfl) (by kernel_rfl) (by kernel_rfl) (fun _ _ _ h => h) (by kernel_rfl) (by kernel_rfl) (by intro w' hSw op_ ho; obtain ⟨y2, z0, z1, v0, v1, o0, o1⟩ := PRnd.cells hSw; simp only [List.getElem?_toArray, List.getElem?_cons_succ, List.getElem?_cons_zero, Option.some.injEq] at ho; subst ho; go_simp; with_reducible rfl) (by assumption) ?_
          try simp only [Act.put, List.setIfInBounds_toArray, List.set_cons_zero, List.set_cons_succ]
          refine rg_take 12 (some 80) _ (by kernel_rfl) (by kernel_rfl) (by kernel_rfl) (fun _ _ _ h => h) (by kernel_rfl) (by kernel_rfl) (by intro w' hSw op_ ho; obtain ⟨y2, z0, z1, v0, v1, o0, o1⟩ := PRnd.cells hSw; simp only [List.getElem?_toArray, List.getElem?_cons_succ, List.getElem?_cons_zero, Option.some.injEq] at ho; subst ho; go_simp; with_reducible rfl) (by assumption) ?_
          try simp only [Act.put, List.setIfInBounds_toArray, List.set_cons_zero, List.set_cons_succ]
          refine rg_take 13 (some 81) _ (by kernel_rfl) (by kernel_rfl) (by kernel_rfl) (fun _ _ _ h => h) (by kernel_rfl) (by kernel_rfl) (by intro w' hSw op_ ho; obtain ⟨y2, z0, z1, v0, v1, o0, o1⟩ := PRnd.cells hSw; simp only [List.getElem?_toArray, List.getElem?_cons_succ, List.getElem?_cons_zero, Option.some.injEq] at ho; subst ho; go_simp; with_reducible rfl) (by assumption) ?_
          try simp only [Act.put, List.setIfInBounds_toArray, List.set_cons_zero, List.set_cons_succ]
          refine rg_take 14 (some 82) _ (by kernel_rfl) (by kernel_rfl) (by kernel_rfl) (fun _ _ _ h => h) (by kernel_rfl) (by kernel_rfl) (by intro w' hSw op_ ho; obtain ⟨y2, z0, z1, v0, v1, o0, o1⟩ := PRnd.cells hSw; simp only [List.getElem?_toArray, List.getElem?_cons_succ, List.getElem?_cons_zero, Option.some.injEq] at ho; subst ho; go_simp; with_reducible rfl) (by assumption) ?_
          try simp only [Act.put, List.setIfInBounds_toArray, List.set_cons_zero, List.set_cons_succ]
          refine rg_take 15 (some 83) _ (by kernel_rfl) (by kernel_rfl) (by kernel_rfl) (fun _ _ _ h => h) (by kernel_rfl) (by kernel_rfl) (by intro w' hSw op_ ho; obtain ⟨y2, z0, z1, v0, v1, o0, o1⟩ := PRnd.cells hSw; simp only [List.getElem?_toArray, List.getElem?_cons_succ, List.getElem?_cons_zero, Option.some.injEq] at ho; subst ho; go_simp; with_reducible rfl) (by assumption) ?_
          try simp only [Act.put, List.setIfInBounds_toArray, List.set_cons_zero, List.set_cons_succ]
          refine rg_take 16 (some 84) _ (by kernel_rfl) (by kernel_rfl) (by kernel_rfl) (fun _ _ _ h => h) (by kernel_rfl) (by kernel_rfl) (by intro w' hSw op_ ho; obtain ⟨y2, z0, z1, v0, v1, o0, o1⟩ := PRnd.cells hSw; simp only [List.getElem?_toArray, List.getElem?_cons_succ, List.getElem?_cons_zero, Option.some.injEq] at ho; subst ho; go_simp; with_reducible rfl) (by assumption) ?_
          try simp only [Act.put, List.setIfInBounds_toArray, List.set_cons_zero, List.set_cons_succ]
          refine rg_take 17 (some 85) _ (by kernel_rfl) (by kernel_rfl) (by kernel_rfl) (fun _ _ _ h => h) (by kernel_rfl) (by kernel_rfl) (by intro w' hSw op_ ho; obtain ⟨y2, z0, z1, v0, v1, o0, o1⟩ := PRnd.cells hSw; simp only [List.getElem?_toArray, List.getElem?_cons_succ, List.getElem?_cons_zero, Option.some.injEq] at ho; subst ho; go_simp; with_reducible rfl) (by assumption) ?_
          try simp only [Act.put, List.setIfInBounds_toArray, List.set_cons_zero, List.set_cons_succ]
          refine rg_skip 18 (some 86) (by kernel_rfl) (by kernel_rfl) (by kernel_rfl) (fun _ _ _ h => h) (by kernel_rfl) (by kernel_rfl) (by assumption) ?_
          try simp only [Act.put, List.setIfInBounds_toArray, List.set_cons_zero, List.set_cons_succ]
          refine rg_skip 19 (some 87) (by kernel_rfl) (by kernel_rfl) (by kernel_rfl) (fun _ _ _ h => h) (by kernel_rfl) (by kernel_rfl) (by assumption) ?_
          try simp only [Act.put, List.setIfInBounds_toArray, List.set_cons_zero, List.set_cons_succ]
          refine rg_skip 20 (some 88) (by kernel_rfl) (by kernel_rfl) (by kernel_rfl) (fun _ _ _ h => h) (by kernel_rfl) (by kernel_rfl) (by assumption) ?_
          try simp only [Act.put, List.setIfInBounds_toArray, List.set_cons_zero, List.set_cons_succ]
          refine rg_skip 21 (some 89) (by kernel_rfl) (by kernel_rfl) (by kernel_rfl) (fun _ _ _ h => h) (by kernel_rfl) (by kernel_rfl) (by assumption) ?_
          try simp only [Act.put, List.setIfInBounds_toArray, List.set_cons_zero, List.set_cons_succ]
          refine rg_skip 22 (some 90) (by kernel_rfl) (by kernel_rfl) (by kernel_rfl) (fun _ _ _ h => h) (by kernel_rfl) (by kernel_rfl) (by assumption) ?_
          try simp only [Act.put, List.setIfInBounds_toArray, List.set_cons_zero, List.set_cons_succ]
          refine rg_skip 23 (some 91) (by kernel_rfl) (by kernel_rfl) (by kernel_rfl) (fun _ _ _ h => h) (by kernel_rfl) (by kernel_rfl) (by assumption) ?_
          try simp only [Act.put, List.setIfInBounds_toArray, List.set_cons_zero, List.set_cons_succ]
          refine rg_skip 24 (some 92) (by kernel_rfl) (by kernel_rfl) (by kernel_rfl) (fun _ _ _ h => h) (by kernel_rfl) (by kernel_rfl) (by assumption) ?_
          try simp only [Act.put, List.setIfInBounds_toArray, List.set_cons_zero, List.set_cons_succ]
          refine rg_skip 25 (some 93) (by kernel_rfl) (by kernel_rfl) (by kernel_rfl) (fun _ _ _ h => h) (by kernel_rfl) (by kernel_rfl) (by assumption) ?_
          try simp only [Act.put, List.setIfInBounds_toArray, List.set_cons_zero, List.set_cons_succ]
          refine rg_skip 26 (some 94) (by kernel_rfl) (by kernel_rfl) (by kernel_rfl) (fun _ _ _ h => h) (by kernel_rfl) (by kernel_rfl) (by assumption) ?_
          try simp only [Act.put, List.setIfInBounds_toArray, List.set_cons_zero, List.set_cons_succ]
          refine rg_skip 27 (some 95) (by kernel_rfl) (by kernel_rfl) (by kernel_rfl) (fun _ _ _ h => h) (by kernel_rfl) (by kernel_rfl) (by assumption) ?_
          try simp only [Act.put, List.setIfInBounds_toArray, List.set_cons_zero, List.set_cons_succ]
          refine rg_skip 28 (some 96) (by kernel_rfl) (by kernel_rfl) (by kernel_rfl) (fun _ _ _ h => h) (by kernel_rfl) (by kernel_rfl) (by assumption) ?_
          try simp only [Act.put, List.setIfInBounds_toArray, List.set_cons_zero, List.set_cons_succ]
          refine rg_take 29 (some 97) _ (by kernel_rfl) (by kernel_rfl) (by kernel_rfl) (fun _ _ _ h => h) (by kernel_rfl) (by kernel_rfl) (by intro w' hSw op_ ho; obtain ⟨y2, z0, z1, v0, v1, o0, o1⟩ := PRnd.cells hSw; simp only [List.getElem?_toArray, List.getElem?_cons_succ, List.getElem?_cons_zero, Option.some.injEq] at ho; subst ho; go_simp; with_reducible rfl) (by assumption) ?_
          try simp only [Act.put, List.setIfInBounds_toArray, List.set_cons_zero, List.set_cons_succ]
          refine rg_take 30 (some 98) _ (by kernel_rfl) (by kernel_rfl) (by kernel_rfl) (fun _ _ _ h => h) (by kernel_rfl) (by kernel_rfl) (by intro w' hSw op_ ho; obtain ⟨y2, z0, z1, v0, v1, o0, o1⟩ := PRnd.cells hSw; simp only [List.getElem?_toArray, List.getElem?_cons_succ, List.getElem?_cons_zero, Option.some.injEq] at ho; subst ho; go_simp; with_reducible rfl) (by assumption) ?_
          try simp only [Act.put, List.setIfInBounds_toArray, List.set_cons_zero, List.set_cons_succ]
          refine wpAnyH_done (by kernel_rfl) ?_ _
          have HE := Lib.hid hHeld
          clear hHeld
          go_wp2_with fail
          go_roundw
          case rel => exact ⟨j + 1, P2, ret_v HT2.out.symm, ret_v (by omega), by omega, by omega, by have := HL2.out; omega, HE.out.pu⟩
          case measure => simp [intOf]; omega
      · as_aux_lemma =>
        rw [if_neg hm0] at hwd
        obtain rfl := HMB.out hm0
        obtain rfl : T2 = T := by omega
        have HV2 : Hid (purse P2 x.who = v) := HV
        have HO2 : Hid (purse P2 x.other = o) := HO
        obtain ⟨av, hav⟩ : ∃ av, errV s m = .iface 98 (.pointer (some av)) := ⟨s (m - 1), by unfold errV; rw [if_neg hm0]⟩
        rw [hav]
        clear hwd bU0 bU1 bT0 bT1 hm0 hav
        obtain ⟨a0, a1, a2, a3, al⟩ := HA7.out.cells
        go_wp2_with fail
        refine (of_c q b P2 x.who _ HK7.out.book (by have := HGX.out.2.1; omega) (by have := HGX.out.2.1; omega)).mono ?_
        obtain ⟨z, hz⟩ : ∃ z, purse P2 x.who = z := ⟨_, rfl⟩
        rw [hz]
        have z0 : 0 ≤ z.1 := by rw [← hz]; exact HK7.out.book.solid.free _
        have z1 : 0 ≤ z.2 := by rw [← hz]; exact HK7.out.book.solid.held _
        rintro e w8 ⟨rfl, b8⟩
        obtain ⟨Z, hZ⟩ : ∃ Z, w8.heap.size = Z := ⟨_, rfl⟩
        have HR : Hid (PRnd w (w8.alloc (.cells #[.int .i64 z.1, .int .i64 z.2] 29)) q b P2 U x V v O o Z z) := Lib.hid (by
          have b9 : Below w7.heap.size w7 (w8.alloc (.cells #[.int .i64 z.1, .int .i64 z.2] 29)) := b8.alloc b8.size _
          refine ⟨HK7.out.on b9, PActBlk.on b9 HA7.out, HV7.out.on b9, HO7.out.on b9, by rw [← hZ]; exact PBlk.new w8 z.1 z.2, HNE.out.1, HNE.out.2.1, HNE.out.2.2, ?_⟩
          have := (HK7.out.on b8).book.map.lt; omega)
        have HZ := Lib.hid hz
        clear a0 a1 a2 a3 al b8 hz
        have g1 : decide (z.1 < 0) = false := decide_eq_false (by omega)
        have g2 : decide (z.2 < 0) = false := decide_eq_false (by omega)
        have gT : (T2 != T2) = false := by simp
        go_wp2_with fail
        try rw [hZ]
        clear hZ
        have hOO : purse P2 x.other = o := HO2.out
        have hVV : z = v := HZ.out.symm.trans HV2.out
        subst hVV
        have hE := eqP
        have e1 : (z.1 == z.1 && z.2 == z.2) = true := by simp
        have e2 : (o.1 == o.1 && o.2 == o.2) = true := by simp
        have HTOT : Hid (∀ W, PRnd w W q b P2 U x V z O o Z z → Calls Tryd.prog 9 #[.pointer (some ⟨q, 0, none⟩)] W fun e w' => e = .returned (.int .i64 T2) ∧ PRnd w w' q b P2 U x V z O o Z z) := Lib.hid fun W h => by rw [← HT2.out]; exact (total_c q b P2 W h.pu.book).mono fun _ _ k => ⟨k.1, h.on k.2⟩
        have HOF : Hid (∀ W, PRnd w W q b P2 U x V z O o Z z → Calls Tryd.prog 7 #[.pointer (some ⟨q, 0, none⟩), .int .i64 x.other] W fun e w' => e = .returned (.agg #[.int .i64 o.1, .int .i64 o.2]) ∧ PRnd w w' q b P2 U x V z O o Z z) := Lib.hid fun W h => by rw [← hOO]; rw [← hOO] at h; exact (of_c q b P2 x.other W h.pu.book (by have := HGX.out.2.2.1; omega) (by have := HGX.out.2.2.1; omega)).mono fun _ _ k => ⟨k.1, h.on k.2⟩
        clear hOO
        refine wp_region_held_drew (S := fun W => PRnd w W q b P2 U x V z O o Z z) (by kernel_rfl) ?_ (fun hHeld => ?_)
        · exact HR.out.drewN _
        refine rg_take 0 (some 68) _ (by kernel_rfl) (by kernel_rfl) (by kernel_rfl) (fun _ _ _ h => h) (by kernel_rfl) (by kernel_rfl) (by intro w' hSw op_ ho; obtain ⟨y2, z0, z1, v0, v1, o0, o1⟩ := PRnd.cells hSw; simp only [List.getElem?_toArray, List.getElem?_cons_zero, Option.some.injEq] at ho; subst ho; go_simp; with_reducible rfl) (by assumption) ?_
        try simp only [Act.put, List.setIfInBounds_toArray, List.set_cons_zero, List.set_cons_succ]
        refine rg_take 2 (some 70) _ (by kernel_rfl) (by kernel_rfl) (by kernel_rfl) (fun _ _ _ h => h) (by kernel_rfl) (by kernel_rfl) (by intro w' hSw op_ ho; obtain ⟨y2, z0, z1, v0, v1, o0, o1⟩ := PRnd.cells hSw; simp only [List.getElem?_toArray, List.getElem?_cons_succ, List.getElem?_cons_zero, Option.some.injEq] at ho; subst ho; go_simp; with_reducible rfl) (by assumption) ?_
        try simp only [Act.put, List.setIfInBounds_toArray, List.set_cons_zero, List.set_cons_succ]
        refine rg_one 1 (by kernel_rfl) (by kernel_rfl) (fun op_ ho K hK => ?_)
        simp only [List.getElem?_toArray, List.getElem?_cons_succ, List.getElem?_cons_zero, Option.some.injEq] at ho
        subst ho
        go_simp
        go_at_call 9
        refine (HTOT.out _ (by assumption)).mono ?_
        rintro e wa ⟨rfl, ra⟩
        go_wp2_with fail
        refine hK.out _ _ (by assumption) (fun hHeld => ?_)
        clear hK
        try simp only [Act.put, List.setIfInBounds_toArray, List.set_cons_zero, List.set_cons_succ]
        refine rg_take 3 (some 71) _ (by kernel_rfl) (by kernel_rfl) (by kernel_rfl) (fun _ _ _ h => h) (by kernel_rfl) (by kernel_rfl) (by intro w' hSw op_ ho; obtain ⟨y2, z0, z1, v0, v1, o0, o1⟩ := PRnd.cells hSw; simp only [List.getElem?_toArray, List.getElem?_cons_succ, List.getElem?_cons_zero, Option.some.injEq] at ho; subst ho; go_simp; with_reducible rfl) (by assumption) ?_
        try simp only [Act.put, List.setIfInBounds_toArray, List.set_cons_zero, List.set_cons_succ]
        refine rg_take 4 (some 72) _ (by kernel_rfl) (by kernel_rfl) (by kernel_rfl) (fun _ _ _ h => h) (by kernel_rfl) (by kernel_rfl) (by intro w' hSw op_ ho; obtain ⟨y2, z0, z1, v0, v1, o0, o1⟩ := PRnd.cells hSw; simp only [List.getElem?_toArray, List.getElem?_cons_succ, List.getElem?_cons_zero, Option.some.injEq] at ho; subst ho; go_simp; with_reducible rfl) (by assumption) ?_
        try simp only [Act.put, List.setIfInBounds_toArray, List.set_cons_zero, List.set_cons_succ]
        refine rg_take 5 (some 73) _ (by kernel_rfl) (by kernel_rfl) (by kernel_rfl) (fun _ _ _ h => h) (by kernel_rfl) (by kernel_rfl) (by intro w' hSw op_ ho; obtain ⟨y2, z0, z1, v0, v1, o0, o1⟩ := PRnd.cells hSw; simp only [List.getElem?_toArray, List.getElem?_cons_succ, List.getElem?_cons_zero, Option.some.injEq] at ho; subst ho; go_simp; with_reducible rfl) (by assumption) ?_
        try simp only [Act.put, List.setIfInBounds_toArray, List.set_cons_zero, List.set_cons_succ]
        refine rg_take 6 (some 74) _ (by kernel_rfl) (by kernel_rfl) (by kernel_rfl) (fun _ _ _ h => h) (by kernel_rfl) (by kernel_rfl) (by intro w' hSw op_ ho; obtain ⟨y2, z0, z1, v0, v1, o0, o1⟩ := PRnd.cells hSw; simp only [List.getElem?_toArray, List.getElem?_cons_succ, List.getElem?_cons_zero, Option.some.injEq] at ho; subst ho; go_simp; with_reducible rfl) (by assumption) ?_
        try simp only [Act.put, List.setIfInBounds_toArray, List.set_cons_zero, List.set_cons_succ]
        refine rg_take 7 (some 75) _ (by kernel_rfl) (by kernel_rfl) (by kernel_rfl) (fun _ _ _ h => h) (by kernel_rfl) (by kernel_rfl) (by intro w' hSw op_ ho; obtain ⟨y2, z0, z1, v0, v1, o0, o1⟩ := PRnd.cells hSw; simp only [List.getElem?_toArray, List.getElem?_cons_succ, List.getElem?_cons_zero, Option.some.injEq] at ho; subst ho; go_simp; with_reducible rfl) (by assumption) ?_
        try simp only [Act.put, List.setIfInBounds_toArray, List.set_cons_zero, List.set_cons_succ]
        refine rg_take 8 (some 76) _ (by kernel_rfl) (by kernel_rfl) (by kernel_rfl) (fun _ _ _ h => h) (by kernel_rfl) (by kernel_rfl) (by intro w' hSw op_ ho; obtain ⟨y2, z0, z1, v0, v1, o0, o1⟩ := PRnd.cells hSw; simp only [List.getElem?_toArray, List.getElem?_cons_succ, List.getElem?_cons_zero, Option.some.injEq] at ho; subst ho; go_simp; with_reducible rfl) (by assumption) ?_
        try simp only [Act.put, List.setIfInBounds_toArray, List.set_cons_zero, List.set_cons_succ]
        refine rg_take 9 (some 77) _ (by kernel_rfl) (by kernel_rfl) (by kernel_rfl) (fun _ _ _ h => h) (by kernel_rfl) (by kernel_rfl) (by intro w' hSw op_ ho; obtain ⟨y2, z0, z1, v0, v1, o0, o1⟩ := PRnd.cells hSw; simp only [List.getElem?_toArray, List.getElem?_cons_succ, List.getElem?_cons_zero, Option.some.injEq] at ho; subst ho; go_simp; with_reducible rfl) (by assumption) ?_
        try simp only [Act.put, List.setIfInBounds_toArray, List.set_cons_zero, List.set_cons_succ]
        refine rg_take 10 (some 78) _ (by kernel_rfl) (by kernel_rfl) (by kernel_rfl) (fun _ _ _ h => h) (by kernel_rfl) (by kernel_rfl) (by intro w' hSw op_ ho; obtain ⟨y2, z0, z1, v0, v1, o0, o1⟩ := PRnd.cells hSw; simp only [List.getElem?_toArray, List.getElem?_cons_succ, List.getElem?_cons_zero, Option.some.injEq] at ho; subst ho; go_simp; with_reducible rfl) (by assumption) ?_
        try simp only [Act.put, List.setIfInBounds_toArray, List.set_cons_zero, List.set_cons_succ]
        refine rg_take 11 (some 79) _ (by kernel_rfl) (by kernel_rfl) (by kernel_rfl) (fun _ _ _ h => h) (by kernel_rfl) (by kernel_rfl) (by intro w' hSw op_ ho; obtain ⟨y2, z0, z1, v0, v1, o0, o1⟩ := PRnd.cells hSw; simp only [List.getElem?_toArray, List.getElem?_cons_succ, List.getElem?_cons_zero, Option.some.injEq] at ho; subst ho; go_simp; with_reducible rfl) (by assumption) ?_
        try simp only [Act.put, List.setIfInBounds_toArray, List.set_cons_zero, List.set_cons_succ]
        refine rg_take 12 (some 80) _ (by kernel_rfl) (by kernel_rfl) (by kernel_rfl) (fun _ _ _ h => h) (by kernel_rfl) (by kernel_rfl) (by intro w' hSw op_ ho; obtain ⟨y2, z0, z1, v0, v1, o0, o1⟩ := PRnd.cells hSw; simp only [List.getElem?_toArray, List.getElem?_cons_succ, List.getElem?_cons_zero, Option.some.injEq] at ho; subst ho; go_simp; with_reducible rfl) (by assumption) ?_
        try simp only [Act.put, List.setIfInBounds_toArray, List.set_cons_zero, List.set_cons_succ]
        refine rg_take 13 (some 81) _ (by kernel_rfl) (by kernel_rfl) (by kernel_rfl) (fun _ _ _ h => h) (by kernel_rfl) (by kernel_rfl) (by intro w' hSw op_ ho; obtain ⟨y2, z0, z1, v0, v1, o0, o1⟩ := PRnd.cells hSw; simp only [List.getElem?_toArray, List.getElem?_cons_succ, List.getElem?_cons_zero, Option.some.injEq] at ho; subst ho; go_simp; with_reducible rfl) (by assumption) ?_
        try simp only [Act.put, List.setIfInBounds_toArray, List.set_cons_zero, List.set_cons_succ]
        refine rg_take 14 (some 82) _ (by kernel_rfl) (by kernel_rfl) (by kernel_rfl) (fun _ _ _ h => h) (by kernel_rfl) (by kernel_rfl) (by intro w' hSw op_ ho; obtain ⟨y2, z0, z1, v0, v1, o0, o1⟩ := PRnd.cells hSw; simp only [List.getElem?_toArray, List.getElem?_cons_succ, List.getElem?_cons_zero, Option.some.injEq] at ho; subst ho; go_simp; with_reducible rfl) (by assumption) ?_
        try simp only [Act.put, List.setIfInBounds_toArray, List.set_cons_zero, List.set_cons_succ]
        refine rg_take 15 (some 83) _ (by kernel_rfl) (by kernel_rfl) (by kernel_rfl) (fun _ _ _ h => h) (by kernel_rfl) (by kernel_rfl) (by intro w' hSw op_ ho; obtain ⟨y2, z0, z1, v0, v1, o0, o1⟩ := PRnd.cells hSw; simp only [List.getElem?_toArray, List.getElem?_cons_succ, List.getElem?_cons_zero, Option.some.injEq] at ho; subst ho; go_simp; with_reducible rfl) (by assumption) ?_
        try simp only [Act.put, List.setIfInBounds_toArray, List.set_cons_zero, List.set_cons_succ]
        refine rg_take 16 (some 84) _ (by kernel_rfl) (by kernel_rfl) (by kernel_rfl) (fun _ _ _ h => h) (by kernel_rfl) (by kernel_rfl) (by intro w' hSw op_ ho; obtain ⟨y2, z0, z1, v0, v1, o0, o1⟩ := PRnd.cells hSw; simp only [List.getElem?_toArray, List.getElem?_cons_succ, List.getElem?_cons_zero, Option.some.injEq] at ho; subst ho; go_simp; with_reducible rfl) (by assumption) ?_
        try simp only [Act.put, List.setIfInBounds_toArray, List.set_cons_zero, List.set_cons_succ]
        refine rg_take 17 (some 85) _ (by kernel_rfl) (by kernel_rfl) (by kernel_rfl) (fun _ _ _ h => h) (by kernel_rfl) (by kernel_rfl) (by intro w' hSw op_ ho; obtain ⟨y2, z0, z1, v0, v1, o0, o1⟩ := PRnd.cells hSw; simp only [List.getElem?_toArray, List.getElem?_cons_succ, List.getElem?_cons_zero, Option.some.injEq] at ho; subst ho; go_simp; with_reducible rfl) (by assumption) ?_
        try simp only [Act.put, List.setIfInBounds_toArray, List.set_cons_zero, List.set_cons_succ]
        refine rg_take 18 (some 86) _ (by kernel_rfl) (by kernel_rfl) (by kernel_rfl) (fun _ _ _ h => h) (by kernel_rfl) (by kernel_rfl) (by intro w' hSw op_ ho; obtain ⟨y2, z0, z1, v0, v1, o0, o1⟩ := PRnd.cells hSw; simp only [List.getElem?_toArray, List.getElem?_cons_succ, List.getElem?_cons_zero, Option.some.injEq] at ho; subst ho; go_simp; with_reducible rfl) (by assumption) ?_
        try simp only [Act.put, List.setIfInBounds_toArray, List.set_cons_zero, List.set_cons_succ]
        refine rg_take 19 (some 87) _ (by kernel_rfl) (by kernel_rfl) (by kernel_rfl) (fun _ _ _ h => h) (by kernel_rfl) (by kernel_rfl) (by intro w' hSw op_ ho; obtain ⟨y2, z0, z1, v0, v1, o0, o1⟩ := PRnd.cells hSw; simp only [List.getElem?_toArray, List.getElem?_cons_succ, List.getElem?_cons_zero, Option.some.injEq] at ho; subst ho; go_simp; with_reducible rfl) (by assumption) ?_
        try simp only [Act.put, List.setIfInBounds_toArray, List.set_cons_zero, List.set_cons_succ]
        refine rg_take 20 (some 88) _ (by kernel_rfl) (by kernel_rfl) (by kernel_rfl) (fun _ _ _ h => h) (by kernel_rfl) (by kernel_rfl) (by intro w' hSw op_ ho; obtain ⟨y2, z0, z1, v0, v1, o0, o1⟩ := PRnd.cells hSw; simp only [List.getElem?_toArray, List.getElem?_cons_succ, List.getElem?_cons_zero, Option.some.injEq] at ho; subst ho; go_simp; with_reducible rfl) (by assumption) ?_
        try simp only [Act.put, List.setIfInBounds_toArray, List.set_cons_zero, List.set_cons_succ]
        refine rg_take 21 (some 89) _ (by kernel_rfl) (by kernel_rfl) (by kernel_rfl) (fun _ _ _ h => h) (by kernel_rfl) (by kernel_rfl) (by intro w' hSw op_ ho; obtain ⟨y2, z0, z1, v0, v1, o0, o1⟩ := PRnd.cells hSw; simp only [List.getElem?_toArray, List.getElem?_cons_succ, List.getElem?_cons_zero, Option.some.injEq] at ho; subst ho; go_simp; with_reducible rfl) (by assumption) ?_
        try simp only [Act.put, List.setIfInBounds_toArray, List.set_cons_zero, List.set_cons_succ]
        refine rg_take 22 (some 90) _ (by kernel_rfl) (by kernel_rfl) (by kernel_rfl) (fun _ _ _ h => h) (by kernel_rfl) (by kernel_rfl) (by intro w' hSw op_ ho; obtain ⟨y2, z0, z1, v0, v1, o0, o1⟩ := PRnd.cells hSw; simp only [List.getElem?_toArray, List.getElem?_cons_succ, List.getElem?_cons_zero, Option.some.injEq] at ho; subst ho; go_simp; with_reducible rfl) (by assumption) ?_
        try simp only [Act.put, List.setIfInBounds_toArray, List.set_cons_zero, List.set_cons_succ]
        refine rg_take 23 (some 91) _ (by kernel_rfl) (by kernel_rfl) (by kernel_rfl) (fun _ _ _ h => h) (by kernel_rfl) (by kernel_rfl) (by intro w' hSw op_ ho; obtain ⟨y2, z0, z1, v0, v1, o0, o1⟩ := PRnd.cells hSw; simp only [List.getElem?_toArray, List.getElem?_cons_succ, List.getElem?_cons_zero, Option.some.injEq] at ho; subst ho; go_simp; with_reducible rfl) (by assumption) ?_
        try simp only [Act.put, List.setIfInBounds_toArray, List.set_cons_zero, List.set_cons_succ]
        refine rg_take 24 (some 92) _ (by kernel_rfl) (by kernel_rfl) (by kernel_rfl) (fun _ _ _ h => h) (by kernel_rfl) (by kernel_rfl) (by intro w' hSw op_ ho; obtain ⟨y2, z0, z1, v0, v1, o0, o1⟩ := PRnd.cells hSw; simp only [List.getElem?_toArray, List.getElem?_cons_succ, List.getElem?_cons_zero, Option.some.injEq] at ho; subst ho; go_simp; with_reducible rfl) (by assumption) ?_
        try simp only [Act.put, List.setIfInBounds_toArray, List.set_cons_zero, List.set_cons_succ]
        refine rg_take 26 (some 94) _ (by kernel_rfl) (by kernel_rfl) (by kernel_rfl) (fun _ _ _ h => h) (by kernel_rfl) (by kernel_rfl) (by intro w' hSw op_ ho; obtain ⟨y2, z0, z1, v0, v1, o0, o1⟩ := PRnd.cells hSw; simp only [List.getElem?_toArray, List.getElem?_cons_succ, List.getElem?_cons_zero, Option.some.injEq] at ho; subst ho; go_simp; with_reducible rfl) (by assumption) ?_
        try simp only [Act.put, List.setIfInBounds_toArray, List.set_cons_zero, List.set_cons_succ]
        refine rg_one 25 (by kernel_rfl) (by kernel_rfl) (fun op_ ho K hK => ?_)
        simp only [List.getElem?_toArray, List.getElem?_cons_succ, List.getElem?_cons_zero, Option.some.injEq] at ho
        subst ho
        go_simp
        go_at_call 7
        refine (HOF.out _ (by assumption)).mono ?_
        rintro e wb ⟨rfl, rb⟩
        go_wp2_with fail
        refine hK.out _ _ (by assumption) (fun hHeld => ?_)
        clear hK
        try simp only [Act.put, List.setIfInBounds_toArray, List.set_cons_zero, List.set_cons_succ]
        refine rg_take 27 (some 95) _ (by kernel_rfl) (by kernel_rfl) (by kernel_rfl) (fun _ _ _ h => h) (by kernel_rfl) (by kernel_rfl) (by intro w' hSw op_ ho; obtain ⟨y2, z0, z1, v0, v1, o0, o1⟩ := PRnd.cells hSw; simp only [List.getElem?_toArray, List.getElem?_cons_succ, List.getElem?_cons_zero, Option.some.injEq] at ho; subst ho; go_simp; with_reducible rfl) (by assumption) ?_
        try simp only [Act.put, List.setIfInBounds_toArray, List.set_cons_zero, List.set_cons_succ]
        refine rg_take 28 (some 96) _ (by kernel_rfl) (by kernel_rfl) (by kernel_rfl) (fun _ _ _ h => h) (by kernel_rfl) (by kernel_rfl) (by intro w' hSw op_ ho; obtain ⟨y2, z0, z1, v0, v1, o0, o1⟩ := PRnd.cells hSw; simp only [List.getElem?_toArray, List.getElem?_cons_succ, List.getElem?_cons_zero, Option.some.injEq] at ho; subst ho; go_simp; with_reducible rfl) (by assumption) ?_
        try simp only [Act.put, List.setIfInBounds_toArray, List.set_cons_zero, List.set_cons_succ]
        refine rg_take 29 (some 97) _ (by kernel_rfl) (by kernel_rfl) (by kernel_rfl) (fun _ _ _ h => h) (by kernel_rfl) (by kernel_rfl) (by intro w' hSw op_ ho; obtain ⟨y2, z0, z1, v0, v1, o0, o1⟩ := PRnd.cells hSw; simp only [List.getElem?_toArray, List.getElem?_cons_succ, List.getElem?_cons_zero, Option.some.injEq] at ho; subst ho; go_simp; with_reducible rfl) (by assumption) ?_
        try simp only [Act.put, List.setIfInBounds_toArray, List.set_cons_zero, List.set_cons_succ]
        refine rg_take 30 (some 98) _ (by kernel_rfl) (by kernel_rfl) (by kernel_rfl) (fun _ _ _ h => h) (by kernel_rfl) (by kernel_rfl) (by intro w' hSw op_ ho; obtain ⟨y2, z0, z1, v0, v1, o0, o1⟩ := PRnd.cells hSw; simp only [List.getElem?_toArray, List.getElem?_cons_succ, List.getElem?_cons_zero, Option.some.injEq] at ho; subst ho; go_simp; with_reducible rfl) (by assumption) ?_
        try simp only [Act.put, List.setIfInBounds_toArray, List.set_cons_zero, List.set_cons_succ]
        refine wpAnyH_done (by kernel_rfl) ?_ _
        have HE := Lib.hid hHeld
        clear hHeld
        go_wp2_with fail
        go_roundw
        case rel => exact ⟨j + 1, P2, ret_v HT2.out.symm, ret_v (by omega), by omega, by omega, by have := HL2.out; omega, HE.out.pu⟩
        case measure => simp [intOf]; omega
    · as_aux_lemma =>
      go_upto_region 6 with fail
      go_cut [24] (fun cc wx => cc = .bool false ∧ wr = wx)
      case first =>
        by_cases h1 : j < n
        · have j1 : (j : Int) < (n : Int) := by omega
          have j2 : decide ((j : Int) < 80) = false := decide_eq_false (by omega)
          go_wp2_with fail
          go_meet
          exact ⟨rfl, rfl⟩
        · have j1 : ¬ (j : Int) < (n : Int) := by omega
          go_wp2_with fail
          go_meet
          exact ⟨rfl, rfl⟩
      case rest =>
      obtain ⟨rfl, rfl⟩ := hcut
      clear hlt HA HG HN hl hjn
      go_wp2_with fail
      refine (owners_c q b P _ HK.out.book (by omega)).mono ?_
      have hall := sumTo_all HK.out.book.solid
      have hlen := keysUp_len P
      have HKB : Hid (∀ y, y ∈ keysUp P → -9223372036854775808 ≤ y ∧ y ≤ 9223372036854775807) := Lib.hid fun y hy => by
        obtain ⟨v, hv⟩ := Option.isSome_iff_exists.1 (mem_keysUp.1 hy)
        exact HK.out.book.map.keys Tryd.underlying3 hv
      obtain ⟨L, hL⟩ : ∃ L, keysUp P = L := ⟨_, rfl⟩
      obtain ⟨T, hT⟩ : ∃ T, wealth P = T := ⟨_, rfl⟩
      rw [hL, hT] at hall
      rw [hL] at hlen HKB ⊢
      have bT1 : T ≤ 1125899906842624 := by rw [← hT]; exact HK.out.book.solid.most
      have HSO := Lib.hid HK.out.book.solid
      have hll : L.length ≤ 160 := by omega
      rw [hT]
      clear hL hT hlen
      rintro e w3 ⟨v3, rfl, ho, b3⟩
      have hri := ho.ri
      obtain ⟨ad, c3, rfl, _⟩ := ho.ri
      have HO : Hid (ORel w w3 q b P ad c3 L) := Lib.hid ⟨HK.out.on b3, hri⟩
      obtain ⟨l, hl⟩ : ∃ l, L.length = l := ⟨_, rfl⟩
      have HALL := Lib.hid hall; have HL := Lib.hid hl
      rw [hl] at hll
      rw [hl]
      clear hri ho b3 HK hall hl
      go_wp2_with fail
      go_loopw [12, 13] (fun S I wq => ∃ k : Nat, S = .int .i64 (sumTo P L k) ∧ I = .int .i64 (k : Int) ∧ k ≤ l ∧ ORel w wq q b P ad c3 L) (fun _ I _ => l - (intOf I).toNat)
      case atStart => exact ⟨0, rfl, rfl, by omega, HO.out⟩
      case round =>
        obtain ⟨k, rfl, rfl, hk, hO⟩ := hrel
        clear HO
        have HO := Lib.hid hO
        clear hO
        by_cases hkl : k < l
        · have j0 : (0 : Int) ≤ (k : Int) := by omega
          have j1 : (k : Int) < (l : Int) := by omega
          obtain ⟨y, hy⟩ : ∃ y, L[k]? = some y := ⟨_, List.getElem?_eq_getElem (l := L) (i := k) (by rw [HL.out]; exact hkl)⟩
          have hyb := HKB.out y (List.mem_of_getElem? hy)
          have hst := sumTo_step P hy
          have hs1 := sumTo_nonneg HSO.out L k
          have hs2 := sumTo_le HSO.out L (k + 1)
          rw [HL.out, ← HL.out, HALL.out] at hs2
          have hf := HSO.out.free y; have hg := HSO.out.held y
          obtain ⟨a, rfl⟩ : ∃ a, ad = some a := by
            obtain ⟨_, _, e, kk⟩ := HO.out.row
            cases e
            obtain ⟨a, e, _⟩ := kk k y hy
            exact ⟨a, e⟩
          have HSS : Hid (∀ W, ORel w W q b P (some a) c3 L → W.cell? (a.add k) = some (.int .i64 y)) := Lib.hid fun W h => by
            obtain ⟨_, _, e, kk⟩ := h.row
            cases e
            obtain ⟨_, e, kk⟩ := kk k y hy
            cases e
            exact kk
          obtain ⟨⟨f, g⟩, hfg⟩ : ∃ p, purse P y = p := ⟨_, rfl⟩
          rw [hfg] at hst hf hg
          have HOF : Hid (∀ W, ORel w W q b P (some a) c3 L → Calls Tryd.prog 7 #[.pointer (some ⟨q, 0, none⟩), .int .i64 y] W fun e w' => e = .returned (.agg #[.int .i64 f, .int .i64 g]) ∧ ORel w w' q b P (some a) c3 L) := Lib.hid fun W h =>
            (of_c q b P y W h.pu.book hyb.1 hyb.2).mono fun _ _ k => by rw [hfg] at k; exact ⟨k.1, h.on k.2⟩
          have HST := Lib.hid hst
          obtain ⟨S0, hS0⟩ : ∃ S0, sumTo P L k = S0 := ⟨_, rfl⟩
          rw [hS0] at hs1 hst ⊢
          simp only at hst hf hg
          have w1 : IntKind.i64.wrap (S0 + f) = S0 + f := IntWalk.i64_in _ (by omega)
          have w2 : IntKind.i64.wrap (S0 + f + g) = S0 + f + g := IntWalk.i64_in _ (by omega)
          have HS0 := Lib.hid hS0
          have hF0 := fieldP0; have hF1 := fieldP1
          clear hy hyb hs1 hs2 hf hg hfg hst hS0 HKB HALL HL
          go_wp2_with fail
          go_region_held3 (fun W => W.cell? (a.add k) = some (.int .i64 y))
            (first | (exact HSS.out _ (HO.out.on (below_drewN (Below.refl _ _) 1))) | (exact HSS.out _ (HO.out.on ((Below.refl _ _).drew))) | (refine HSS.out _ ?_; assumption))
            (first
              | (go_at_call 7; (with_reducible refine (HOF.out _ (by first | assumption | exact HO.out.on ((Below.refl _ _).drew))).mono ?_); rintro e w5 ⟨rfl, k5⟩))
          all_goals go_wp2_with fail
          refine ⟨⟨k + 1, ret_v ?_, ret_v (by omega), by omega, by assumption⟩, by simp [intOf]; omega⟩
          have h1 := HST.out
          rw [HS0.out] at h1
          exact h1.symm
        · have hkk : k = l := by omega
          have j1 : ¬ (k : Int) < (l : Int) := by omega
          have hST : sumTo P L k = T := by rw [hkk, ← HL.out]; exact HALL.out
          have hTT : (T == T) = true := by simp
          rw [hST]
          clear hST HALL HL hkk
          go_wp2_with fail
          go_ret
          exact ⟨rfl, HO.out.pu.below⟩
end Go.Proofs.YtgioinjcgeepoaaDoor
