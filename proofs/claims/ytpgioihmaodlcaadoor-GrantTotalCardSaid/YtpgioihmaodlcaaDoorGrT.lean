/- The walk of the law GrantTotal: whatever the arguments, it returns true. Condition: the sentinels lie where the program's text lays them. -/
import Derived.Test.YtpgioihmaodlcaaDoorGrN
import Derived.Test.YtpgioihmaodlcaaDoorRgo
import Derived.Deep.DeepCutAuto
import Derived.Deep.CutBlock
namespace Go.Proofs.YtpgioihmaodlcaaDoor
open Go Go.RowKit Go.Maps Go.Sort

/-- Between the operations that look at the account behind a deed. -/
structure RS (w0 : World) (Pp I0 q b : Nat) (p : V4) (T : Grs) (v : V4) (U : Nat) (x : GActD) (V : Nat) (y : Acc) (W : World) : Prop where
  tr : TR w0 Pp I0 q b p T v W
  act : GActBlk W U x
  was : AcB W V y
theorem RS.on {w0 W W' : World} {Pp I0 q b U V : Nat} {p v : V4} {T : Grs} {x : GActD} {y : Acc} (h : RS w0 Pp I0 q b p T v U x V y W) (hb : Below W.heap.size W W') : RS w0 Pp I0 q b p T v U x V y W' := ⟨h.tr.on hb, GActBlk.on hb h.act, h.was.on hb⟩
theorem RS.drew {w0 W : World} {Pp I0 q b U V : Nat} {p v : V4} {T : Grs} {x : GActD} {y : Acc} (h : RS w0 Pp I0 q b p T v U x V y W) : RS w0 Pp I0 q b p T v U x V y W.drew := h.on (Below.drew (Below.refl _ _))

/-- The second loop's state: the book, what the first k keys have, the row of keys. -/
structure OR (w0 : World) (Pp I0 q b : Nat) (p : V4) (T : Grs) (M B : Nat) (A : Option Addr) (l c : Nat) (L : List V4) (k : Nat) (W : World) : Prop where
  tr : TR w0 Pp I0 q b p T (issV T p) W
  sum : Vb W M (upV T p L k)
  row : VOwn 31 W B (.slice A l c) L
  nb : M ≠ b
  nI : M ≠ I0
  nP : M ≠ Pp
  nq : M ≠ q
  low : w0.heap.size ≤ M
  lt : M < B
section
variable {w0 W W' : World} {Pp I0 q b M B l c k : Nat} {p : V4} {T : Grs} {A : Option Addr} {L : List V4}
theorem OR.on (h : OR w0 Pp I0 q b p T M B A l c L k W) (hb : Below W.heap.size W W') : OR w0 Pp I0 q b p T M B A l c L k W' := ⟨h.tr.on hb, h.sum.below hb (lt_of_row h.sum), h.row.on hb, h.nb, h.nI, h.nP, h.nq, h.low, h.lt⟩
theorem OR.drew (h : OR w0 Pp I0 q b p T M B A l c L k W) : OR w0 Pp I0 q b p T M B A l c L k W.drew := h.on (Below.drew (Below.refl _ _))
theorem OR.next (h : OR w0 Pp I0 q b p T M B A l c L k W) (e : upV T p L (k + 1) = upV T p L k) : OR w0 Pp I0 q b p T M B A l c L (k + 1) W := ⟨h.tr, by rw [e]; exact h.sum, h.row, h.nb, h.nI, h.nP, h.nq, h.low, h.lt⟩
theorem OR.put (h : OR w0 Pp I0 q b p T M B A l c L k W) {v : V4} (e : upV T p L (k + 1) = v) : OR w0 Pp I0 q b p T M B A l c L (k + 1) ((((W.setCell ⟨M, 0, none⟩ (.int .i64 v.a)).setCell ⟨M, 1, none⟩ (.int .i64 v.b)).setCell ⟨M, 2, none⟩ (.int .i64 v.c)).setCell ⟨M, 3, none⟩ (.int .i64 v.d)) := by
  have hg := chg_set4 W M v.a v.b v.c v.d
  have t := h.tr
  refine ⟨⟨⟨⟨hg.row t.ga.book.box (fun e => h.nq e.symm) (fun e => h.nq e.symm), t.ga.book.map.same (hg.block b t.ga.book.map.lt (fun e => h.nb e.symm) (fun e => h.nb e.symm)), t.ga.book.solid⟩, t.ga.below.trans (hg.below h.low h.low t.ga.below.size), t.ga.lowq, t.ga.lowb⟩,
    t.pl.chg hg (fun e => h.nP e.symm) (fun e => h.nP e.symm), hg.row t.iv (fun e => h.nI e.symm) (fun e => h.nI e.symm), t.nP, t.nI, t.qI, t.pI, t.low⟩, by rw [e]; exact h.sum.set4 _ _ _ _, h.row.same fun j hj => ?_, h.nb, h.nI, h.nP, h.nq, h.low, h.lt⟩
  have h1 := h.row.lt j hj
  have h2 := h.lt
  exact hg.block j h1.2 (by omega) (by omega)
theorem OR.addr (h : OR w0 Pp I0 q b p T M B A l c L k W) (hk : k < L.length) : ∃ a, A = some a := by
  obtain ⟨A', c', e⟩ := h.row.form
  have hr := h.row
  rw [e] at hr
  obtain ⟨a, ea, _⟩ := hr.vrow (by omega)
  cases e
  exact ⟨a, ea⟩
theorem OR.at_ {a : Addr} (h : OR w0 Pp I0 q b p T M B (some a) l c L k W) {i : Nat} {y : V4} (hy : L[i]? = some y) : W.cell? (a.add (i * 4)) = some (.int .i64 y.a) ∧ W.cell? ⟨(a.add (i * 4)).block, (a.add (i * 4)).off + 1, none⟩ = some (.int .i64 y.b) ∧ W.cell? ⟨(a.add (i * 4)).block, (a.add (i * 4)).off + 2, none⟩ = some (.int .i64 y.c) ∧ W.cell? ⟨(a.add (i * 4)).block, (a.add (i * 4)).off + 3, none⟩ = some (.int .i64 y.d) := by
  obtain ⟨A', c', e⟩ := h.row.form
  have hr := h.row
  rw [e] at hr
  obtain ⟨a', ea, _, hc⟩ := hr.vrow (by have := (List.getElem?_eq_some_iff.1 hy).1; omega)
  cases e
  cases ea
  exact hc i y hy
end

/-- .. and an account in a block of its own. -/
structure OS (w0 : World) (Pp I0 q b : Nat) (p : V4) (T : Grs) (M B : Nat) (A : Option Addr) (l c : Nat) (L : List V4) (k Z : Nat) (z : Acc) (W : World) : Prop where
  or : OR w0 Pp I0 q b p T M B A l c L k W
  acc : AcB W Z z
theorem OS.on {w0 W W' : World} {Pp I0 q b M B l c k Z : Nat} {p : V4} {T : Grs} {A : Option Addr} {L : List V4} {z : Acc} (h : OS w0 Pp I0 q b p T M B A l c L k Z z W) (hb : Below W.heap.size W W') : OS w0 Pp I0 q b p T M B A l c L k Z z W' := ⟨h.or.on hb, h.acc.on hb⟩

set_option maxHeartbeats 6400000 in
set_option maxRecDepth 100000 in
theorem gtotal_any (s : Nat → Addr) (A : Option Addr) (c : Nat) (xs : List GActD) (p : V4) (w : World) (hs : Sent s w) (hA : GActRow w w.heap.size A xs) (hG : ∀ x ∈ xs, GoodGAct x) (hl : xs.length ≤ 9223372036854775807) :
    Calls Tryd.prog 3 #[.slice A xs.length c, .agg #[.int .i64 p.b, .int .i64 p.c, .int .i64 p.d]] w fun e w' => e = .returned (.bool true) ∧ Below w.heap.size w w' := by
  have HS := Lib.hid hs; have HA := Lib.hid hA; have HG := Lib.hid hG
  obtain ⟨n, hn⟩ : ∃ n, xs.length = n := ⟨_, rfl⟩
  have HN := Lib.hid hn
  rw [hn] at hl ⊢
  clear hs hA hG hn
  go_enter Tryd.func3, Tryd.ntmps3
  go_wp2_with fail
  have HB0 : Hid (Below w.heap.size w (w.alloc (.cells #[.int .i64 p.b, .int .i64 p.c, .int .i64 p.d] 24))) := Lib.hid ((Below.refl _ w).alloc (Nat.le_refl _) _)
  refine (awake_c s _ (HS.out.below HB0.out (Nat.le_refl _))).mono ?_
  rintro e w1 ⟨rfl, b1⟩
  have HB1 := Lib.hid (HB0.out.trans (b1.mono HB0.out.size))
  obtain ⟨Pp, hPp⟩ : ∃ Pp, w.heap.size = Pp := ⟨_, rfl⟩
  have HP1 : Hid (PlB w1 Pp p) := Lib.hid (by rw [← hPp]; exact (PlB.new w p).on b1)
  have HPS : Hid (Pp < w1.heap.size) := Lib.hid HP1.out.lt
  have HPP := Lib.hid hPp
  rw [hPp]
  clear b1 hPp HB0
  go_wp2_with fail
  refine (gnew_c _).mono ?_
  rintro e w2 ⟨q, b, rfl, t2, b2, lb, lq⟩
  obtain ⟨I0, hI0⟩ : ∃ I0, w2.heap.size = I0 := ⟨_, rfl⟩
  have HST : Hid (TRel w Pp I0 q b p n (.int .i64 0) (w2.alloc (.cells #[.int .i64 0, .int .i64 0, .int .i64 0, .int .i64 0] 29))) := Lib.hid
    ⟨0, [], rfl, by omega, by omega, by simp, TR.start HB1.out HP1.out t2 b2 lb lq hI0⟩
  clear t2 b2 lb lq HB1 HP1 HPS
  go_wp2_with fail
  clear hI0
  go_loopw [7] (fun I wr => TRel w Pp I0 q b p n I wr) (fun I _ => n - (intOf I).toNat)
  case atStart => exact HST.out
  case round =>
    clear HST
    obtain ⟨j, T, rfl, hjn, hj60, hT, hK⟩ := hrel
    have HK := Lib.hid hK
    clear hK
    by_cases hlt : j < n ∧ j < 60
    · obtain ⟨hlt, h60⟩ := hlt
      have j0 : (0 : Int) ≤ (j : Int) := by omega
      have j1 : (j : Int) < (n : Int) := by omega
      have j2 : decide ((j : Int) < 60) = true := decide_eq_true (by omega)
      obtain ⟨x, hx⟩ : ∃ x, xs[j]? = some x := ⟨_, List.getElem?_eq_getElem (l := xs) (i := j) (by rw [HN.out]; exact hlt)⟩
      have HGX : Hid (GoodGAct x) := Lib.hid (HG.out x (List.mem_of_getElem? hx))
      obtain ⟨ad, rfl, c0, c1, c2, c3, c4, c5, c6, c7, c8, c9⟩ := HA.out.cells HK.out.ga.below hx
      clear hx
      go_upto_if 37 with fail
      obtain ⟨U, hU⟩ : ∃ U, wr.heap.size = U := ⟨_, rfl⟩
      obtain ⟨W1, hW1⟩ : ∃ W1, wr.alloc (.cells #[.int .i64 x.kind, .int .i64 x.key.a, .int .i64 x.key.b, .int .i64 x.key.c, .int .i64 x.key.d, .int .i64 x.dst, .int .i64 x.amt.a, .int .i64 x.amt.b, .int .i64 x.amt.c, .int .i64 x.amt.d] 33) = W1 := ⟨_, rfl⟩
      have HK1 : Hid (TR w Pp I0 q b p T (issV T p) W1) := Lib.hid (by rw [← hW1]; exact HK.out.alloc _)
      have HA1 : Hid (GActBlk W1 U x) := Lib.hid (by rw [← hW1, ← hU]; exact GActBlk.new wr x)
      have HNU : Hid (U ≠ b ∧ U ≠ I0) := Lib.hid (by have h1 := HK.out.ga.book.map.lt; have h2 := lt_of_row HK.out.iv; omega)
      rw [hW1, hU]
      clear hW1 hU c0 c1 c2 c3 c4 c5 c6 c7 c8 c9 HK
      go_cut [] (fun wx => TMid w Pp I0 q b p j U x wx)
      case first =>
        by_cases k9 : x.kind = 9
        · as_aux_lemma =>
          have q9 : (x.kind == 9) = true := by rw [k9]; rfl
          obtain ⟨a0, a1, a2, a3, a4, a5, a6, a7, a8, a9, al⟩ := HA1.out.cells
          clear k9
          go_wp2_with fail
          refine (expire_c q b T x.dst _ HK1.out.ga.book (by omega)).mono ?_
          rintro e w3 ⟨vk, L, rfl, hin, t3, g3⟩
          have HK3 := Lib.hid (HK1.out.chg t3 g3)
          have HA3 : Hid (GActBlk w3 U x) := Lib.hid (HA1.out.kept g3 HNU.out.1 HNU.out.1)
          have he := issV_exp HK1.out.ga.book.solid (w := x.dst) hin p
          have HLE : Hid ((expT x.dst T L).length ≤ 2 * (j + 1)) := Lib.hid (by have := expT_len x.dst T L; omega)
          clear hin t3 g3 a0 a1 a2 a3 a4 a5 a6 a7 a8 a9 al HA1
          obtain ⟨T2, hT2⟩ : ∃ T2, expT x.dst T L = T2 := ⟨_, rfl⟩
          rw [hT2] at HK3 he HLE
          clear hT2 HK1
          by_cases hd : p.d < x.dst
          · rw [if_pos hd] at he
            have HE := Lib.hid he
            have hdd : decide (p.d < x.dst) = true := decide_eq_true hd
            clear he hd
            obtain ⟨a0, a1, a2, a3, a4, a5, a6, a7, a8, a9, al⟩ := HA3.out.cells
            obtain ⟨p0, p1, p2⟩ := HK3.out.pl.cells
            obtain ⟨i0, i1, i2, i3, if0, il⟩ := HK3.out.iv.facts
            go_wp2_with fail
            go_meet
            exact ⟨T2, HLE.out, by rw [HE.out]; exact HK3.out.put z4, (HA3.out.kept (chg_set4 _ I0 0 0 0 0) HNU.out.2 HNU.out.2), HNU.out.1, HNU.out.2⟩
          · rw [if_neg hd] at he
            have HE := Lib.hid he
            have hdd : decide (p.d < x.dst) = false := decide_eq_false hd
            clear he hd
            obtain ⟨a0, a1, a2, a3, a4, a5, a6, a7, a8, a9, al⟩ := HA3.out.cells
            obtain ⟨p0, p1, p2⟩ := HK3.out.pl.cells
            go_wp2_with fail
            go_meet
            exact ⟨T2, HLE.out, by rw [HE.out]; exact HK3.out, HA3.out, HNU.out.1, HNU.out.2⟩
        · have q9 : (x.kind == 9) = false := by rw [beq_eq_false_iff_ne]; exact k9
          clear k9
          obtain ⟨a0, a1, a2, a3, a4, a5, a6, a7, a8, a9, al⟩ := HA1.out.cells
          go_wp2_with fail
          refine (of_c q b T x.key _ HK1.out.ga.book HGX.out.2.1).mono ?_
          obtain ⟨v, hv⟩ : ∃ v, acc T x.key = v := ⟨_, rfl⟩
          have HV := Lib.hid hv
          rw [hv]; clear hv
          rintro e w3 ⟨rfl, b3⟩
          have HK3 := Lib.hid (HK1.out.on b3)
          have HA3 : Hid (GActBlk w3 U x) := Lib.hid (GActBlk.on b3 HA1.out)
          clear b3 HK1 HA1 a0 a1 a2 a3 a4 a5 a6 a7 a8 a9 al
          obtain ⟨a0, a1, a2, a3, a4, a5, a6, a7, a8, a9, al⟩ := HA3.out.cells
          go_wp2_with fail
          obtain ⟨V, hV⟩ : ∃ V, w3.heap.size = V := ⟨_, rfl⟩
          obtain ⟨W4, hW4⟩ : ∃ W4, w3.alloc (.cells #[.int .i64 v.f.a, .int .i64 v.f.b, .int .i64 v.f.c, .int .i64 v.f.d, .int .i64 v.c.a, .int .i64 v.c.b, .int .i64 v.c.c, .int .i64 v.c.d, .int .i64 v.h.a, .int .i64 v.h.b, .int .i64 v.h.c, .int .i64 v.h.d] 37) = W4 := ⟨_, rfl⟩
          have HK4 : Hid (TR w Pp I0 q b p T (issV T p) W4) := Lib.hid (by rw [← hW4]; exact HK3.out.alloc _)
          have HA4 : Hid (GActBlk W4 U x) := Lib.hid (by rw [← hW4]; exact HA3.out.alloc _)
          have HV4 : Hid (AcB W4 V v) := Lib.hid (by rw [← hW4, ← hV]; exact AcB.new w3 v)
          have HNV : Hid (V ≠ b ∧ V ≠ I0) := Lib.hid (by have h1 := HK3.out.ga.book.map.lt; have h2 := lt_of_row HK3.out.iv; omega)
          rw [hW4, hV]
          clear hW4 hV a0 a1 a2 a3 a4 a5 a6 a7 a8 a9 al HK3 HA3
          refine (do_c s q b T x _ (HK4.out.ga.sent HS.out) (HK4.out.ga.nots HS.out) HK4.out.ga.book HGX.out (by omega)).mono ?_
          obtain ⟨m, hm⟩ : ∃ m, deedErr T x.kind x.key x.amt = m := ⟨_, rfl⟩
          obtain ⟨T2, hT2⟩ : ∃ T2, deed T x.kind x.key x.dst x.amt = T2 := ⟨_, rfl⟩
          have HMB : Hid (m ≠ 0 → T2 = T) := Lib.hid fun h => by rw [← hT2]; exact deed_bad x.dst (by rw [hm]; exact h)
          have HM := Lib.hid hm; have HT2 := Lib.hid hT2
          have HL2 : Hid (T2.length ≤ 2 * (j + 1)) := Lib.hid (by have := deed_len T x.kind x.key x.dst x.amt; rw [hT2] at this; omega)
          have HSO := Lib.hid HK4.out.ga.book.solid
          rw [hm, hT2]
          clear hm hT2
          rintro e w5 ⟨rfl, t5, g5⟩
          have HK5 := Lib.hid (HK4.out.chg t5 g5)
          have HA5 : Hid (GActBlk w5 U x) := Lib.hid (HA4.out.kept g5 HNU.out.1 HNU.out.1)
          have HV5 := Lib.hid (HV4.out.chg g5 HNV.out.1 HNV.out.1)
          clear t5 g5 HK4 HA4 HV4
          obtain ⟨a0, a1, a2, a3, a4, a5, a6, a7, a8, a9, al⟩ := HA5.out.cells
          obtain ⟨p0, p1, p2⟩ := HK5.out.pl.cells
          by_cases hm0 : m = 0
          · subst hm0
            rw [errV_zero]
            by_cases sp : sameP x.key p = true
            · have hE := fun W => (eqPl x.key.b x.key.c x.key.d p.b p.c p.d W).trans (by rw [decide_eq_true (sameP_iff.1 sp)])
              by_cases k1 : x.kind = 1
              · as_aux_lemma =>
                have q1 : (x.kind == 1) = true := by rw [k1]; rfl
                have q2 : (x.kind == 2) = false := by rw [k1]; rfl
                have hds := HM.out; have hd2 := HT2.out
                rw [k1] at hds hd2
                have hI := issV_give HSO.out x.key x.dst x.amt p hds sp
                rw [hd2] at hI
                have HG1 := Lib.hid (goodIss HSO.out p)
                have HG2 := Lib.hid (deed_good hds)
                have HI := Lib.hid hI
                clear hds hd2 hI k1 sp
                obtain ⟨i0, i1, i2, i3, if0, il⟩ := HK5.out.iv.facts
                go_wp2_with fail
                clear i0 i1 i2 i3 if0 il
                refine (plusG (issV T p) x.amt _ HG1.out HG2.out).mono ?_
                rintro e w6 ⟨rfl, b6⟩
                have HK6 := Lib.hid (HK5.out.on b6)
                have HA6 : Hid (GActBlk w6 U x) := Lib.hid (GActBlk.on b6 HA5.out)
                clear b6 a0 a1 a2 a3 a4 a5 a6 a7 a8 a9 al p0 p1 p2 HK5 HA5 HV5
                obtain ⟨R, hR⟩ : ∃ R, pv (issV T p) x.amt = R := ⟨_, rfl⟩
                rw [hR]
                obtain ⟨i0, i1, i2, i3, if0, il⟩ := HK6.out.iv.facts
                go_upto_region 17 with fail
                obtain ⟨W7, hW7⟩ : ∃ W7, (((w6.setCell ⟨I0, 0, none⟩ (.int .i64 R.a)).setCell ⟨I0, 1, none⟩ (.int .i64 R.b)).setCell ⟨I0, 2, none⟩ (.int .i64 R.c)).setCell ⟨I0, 3, none⟩ (.int .i64 R.d) = W7 := ⟨_, rfl⟩
                have HK7 : Hid (TR w Pp I0 q b p T2 R W7) := Lib.hid (by rw [← hW7]; exact HK6.out.put R)
                have HA7 : Hid (GActBlk W7 U x) := Lib.hid (by rw [← hW7]; exact HA6.out.kept (chg_set4 _ I0 _ _ _ _) HNU.out.2 HNU.out.2)
                have HRR := Lib.hid hR
                rw [hW7]
                clear hR hW7 i0 i1 i2 i3 if0 il HK6 HA6
                obtain ⟨a0, a1, a2, a3, a4, a5, a6, a7, a8, a9, al⟩ := HA7.out.cells
                obtain ⟨p0, p1, p2⟩ := HK7.out.pl.cells
                go_wp2_with fail
                refine wp_region_held_drew (S := fun _ => True) (by kernel_rfl) trivial (fun _ => ?_)
                refine rg_take 0 (some 91) _ (by kernel_rfl) (by kernel_rfl) (by kernel_rfl) (fun _ _ _ h => h) (by kernel_rfl) (by kernel_rfl) (by intro w' hSw op_ ho; skip; simp only [List.getElem?_toArray, List.getElem?_cons_zero, Option.some.injEq] at ho; subst ho; go_simp; with_reducible rfl) (by assumption) ?_
                try simp only [Act.put, List.setIfInBounds_toArray, List.set_cons_zero, List.set_cons_succ]
                refine rg_take 1 (some 92) _ (by kernel_rfl) (by kernel_rfl) (by kernel_rfl) (fun _ _ _ h => h) (by kernel_rfl) (by kernel_rfl) (by intro w' hSw op_ ho; skip; simp only [List.getElem?_toArray, List.getElem?_cons_succ, List.getElem?_cons_zero, Option.some.injEq] at ho; subst ho; go_simp; with_reducible rfl) (by assumption) ?_
                try simp only [Act.put, List.setIfInBounds_toArray, List.set_cons_zero, List.set_cons_succ]
                refine rg_take 2 (some 93) _ (by kernel_rfl) (by kernel_rfl) (by kernel_rfl) (fun _ _ _ h => h) (by kernel_rfl) (by kernel_rfl) (by intro w' hSw op_ ho; skip; simp only [List.getElem?_toArray, List.getElem?_cons_succ, List.getElem?_cons_zero, Option.some.injEq] at ho; subst ho; go_simp; with_reducible rfl) (by assumption) ?_
                try simp only [Act.put, List.setIfInBounds_toArray, List.set_cons_zero, List.set_cons_succ]
                refine rg_skip 3 (some 94) (by kernel_rfl) (by kernel_rfl) (by kernel_rfl) (fun _ _ _ h => h) (by kernel_rfl) (by kernel_rfl) (by assumption) ?_
                try simp only [Act.put, List.setIfInBounds_toArray, List.set_cons_zero, List.set_cons_succ]
                refine rg_skip 4 (some 95) (by kernel_rfl) (by kernel_rfl) (by kernel_rfl) (fun _ _ _ h => h) (by kernel_rfl) (by kernel_rfl) (by assumption) ?_
                try simp only [Act.put, List.setIfInBounds_toArray, List.set_cons_zero, List.set_cons_succ]
                refine rg_skip 5 (some 96) (by kernel_rfl) (by kernel_rfl) (by kernel_rfl) (fun _ _ _ h => h) (by kernel_rfl) (by kernel_rfl) (by assumption) ?_
                try simp only [Act.put, List.setIfInBounds_toArray, List.set_cons_zero, List.set_cons_succ]
                refine rg_skip 6 (some 97) (by kernel_rfl) (by kernel_rfl) (by kernel_rfl) (fun _ _ _ h => h) (by kernel_rfl) (by kernel_rfl) (by assumption) ?_
                try simp only [Act.put, List.setIfInBounds_toArray, List.set_cons_zero, List.set_cons_succ]
                refine rg_skip 7 (some 98) (by kernel_rfl) (by kernel_rfl) (by kernel_rfl) (fun _ _ _ h => h) (by kernel_rfl) (by kernel_rfl) (by assumption) ?_
                try simp only [Act.put, List.setIfInBounds_toArray, List.set_cons_zero, List.set_cons_succ]
                refine rg_skip 8 (some 99) (by kernel_rfl) (by kernel_rfl) (by kernel_rfl) (fun _ _ _ h => h) (by kernel_rfl) (by kernel_rfl) (by assumption) ?_
                try simp only [Act.put, List.setIfInBounds_toArray, List.set_cons_zero, List.set_cons_succ]
                refine rg_take 9 (some 100) _ (by kernel_rfl) (by kernel_rfl) (by kernel_rfl) (fun _ _ _ h => h) (by kernel_rfl) (by kernel_rfl) (by intro w' hSw op_ ho; skip; simp only [List.getElem?_toArray, List.getElem?_cons_succ, List.getElem?_cons_zero, Option.some.injEq] at ho; subst ho; go_simp; with_reducible rfl) (by assumption) ?_
                try simp only [Act.put, List.setIfInBounds_toArray, List.set_cons_zero, List.set_cons_succ]
                refine wpAnyH_done (by kernel_rfl) ?_ _
                go_wp2_with fail
                go_meet
                exact ⟨T2, HL2.out, by rw [HI.out, HRR.out]; exact HK7.out.drew, HA7.out.drew, HNU.out.1, HNU.out.2⟩
              · by_cases k2 : x.kind = 2
                · as_aux_lemma =>
                  have q1 : (x.kind == 1) = false := by rw [k2]; rfl
                  have q2 : (x.kind == 2) = true := by rw [k2]; rfl
                  have hds := HM.out; have hd2 := HT2.out
                  rw [k2] at hds hd2
                  have hI := issV_take HSO.out x.key x.dst x.amt p hds sp
                  rw [hd2] at hI
                  have HG1 := Lib.hid (goodIss HSO.out p)
                  have HG2 := Lib.hid (deed_good hds)
                  have HI := Lib.hid hI
                  clear hds hd2 hI k1 k2 sp
                  obtain ⟨i0, i1, i2, i3, if0, il⟩ := HK5.out.iv.facts
                  go_wp2_with fail
                  clear i0 i1 i2 i3 if0 il
                  refine (minusG (issV T p) x.amt _ HG1.out HG2.out).mono ?_
                  rintro e w6 ⟨rfl, b6⟩
                  have HK6 := Lib.hid (HK5.out.on b6)
                  have HA6 : Hid (GActBlk w6 U x) := Lib.hid (GActBlk.on b6 HA5.out)
                  clear b6 a0 a1 a2 a3 a4 a5 a6 a7 a8 a9 al p0 p1 p2 HK5 HA5 HV5
                  obtain ⟨R, hR⟩ : ∃ R, mv (issV T p) x.amt = R := ⟨_, rfl⟩
                  rw [hR]
                  obtain ⟨i0, i1, i2, i3, if0, il⟩ := HK6.out.iv.facts
                  go_upto_region 19 with fail
                  obtain ⟨W7, hW7⟩ : ∃ W7, (((w6.setCell ⟨I0, 0, none⟩ (.int .i64 R.a)).setCell ⟨I0, 1, none⟩ (.int .i64 R.b)).setCell ⟨I0, 2, none⟩ (.int .i64 R.c)).setCell ⟨I0, 3, none⟩ (.int .i64 R.d) = W7 := ⟨_, rfl⟩
                  have HK7 : Hid (TR w Pp I0 q b p T2 R W7) := Lib.hid (by rw [← hW7]; exact HK6.out.put R)
                  have HA7 : Hid (GActBlk W7 U x) := Lib.hid (by rw [← hW7]; exact HA6.out.kept (chg_set4 _ I0 _ _ _ _) HNU.out.2 HNU.out.2)
                  have HRR := Lib.hid hR
                  rw [hW7]
                  clear hR hW7 i0 i1 i2 i3 if0 il HK6 HA6
                  obtain ⟨a0, a1, a2, a3, a4, a5, a6, a7, a8, a9, al⟩ := HA7.out.cells
                  obtain ⟨p0, p1, p2⟩ := HK7.out.pl.cells
                  refine wp_region_held_drew (S := fun _ => True) (by kernel_rfl) trivial (fun _ => ?_)
                  refine rg_take 0 (some 91) _ (by kernel_rfl) (by kernel_rfl) (by kernel_rfl) (fun _ _ _ h => h) (by kernel_rfl) (by kernel_rfl) (by intro w' hSw op_ ho; skip; simp only [List.getElem?_toArray, List.getElem?_cons_zero, Option.some.injEq] at ho; subst ho; go_simp; with_reducible rfl) (by assumption) ?_
                  try simp only [Act.put, List.setIfInBounds_toArray, List.set_cons_zero, List.set_cons_succ]
                  refine rg_take 1 (some 92) _ (by kernel_rfl) (by kernel_rfl) (by kernel_rfl) (fun _ _ _ h => h) (by kernel_rfl) (by kernel_rfl) (by intro w' hSw op_ ho; skip; simp only [List.getElem?_toArray, List.getElem?_cons_succ, List.getElem?_cons_zero, Option.some.injEq] at ho; subst ho; go_simp; with_reducible rfl) (by assumption) ?_
                  try simp only [Act.put, List.setIfInBounds_toArray, List.set_cons_zero, List.set_cons_succ]
                  refine rg_take 2 (some 93) _ (by kernel_rfl) (by kernel_rfl) (by kernel_rfl) (fun _ _ _ h => h) (by kernel_rfl) (by kernel_rfl) (by intro w' hSw op_ ho; skip; simp only [List.getElem?_toArray, List.getElem?_cons_succ, List.getElem?_cons_zero, Option.some.injEq] at ho; subst ho; go_simp; with_reducible rfl) (by assumption) ?_
                  try simp only [Act.put, List.setIfInBounds_toArray, List.set_cons_zero, List.set_cons_succ]
                  refine rg_skip 3 (some 94) (by kernel_rfl) (by kernel_rfl) (by kernel_rfl) (fun _ _ _ h => h) (by kernel_rfl) (by kernel_rfl) (by assumption) ?_
                  try simp only [Act.put, List.setIfInBounds_toArray, List.set_cons_zero, List.set_cons_succ]
                  refine rg_skip 4 (some 95) (by kernel_rfl) (by kernel_rfl) (by kernel_rfl) (fun _ _ _ h => h) (by kernel_rfl) (by kernel_rfl) (by assumption) ?_
                  try simp only [Act.put, List.setIfInBounds_toArray, List.set_cons_zero, List.set_cons_succ]
                  refine rg_skip 5 (some 96) (by kernel_rfl) (by kernel_rfl) (by kernel_rfl) (fun _ _ _ h => h) (by kernel_rfl) (by kernel_rfl) (by assumption) ?_
                  try simp only [Act.put, List.setIfInBounds_toArray, List.set_cons_zero, List.set_cons_succ]
                  refine rg_skip 6 (some 97) (by kernel_rfl) (by kernel_rfl) (by kernel_rfl) (fun _ _ _ h => h) (by kernel_rfl) (by kernel_rfl) (by assumption) ?_
                  try simp only [Act.put, List.setIfInBounds_toArray, List.set_cons_zero, List.set_cons_succ]
                  refine rg_skip 7 (some 98) (by kernel_rfl) (by kernel_rfl) (by kernel_rfl) (fun _ _ _ h => h) (by kernel_rfl) (by kernel_rfl) (by assumption) ?_
                  try simp only [Act.put, List.setIfInBounds_toArray, List.set_cons_zero, List.set_cons_succ]
                  refine rg_skip 8 (some 99) (by kernel_rfl) (by kernel_rfl) (by kernel_rfl) (fun _ _ _ h => h) (by kernel_rfl) (by kernel_rfl) (by assumption) ?_
                  try simp only [Act.put, List.setIfInBounds_toArray, List.set_cons_zero, List.set_cons_succ]
                  refine rg_take 9 (some 100) _ (by kernel_rfl) (by kernel_rfl) (by kernel_rfl) (fun _ _ _ h => h) (by kernel_rfl) (by kernel_rfl) (by intro w' hSw op_ ho; skip; simp only [List.getElem?_toArray, List.getElem?_cons_succ, List.getElem?_cons_zero, Option.some.injEq] at ho; subst ho; go_simp; with_reducible rfl) (by assumption) ?_
                  try simp only [Act.put, List.setIfInBounds_toArray, List.set_cons_zero, List.set_cons_succ]
                  refine wpAnyH_done (by kernel_rfl) ?_ _
                  go_wp2_with fail
                  go_meet
                  exact ⟨T2, HL2.out, by rw [HI.out, HRR.out]; exact HK7.out.drew, HA7.out.drew, HNU.out.1, HNU.out.2⟩
                · as_aux_lemma =>
                  have q1 : (x.kind == 1) = false := by rw [beq_eq_false_iff_ne]; exact k1
                  have q2 : (x.kind == 2) = false := by rw [beq_eq_false_iff_ne]; exact k2
                  have HI : Hid (issV T2 p = issV T p) := Lib.hid (by rw [← HT2.out]; exact issV_deed0 HSO.out _ _ _ _ _ fun _ => ⟨k1, k2⟩)
                  clear k1 k2 sp
                  go_wp2_with fail
                  refine wp_region_held_drew (S := fun _ => True) (by kernel_rfl) trivial (fun _ => ?_)
                  refine rg_take 0 (some 91) _ (by kernel_rfl) (by kernel_rfl) (by kernel_rfl) (fun _ _ _ h => h) (by kernel_rfl) (by kernel_rfl) (by intro w' hSw op_ ho; skip; simp only [List.getElem?_toArray, List.getElem?_cons_zero, Option.some.injEq] at ho; subst ho; go_simp; with_reducible rfl) (by assumption) ?_
                  try simp only [Act.put, List.setIfInBounds_toArray, List.set_cons_zero, List.set_cons_succ]
                  refine rg_take 1 (some 92) _ (by kernel_rfl) (by kernel_rfl) (by kernel_rfl) (fun _ _ _ h => h) (by kernel_rfl) (by kernel_rfl) (by intro w' hSw op_ ho; skip; simp only [List.getElem?_toArray, List.getElem?_cons_succ, List.getElem?_cons_zero, Option.some.injEq] at ho; subst ho; go_simp; with_reducible rfl) (by assumption) ?_
                  try simp only [Act.put, List.setIfInBounds_toArray, List.set_cons_zero, List.set_cons_succ]
                  refine rg_take 2 (some 93) _ (by kernel_rfl) (by kernel_rfl) (by kernel_rfl) (fun _ _ _ h => h) (by kernel_rfl) (by kernel_rfl) (by intro w' hSw op_ ho; skip; simp only [List.getElem?_toArray, List.getElem?_cons_succ, List.getElem?_cons_zero, Option.some.injEq] at ho; subst ho; go_simp; with_reducible rfl) (by assumption) ?_
                  try simp only [Act.put, List.setIfInBounds_toArray, List.set_cons_zero, List.set_cons_succ]
                  refine rg_skip 3 (some 94) (by kernel_rfl) (by kernel_rfl) (by kernel_rfl) (fun _ _ _ h => h) (by kernel_rfl) (by kernel_rfl) (by assumption) ?_
                  try simp only [Act.put, List.setIfInBounds_toArray, List.set_cons_zero, List.set_cons_succ]
                  refine rg_skip 4 (some 95) (by kernel_rfl) (by kernel_rfl) (by kernel_rfl) (fun _ _ _ h => h) (by kernel_rfl) (by kernel_rfl) (by assumption) ?_
                  try simp only [Act.put, List.setIfInBounds_toArray, List.set_cons_zero, List.set_cons_succ]
                  refine rg_skip 5 (some 96) (by kernel_rfl) (by kernel_rfl) (by kernel_rfl) (fun _ _ _ h => h) (by kernel_rfl) (by kernel_rfl) (by assumption) ?_
                  try simp only [Act.put, List.setIfInBounds_toArray, List.set_cons_zero, List.set_cons_succ]
                  refine rg_skip 6 (some 97) (by kernel_rfl) (by kernel_rfl) (by kernel_rfl) (fun _ _ _ h => h) (by kernel_rfl) (by kernel_rfl) (by assumption) ?_
                  try simp only [Act.put, List.setIfInBounds_toArray, List.set_cons_zero, List.set_cons_succ]
                  refine rg_skip 7 (some 98) (by kernel_rfl) (by kernel_rfl) (by kernel_rfl) (fun _ _ _ h => h) (by kernel_rfl) (by kernel_rfl) (by assumption) ?_
                  try simp only [Act.put, List.setIfInBounds_toArray, List.set_cons_zero, List.set_cons_succ]
                  refine rg_skip 8 (some 99) (by kernel_rfl) (by kernel_rfl) (by kernel_rfl) (fun _ _ _ h => h) (by kernel_rfl) (by kernel_rfl) (by assumption) ?_
                  try simp only [Act.put, List.setIfInBounds_toArray, List.set_cons_zero, List.set_cons_succ]
                  refine rg_take 9 (some 100) _ (by kernel_rfl) (by kernel_rfl) (by kernel_rfl) (fun _ _ _ h => h) (by kernel_rfl) (by kernel_rfl) (by intro w' hSw op_ ho; skip; simp only [List.getElem?_toArray, List.getElem?_cons_succ, List.getElem?_cons_zero, Option.some.injEq] at ho; subst ho; go_simp; with_reducible rfl) (by assumption) ?_
                  try simp only [Act.put, List.setIfInBounds_toArray, List.set_cons_zero, List.set_cons_succ]
                  refine wpAnyH_done (by kernel_rfl) ?_ _
                  go_wp2_with fail
                  go_meet
                  exact ⟨T2, HL2.out, by rw [HI.out]; exact HK5.out.drew, HA5.out.drew, HNU.out.1, HNU.out.2⟩
            · as_aux_lemma =>
              have hE := fun W => (eqPl x.key.b x.key.c x.key.d p.b p.c p.d W).trans (by rw [decide_eq_false (fun h => sp (sameP_iff.2 h))])
              have HI : Hid (issV T2 p = issV T p) := Lib.hid (by rw [← HT2.out]; exact issV_deed0 HSO.out _ _ _ _ _ fun h => absurd h sp)
              clear sp
              go_wp2_with fail
              refine wp_region_held_drew (S := fun _ => True) (by kernel_rfl) trivial (fun _ => ?_)
              refine rg_take 0 (some 91) _ (by kernel_rfl) (by kernel_rfl) (by kernel_rfl) (fun _ _ _ h => h) (by kernel_rfl) (by kernel_rfl) (by intro w' hSw op_ ho; skip; simp only [List.getElem?_toArray, List.getElem?_cons_zero, Option.some.injEq] at ho; subst ho; go_simp; with_reducible rfl) (by assumption) ?_
              try simp only [Act.put, List.setIfInBounds_toArray, List.set_cons_zero, List.set_cons_succ]
              refine rg_take 1 (some 92) _ (by kernel_rfl) (by kernel_rfl) (by kernel_rfl) (fun _ _ _ h => h) (by kernel_rfl) (by kernel_rfl) (by intro w' hSw op_ ho; skip; simp only [List.getElem?_toArray, List.getElem?_cons_succ, List.getElem?_cons_zero, Option.some.injEq] at ho; subst ho; go_simp; with_reducible rfl) (by assumption) ?_
              try simp only [Act.put, List.setIfInBounds_toArray, List.set_cons_zero, List.set_cons_succ]
              refine rg_take 2 (some 93) _ (by kernel_rfl) (by kernel_rfl) (by kernel_rfl) (fun _ _ _ h => h) (by kernel_rfl) (by kernel_rfl) (by intro w' hSw op_ ho; skip; simp only [List.getElem?_toArray, List.getElem?_cons_succ, List.getElem?_cons_zero, Option.some.injEq] at ho; subst ho; go_simp; with_reducible rfl) (by assumption) ?_
              try simp only [Act.put, List.setIfInBounds_toArray, List.set_cons_zero, List.set_cons_succ]
              refine rg_skip 3 (some 94) (by kernel_rfl) (by kernel_rfl) (by kernel_rfl) (fun _ _ _ h => h) (by kernel_rfl) (by kernel_rfl) (by assumption) ?_
              try simp only [Act.put, List.setIfInBounds_toArray, List.set_cons_zero, List.set_cons_succ]
              refine rg_skip 4 (some 95) (by kernel_rfl) (by kernel_rfl) (by kernel_rfl) (fun _ _ _ h => h) (by kernel_rfl) (by kernel_rfl) (by assumption) ?_
              try simp only [Act.put, List.setIfInBounds_toArray, List.set_cons_zero, List.set_cons_succ]
              refine rg_skip 5 (some 96) (by kernel_rfl) (by kernel_rfl) (by kernel_rfl) (fun _ _ _ h => h) (by kernel_rfl) (by kernel_rfl) (by assumption) ?_
              try simp only [Act.put, List.setIfInBounds_toArray, List.set_cons_zero, List.set_cons_succ]
              refine rg_skip 6 (some 97) (by kernel_rfl) (by kernel_rfl) (by kernel_rfl) (fun _ _ _ h => h) (by kernel_rfl) (by kernel_rfl) (by assumption) ?_
              try simp only [Act.put, List.setIfInBounds_toArray, List.set_cons_zero, List.set_cons_succ]
              refine rg_skip 7 (some 98) (by kernel_rfl) (by kernel_rfl) (by kernel_rfl) (fun _ _ _ h => h) (by kernel_rfl) (by kernel_rfl) (by assumption) ?_
              try simp only [Act.put, List.setIfInBounds_toArray, List.set_cons_zero, List.set_cons_succ]
              refine rg_skip 8 (some 99) (by kernel_rfl) (by kernel_rfl) (by kernel_rfl) (fun _ _ _ h => h) (by kernel_rfl) (by kernel_rfl) (by assumption) ?_
              try simp only [Act.put, List.setIfInBounds_toArray, List.set_cons_zero, List.set_cons_succ]
              refine rg_take 9 (some 100) _ (by kernel_rfl) (by kernel_rfl) (by kernel_rfl) (fun _ _ _ h => h) (by kernel_rfl) (by kernel_rfl) (by intro w' hSw op_ ho; skip; simp only [List.getElem?_toArray, List.getElem?_cons_succ, List.getElem?_cons_zero, Option.some.injEq] at ho; subst ho; go_simp; with_reducible rfl) (by assumption) ?_
              try simp only [Act.put, List.setIfInBounds_toArray, List.set_cons_zero, List.set_cons_succ]
              refine wpAnyH_done (by kernel_rfl) ?_ _
              go_wp2_with fail
              go_meet
              exact ⟨T2, HL2.out, by rw [HI.out]; exact HK5.out.drew, HA5.out.drew, HNU.out.1, HNU.out.2⟩
          · as_aux_lemma =>
            have hTT := HMB.out hm0
            subst hTT
            rw [errV_some s hm0]
            clear hm0 HMB HM HT2
            have hE := fun W => (eqAc v v W).trans (by rw [decide_eq_true rfl])
            unfold encA at hE
            have HOF : Hid (∀ W, RS w Pp I0 q b p T2 (issV T2 p) U x V v W → Calls Tryd.prog 8 #[.pointer (some ⟨q, 0, none⟩), .agg #[.int .i64 (x.key).a, .int .i64 (x.key).b, .int .i64 (x.key).c, .int .i64 (x.key).d]] W fun e w' => e = .returned (.agg #[.int .i64 v.f.a, .int .i64 v.f.b, .int .i64 v.f.c, .int .i64 v.f.d, .int .i64 v.c.a, .int .i64 v.c.b, .int .i64 v.c.c, .int .i64 v.c.d, .int .i64 v.h.a, .int .i64 v.h.b, .int .i64 v.h.c, .int .i64 v.h.d]) ∧ RS w Pp I0 q b p T2 (issV T2 p) U x V v w') := Lib.hid fun W h => (of_c q b T2 x.key W h.tr.ga.book HGX.out.2.1).mono fun _ _ k => by rw [HV.out] at k; exact ⟨k.1, h.on k.2⟩
            go_wp2_with fail
            refine wp_region_held_drew (S := fun W => RS w Pp I0 q b p T2 (issV T2 p) U x V v W) (by kernel_rfl) ?_ (fun hHeld => ?_)
            · exact ⟨HK5.out.drew, HA5.out.drew, HV5.out⟩
            refine rg_take 0 (some 91) _ (by kernel_rfl) (by kernel_rfl) (by kernel_rfl) (fun _ _ _ h => h) (by kernel_rfl) (by kernel_rfl) (by intro w' hSw op_ ho; obtain ⟨a0, a1, a2, a3, a4, a5, a6, a7, a8, a9, _⟩ := hSw.act.cells; obtain ⟨v0, v1, v2, v3, v4, v5, v6, v7, v8, v9, v10, v11⟩ := hSw.was.cells; clear hSw; simp only [List.getElem?_toArray, List.getElem?_cons_zero, Option.some.injEq] at ho; subst ho; go_simp; with_reducible rfl) (by assumption) ?_
            try simp only [Act.put, List.setIfInBounds_toArray, List.set_cons_zero, List.set_cons_succ]
            refine rg_take 1 (some 92) _ (by kernel_rfl) (by kernel_rfl) (by kernel_rfl) (fun _ _ _ h => h) (by kernel_rfl) (by kernel_rfl) (by intro w' hSw op_ ho; obtain ⟨a0, a1, a2, a3, a4, a5, a6, a7, a8, a9, _⟩ := hSw.act.cells; obtain ⟨v0, v1, v2, v3, v4, v5, v6, v7, v8, v9, v10, v11⟩ := hSw.was.cells; clear hSw; simp only [List.getElem?_toArray, List.getElem?_cons_succ, List.getElem?_cons_zero, Option.some.injEq] at ho; subst ho; go_simp; with_reducible rfl) (by assumption) ?_
            try simp only [Act.put, List.setIfInBounds_toArray, List.set_cons_zero, List.set_cons_succ]
            refine rg_take 2 (some 93) _ (by kernel_rfl) (by kernel_rfl) (by kernel_rfl) (fun _ _ _ h => h) (by kernel_rfl) (by kernel_rfl) (by intro w' hSw op_ ho; obtain ⟨a0, a1, a2, a3, a4, a5, a6, a7, a8, a9, _⟩ := hSw.act.cells; obtain ⟨v0, v1, v2, v3, v4, v5, v6, v7, v8, v9, v10, v11⟩ := hSw.was.cells; clear hSw; simp only [List.getElem?_toArray, List.getElem?_cons_succ, List.getElem?_cons_zero, Option.some.injEq] at ho; subst ho; go_simp; with_reducible rfl) (by assumption) ?_
            try simp only [Act.put, List.setIfInBounds_toArray, List.set_cons_zero, List.set_cons_succ]
            refine rg_take 3 (some 94) _ (by kernel_rfl) (by kernel_rfl) (by kernel_rfl) (fun _ _ _ h => h) (by kernel_rfl) (by kernel_rfl) (by intro w' hSw op_ ho; obtain ⟨a0, a1, a2, a3, a4, a5, a6, a7, a8, a9, _⟩ := hSw.act.cells; obtain ⟨v0, v1, v2, v3, v4, v5, v6, v7, v8, v9, v10, v11⟩ := hSw.was.cells; clear hSw; simp only [List.getElem?_toArray, List.getElem?_cons_succ, List.getElem?_cons_zero, Option.some.injEq] at ho; subst ho; go_simp; with_reducible rfl) (by assumption) ?_
            try simp only [Act.put, List.setIfInBounds_toArray, List.set_cons_zero, List.set_cons_succ]
            refine rg_take 4 (some 95) _ (by kernel_rfl) (by kernel_rfl) (by kernel_rfl) (fun _ _ _ h => h) (by kernel_rfl) (by kernel_rfl) (by intro w' hSw op_ ho; obtain ⟨a0, a1, a2, a3, a4, a5, a6, a7, a8, a9, _⟩ := hSw.act.cells; obtain ⟨v0, v1, v2, v3, v4, v5, v6, v7, v8, v9, v10, v11⟩ := hSw.was.cells; clear hSw; simp only [List.getElem?_toArray, List.getElem?_cons_succ, List.getElem?_cons_zero, Option.some.injEq] at ho; subst ho; go_simp; with_reducible rfl) (by assumption) ?_
            try simp only [Act.put, List.setIfInBounds_toArray, List.set_cons_zero, List.set_cons_succ]
            refine rg_take 5 (some 96) _ (by kernel_rfl) (by kernel_rfl) (by kernel_rfl) (fun _ _ _ h => h) (by kernel_rfl) (by kernel_rfl) (by intro w' hSw op_ ho; obtain ⟨a0, a1, a2, a3, a4, a5, a6, a7, a8, a9, _⟩ := hSw.act.cells; obtain ⟨v0, v1, v2, v3, v4, v5, v6, v7, v8, v9, v10, v11⟩ := hSw.was.cells; clear hSw; simp only [List.getElem?_toArray, List.getElem?_cons_succ, List.getElem?_cons_zero, Option.some.injEq] at ho; subst ho; go_simp; with_reducible rfl) (by assumption) ?_
            try simp only [Act.put, List.setIfInBounds_toArray, List.set_cons_zero, List.set_cons_succ]
            refine rg_take 7 (some 98) _ (by kernel_rfl) (by kernel_rfl) (by kernel_rfl) (fun _ _ _ h => h) (by kernel_rfl) (by kernel_rfl) (by intro w' hSw op_ ho; obtain ⟨a0, a1, a2, a3, a4, a5, a6, a7, a8, a9, _⟩ := hSw.act.cells; obtain ⟨v0, v1, v2, v3, v4, v5, v6, v7, v8, v9, v10, v11⟩ := hSw.was.cells; clear hSw; simp only [List.getElem?_toArray, List.getElem?_cons_succ, List.getElem?_cons_zero, Option.some.injEq] at ho; subst ho; go_simp; with_reducible rfl) (by assumption) ?_
            try simp only [Act.put, List.setIfInBounds_toArray, List.set_cons_zero, List.set_cons_succ]
            refine rg_one 6 (by kernel_rfl) (by kernel_rfl) (fun op_ ho K hK => ?_)
            simp only [List.getElem?_toArray, List.getElem?_cons_succ, List.getElem?_cons_zero, Option.some.injEq] at ho
            subst ho
            go_simp
            go_at_call 8
            refine (HOF.out _ (by assumption)).mono ?_
            rintro e w6 ⟨rfl, r6⟩
            go_wp2_with fail
            refine hK.out _ _ (by assumption) (fun hHeld => ?_)
            clear hK
            try simp only [Act.put, List.setIfInBounds_toArray, List.set_cons_zero, List.set_cons_succ]
            refine rg_take 8 (some 99) _ (by kernel_rfl) (by kernel_rfl) (by kernel_rfl) (fun _ _ _ h => h) (by kernel_rfl) (by kernel_rfl) (by intro w' hSw op_ ho; obtain ⟨a0, a1, a2, a3, a4, a5, a6, a7, a8, a9, _⟩ := hSw.act.cells; obtain ⟨v0, v1, v2, v3, v4, v5, v6, v7, v8, v9, v10, v11⟩ := hSw.was.cells; clear hSw; simp only [List.getElem?_toArray, List.getElem?_cons_succ, List.getElem?_cons_zero, Option.some.injEq] at ho; subst ho; go_simp; with_reducible rfl) (by assumption) ?_
            try simp only [Act.put, List.setIfInBounds_toArray, List.set_cons_zero, List.set_cons_succ]
            refine rg_take 9 (some 100) _ (by kernel_rfl) (by kernel_rfl) (by kernel_rfl) (fun _ _ _ h => h) (by kernel_rfl) (by kernel_rfl) (by intro w' hSw op_ ho; obtain ⟨a0, a1, a2, a3, a4, a5, a6, a7, a8, a9, _⟩ := hSw.act.cells; obtain ⟨v0, v1, v2, v3, v4, v5, v6, v7, v8, v9, v10, v11⟩ := hSw.was.cells; clear hSw; simp only [List.getElem?_toArray, List.getElem?_cons_succ, List.getElem?_cons_zero, Option.some.injEq] at ho; subst ho; go_simp; with_reducible rfl) (by assumption) ?_
            try simp only [Act.put, List.setIfInBounds_toArray, List.set_cons_zero, List.set_cons_succ]
            refine wpAnyH_done (by kernel_rfl) ?_ _
            have HE := Lib.hid hHeld
            clear hHeld
            go_wp2_with fail
            go_meet
            exact ⟨T2, HL2.out, HE.out.tr, HE.out.act, HNU.out.1, HNU.out.2⟩
      case rest =>
        obtain ⟨T2, hT2, hTR, hAB, hUb, hUI⟩ := hcut
        have HK2 := Lib.hid hTR; have HA2 := Lib.hid hAB; have HT2 := Lib.hid hT2
        clear hTR hAB hUb hUI hT2 HK1 HA1 HNU hT
        obtain ⟨a0, a1, a2, a3, a4, a5, a6, a7, a8, a9, al⟩ := HA2.out.cells
        go_wp2_with fail
        refine (of_c q b T2 x.key _ HK2.out.ga.book HGX.out.2.1).mono ?_
        obtain ⟨z, hz⟩ : ∃ z, acc T2 x.key = z := ⟨_, rfl⟩
        have gf := good_comp.1 (HK2.out.ga.book.solid.goodF x.key)
        have gc := good_comp.1 (HK2.out.ga.book.solid.goodC x.key)
        have gh := good_comp.1 (HK2.out.ga.book.solid.goodH x.key)
        rw [hz] at gf gc gh ⊢
        clear hz
        rintro e w3 ⟨rfl, b3⟩
        have HK3 := Lib.hid (HK2.out.on b3)
        clear b3 HK2 HA2 a0 a1 a2 a3 a4 a5 a6 a7 a8 a9 al
        go_wp2_with fail
        obtain ⟨Z, hZ⟩ : ∃ Z, w3.heap.size = Z := ⟨_, rfl⟩
        obtain ⟨W4, hW4⟩ : ∃ W4, w3.alloc (.cells #[.int .i64 z.f.a, .int .i64 z.f.b, .int .i64 z.f.c, .int .i64 z.f.d, .int .i64 z.c.a, .int .i64 z.c.b, .int .i64 z.c.c, .int .i64 z.c.d, .int .i64 z.h.a, .int .i64 z.h.b, .int .i64 z.h.c, .int .i64 z.h.d] 37) = W4 := ⟨_, rfl⟩
        have HK4 : Hid (TR w Pp I0 q b p T2 (issV T2 p) W4) := Lib.hid (by rw [← hW4]; exact HK3.out.alloc _)
        have HZ4 : Hid (AcB W4 Z z) := Lib.hid (by rw [← hW4, ← hZ]; exact AcB.new w3 z)
        rw [hW4, hZ]
        clear hW4 hZ HK3
        obtain ⟨y0, y1, y2, y3, y4, y5, y6, y7, y8, y9, y10, y11⟩ := HZ4.out.cells
        have lfa : decide (z.f.a < 0) = false := decide_eq_false (by have := gf 0; simp only [comp] at this; omega)
        have lfb : decide (z.f.b < 0) = false := decide_eq_false (by have := gf 1; simp only [comp] at this; omega)
        have lfc : decide (z.f.c < 0) = false := decide_eq_false (by have := gf 2; simp only [comp] at this; omega)
        have lfd : decide (z.f.d < 0) = false := decide_eq_false (by have := gf 3; simp only [comp] at this; omega)
        have lca : decide (z.c.a < 0) = false := decide_eq_false (by have := gc 0; simp only [comp] at this; omega)
        have lcb : decide (z.c.b < 0) = false := decide_eq_false (by have := gc 1; simp only [comp] at this; omega)
        have lcc : decide (z.c.c < 0) = false := decide_eq_false (by have := gc 2; simp only [comp] at this; omega)
        have lcd : decide (z.c.d < 0) = false := decide_eq_false (by have := gc 3; simp only [comp] at this; omega)
        have lha : decide (z.h.a < 0) = false := decide_eq_false (by have := gh 0; simp only [comp] at this; omega)
        have lhb : decide (z.h.b < 0) = false := decide_eq_false (by have := gh 1; simp only [comp] at this; omega)
        have lhc : decide (z.h.c < 0) = false := decide_eq_false (by have := gh 2; simp only [comp] at this; omega)
        have lhd : decide (z.h.d < 0) = false := decide_eq_false (by have := gh 3; simp only [comp] at this; omega)
        have ua : decide (1099511627776 < z.f.a) = false := decide_eq_false (by have := gf 0; simp only [comp] at this; omega)
        have ub : decide (1099511627776 < z.f.b) = false := decide_eq_false (by have := gf 1; simp only [comp] at this; omega)
        have uc : decide (1099511627776 < z.f.c) = false := decide_eq_false (by have := gf 2; simp only [comp] at this; omega)
        have ud : decide (1099511627776 < z.f.d) = false := decide_eq_false (by have := gf 3; simp only [comp] at this; omega)
        clear gf gc gh
        refine wp_loop_rounds 5 ?_
        repeat any_goals (rw [rounds_succ]; go_wp2_with fail)
        clear y0 y1 y2 y3 y4 y5 y6 y7 y8 y9 y10 y11 lfa lfb lfc lfd lca lcb lcc lcd lha lhb lhc lhd ua ub uc ud HZ4
        obtain ⟨R, hR⟩ : ∃ R, issV T2 p = R := ⟨_, rfl⟩
        have HIS : Hid (∀ W, TR w Pp I0 q b p T2 R W → Calls Tryd.prog 11 #[.pointer (some ⟨q, 0, none⟩), .agg #[.int .i64 p.b, .int .i64 p.c, .int .i64 p.d]] W fun e w' => e = .returned (.agg #[.int .i64 R.a, .int .i64 R.b, .int .i64 R.c, .int .i64 R.d]) ∧ TR w Pp I0 q b p T2 R w') := Lib.hid fun W h => (bissued_c s q b T2 p W (h.ga.sent HS.out) h.ga.book (by have := HT2.out; omega)).mono fun _ _ k => by rw [hR] at k; exact ⟨k.1, h.on k.2⟩
        rw [hR] at HK4
        have HR := Lib.hid hR
        have hE := fun W => (eqVd R R W).trans (by rw [decide_eq_true rfl])
        clear hR
        refine wp_region_held_drew (S := fun W => TR w Pp I0 q b p T2 R W) (by kernel_rfl) ?_ (fun hHeld => ?_)
        · exact HK4.out.drew
        refine rg_take 0 (some 135) _ (by kernel_rfl) (by kernel_rfl) (by kernel_rfl) (fun _ _ _ h => h) (by kernel_rfl) (by kernel_rfl) (by intro w' hSw op_ ho; obtain ⟨p0, p1, p2⟩ := hSw.pl.cells; obtain ⟨i0, i1, i2, i3⟩ := vb_cells hSw.iv; clear hSw; simp only [List.getElem?_toArray, List.getElem?_cons_zero, Option.some.injEq] at ho; subst ho; go_simp; with_reducible rfl) (by assumption) ?_
        try simp only [Act.put, List.setIfInBounds_toArray, List.set_cons_zero, List.set_cons_succ]
        refine rg_take 1 (some 136) _ (by kernel_rfl) (by kernel_rfl) (by kernel_rfl) (fun _ _ _ h => h) (by kernel_rfl) (by kernel_rfl) (by intro w' hSw op_ ho; obtain ⟨p0, p1, p2⟩ := hSw.pl.cells; obtain ⟨i0, i1, i2, i3⟩ := vb_cells hSw.iv; clear hSw; simp only [List.getElem?_toArray, List.getElem?_cons_succ, List.getElem?_cons_zero, Option.some.injEq] at ho; subst ho; go_simp; with_reducible rfl) (by assumption) ?_
        try simp only [Act.put, List.setIfInBounds_toArray, List.set_cons_zero, List.set_cons_succ]
        refine rg_take 3 (some 138) _ (by kernel_rfl) (by kernel_rfl) (by kernel_rfl) (fun _ _ _ h => h) (by kernel_rfl) (by kernel_rfl) (by intro w' hSw op_ ho; obtain ⟨p0, p1, p2⟩ := hSw.pl.cells; obtain ⟨i0, i1, i2, i3⟩ := vb_cells hSw.iv; clear hSw; simp only [List.getElem?_toArray, List.getElem?_cons_succ, List.getElem?_cons_zero, Option.some.injEq] at ho; subst ho; go_simp; with_reducible rfl) (by assumption) ?_
        try simp only [Act.put, List.setIfInBounds_toArray, List.set_cons_zero, List.set_cons_succ]
        refine rg_one 2 (by kernel_rfl) (by kernel_rfl) (fun op_ ho K hK => ?_)
        simp only [List.getElem?_toArray, List.getElem?_cons_succ, List.getElem?_cons_zero, Option.some.injEq] at ho
        subst ho
        go_simp
        go_at_call 11
        refine (HIS.out _ (by assumption)).mono ?_
        rintro e w6 ⟨rfl, r6⟩
        go_wp2_with fail
        refine hK.out _ _ (by assumption) (fun hHeld => ?_)
        clear hK
        try simp only [Act.put, List.setIfInBounds_toArray, List.set_cons_zero, List.set_cons_succ]
        refine rg_take 4 (some 139) _ (by kernel_rfl) (by kernel_rfl) (by kernel_rfl) (fun _ _ _ h => h) (by kernel_rfl) (by kernel_rfl) (by intro w' hSw op_ ho; obtain ⟨p0, p1, p2⟩ := hSw.pl.cells; obtain ⟨i0, i1, i2, i3⟩ := vb_cells hSw.iv; clear hSw; simp only [List.getElem?_toArray, List.getElem?_cons_succ, List.getElem?_cons_zero, Option.some.injEq] at ho; subst ho; go_simp; with_reducible rfl) (by assumption) ?_
        try simp only [Act.put, List.setIfInBounds_toArray, List.set_cons_zero, List.set_cons_succ]
        refine wpAnyH_done (by kernel_rfl) ?_ _
        have HE := Lib.hid hHeld
        clear hHeld
        go_wp2_with fail
        go_roundw
        case rel => exact ⟨j + 1, T2, ret_v (by omega), by omega, by omega, by have := HT2.out; omega, by rw [HR.out]; exact HE.out⟩
        case measure => simp [intOf]; omega
    · as_aux_lemma =>
      go_upto_region 6 with fail
      go_cut [28] (fun cc wx => cc = .bool false ∧ wr = wx)
      case first =>
        by_cases h1 : j < n
        · have j1 : (j : Int) < (n : Int) := by omega
          have j2 : decide ((j : Int) < 60) = false := decide_eq_false (by omega)
          go_wp2_with fail
          go_meet
          exact ⟨rfl, rfl⟩
        · have j1 : ¬ (j : Int) < (n : Int) := by omega
          go_wp2_with fail
          go_meet
          exact ⟨rfl, rfl⟩
      case rest =>
      obtain ⟨rfl, rfl⟩ := hcut
      clear hlt HA HG HN hl hjn
      go_wp2_with fail
      obtain ⟨M, hM⟩ : ∃ M, wr.heap.size = M := ⟨_, rfl⟩
      obtain ⟨W1, hW1⟩ : ∃ W1, wr.alloc (.cells #[.int .i64 0, .int .i64 0, .int .i64 0, .int .i64 0] 29) = W1 := ⟨_, rfl⟩
      have HK1 : Hid (TR w Pp I0 q b p T (issV T p) W1) := Lib.hid (by rw [← hW1]; exact HK.out.alloc _)
      have HM1 : Hid (Vb W1 M z4) := Lib.hid (by rw [← hW1]; exact Vb.new_at hM.symm z4)
      have HNM : Hid (M ≠ b ∧ M ≠ I0 ∧ M ≠ Pp ∧ M ≠ q ∧ w.heap.size ≤ M) := Lib.hid (by have h1 := HK.out.ga.book.map.lt; have h2 := lt_of_row HK.out.iv; have h3 := HK.out.pl.lt; have h4 := HK.out.ga.book.lt; have h5 := HK.out.ga.below.size; omega)
      rw [hW1, hM]
      clear hW1 hM HK
      refine (keys_c q b T _ HK1.out.ga.book (by omega)).mono ?_
      rintro e w3 ⟨v, L, rfl, hp, _, hok, hown, b3⟩
      obtain ⟨Al, cl, rfl⟩ := hown.form
      obtain ⟨l, hl⟩ : ∃ l, L.length = l := ⟨_, rfl⟩
      have hll : l ≤ 120 := by have := hp.length_eq; rw [List.length_map] at this; omega
      have HP := Lib.hid hp; have HOK := Lib.hid hok
      have HO : Hid (OR w Pp I0 q b p T M W1.heap.size Al l cl L 0 w3) := Lib.hid (by
        rw [hl] at hown
        exact ⟨HK1.out.on b3, HM1.out.below b3 (lt_of_row HM1.out), hown, HNM.out.1, HNM.out.2.1, HNM.out.2.2.1, HNM.out.2.2.2.1, HNM.out.2.2.2.2, lt_of_row HM1.out⟩)
      have HL := Lib.hid hl
      rw [hl]
      clear hp hok hown b3 HK1 HM1 HNM hl
      obtain ⟨B, hB⟩ : ∃ B, W1.heap.size = B := ⟨_, rfl⟩
      rw [hB] at HO
      clear hB
      go_wp2_with fail
      go_loopw [15] (fun I wq => ∃ k : Nat, I = .int .i64 (k : Int) ∧ k ≤ l ∧ OR w Pp I0 q b p T M B Al l cl L k wq) (fun I _ => l - (intOf I).toNat)
      case atStart => exact ⟨0, rfl, by omega, HO.out⟩
      case round =>
        obtain ⟨k, rfl, hk, hO⟩ := hrel
        clear HO
        have HO := Lib.hid hO
        clear hO
        by_cases hkl : k < l
        · have k0 : (0 : Int) ≤ (k : Int) := by omega
          have k1 : (k : Int) < (l : Int) := by omega
          obtain ⟨y, hy⟩ : ∃ y, L[k]? = some y := ⟨_, List.getElem?_eq_getElem (l := L) (i := k) (by rw [HL.out]; exact hkl)⟩
          have HOKY : Hid (okV y) := Lib.hid (HOK.out y (List.mem_of_getElem? hy))
          have HST := Lib.hid (upV_step T p hy)
          have HY := Lib.hid hy
          obtain ⟨a, rfl⟩ := HO.out.addr (by rw [HL.out]; exact hkl)
          have HGU := Lib.hid (goodUp HO.out.tr.ga.book.solid p HP.out k)
          have HSO := Lib.hid HO.out.tr.ga.book.solid
          clear hy
          go_wp2_with fail
          by_cases sp : sameP y p = true
          · have hE := fun W => (eqPl y.b y.c y.d p.b p.c p.d W).trans (by rw [decide_eq_true (sameP_iff.1 sp)])
            have HST2 : Hid (upV T p L (k + 1) = pv (upV T p L k) (pv (acc T y).f (pv (acc T y).c (acc T y).h))) := Lib.hid (by rw [HST.out, if_pos sp])
            clear sp
            refine wp_region_held_drew (S := fun W => OR w Pp I0 q b p T M B (some a) l cl L k W) (by kernel_rfl) ?_ (fun hHeld => ?_)
            · exact HO.out.drew
            refine rg_take 0 (some 149) _ (by kernel_rfl) (by kernel_rfl) (by kernel_rfl) (fun _ _ _ h => h) (by kernel_rfl) (by kernel_rfl) (by intro w' hSw op_ ho; obtain ⟨p0, p1, p2⟩ := hSw.tr.pl.cells; obtain ⟨r0, r1, r2, r3⟩ := hSw.at_ HY.out; clear hSw; simp only [List.getElem?_toArray, List.getElem?_cons_zero, Option.some.injEq] at ho; subst ho; go_simp; with_reducible rfl) (by assumption) ?_
            try simp only [Act.put, List.setIfInBounds_toArray, List.set_cons_zero, List.set_cons_succ]
            refine rg_take 1 (some 150) _ (by kernel_rfl) (by kernel_rfl) (by kernel_rfl) (fun _ _ _ h => h) (by kernel_rfl) (by kernel_rfl) (by intro w' hSw op_ ho; obtain ⟨p0, p1, p2⟩ := hSw.tr.pl.cells; obtain ⟨r0, r1, r2, r3⟩ := hSw.at_ HY.out; clear hSw; simp only [List.getElem?_toArray, List.getElem?_cons_succ, List.getElem?_cons_zero, Option.some.injEq] at ho; subst ho; go_simp; with_reducible rfl) (by assumption) ?_
            try simp only [Act.put, List.setIfInBounds_toArray, List.set_cons_zero, List.set_cons_succ]
            refine rg_take 2 (some 151) _ (by kernel_rfl) (by kernel_rfl) (by kernel_rfl) (fun _ _ _ h => h) (by kernel_rfl) (by kernel_rfl) (by intro w' hSw op_ ho; obtain ⟨p0, p1, p2⟩ := hSw.tr.pl.cells; obtain ⟨r0, r1, r2, r3⟩ := hSw.at_ HY.out; clear hSw; simp only [List.getElem?_toArray, List.getElem?_cons_succ, List.getElem?_cons_zero, Option.some.injEq] at ho; subst ho; go_simp; with_reducible rfl) (by assumption) ?_
            try simp only [Act.put, List.setIfInBounds_toArray, List.set_cons_zero, List.set_cons_succ]
            refine rg_take 3 (some 152) _ (by kernel_rfl) (by kernel_rfl) (by kernel_rfl) (fun _ _ _ h => h) (by kernel_rfl) (by kernel_rfl) (by intro w' hSw op_ ho; obtain ⟨p0, p1, p2⟩ := hSw.tr.pl.cells; obtain ⟨r0, r1, r2, r3⟩ := hSw.at_ HY.out; clear hSw; simp only [List.getElem?_toArray, List.getElem?_cons_succ, List.getElem?_cons_zero, Option.some.injEq] at ho; subst ho; go_simp; with_reducible rfl) (by assumption) ?_
            try simp only [Act.put, List.setIfInBounds_toArray, List.set_cons_zero, List.set_cons_succ]
            refine rg_take 4 (some 153) _ (by kernel_rfl) (by kernel_rfl) (by kernel_rfl) (fun _ _ _ h => h) (by kernel_rfl) (by kernel_rfl) (by intro w' hSw op_ ho; obtain ⟨p0, p1, p2⟩ := hSw.tr.pl.cells; obtain ⟨r0, r1, r2, r3⟩ := hSw.at_ HY.out; clear hSw; simp only [List.getElem?_toArray, List.getElem?_cons_succ, List.getElem?_cons_zero, Option.some.injEq] at ho; subst ho; go_simp; with_reducible rfl) (by assumption) ?_
            try simp only [Act.put, List.setIfInBounds_toArray, List.set_cons_zero, List.set_cons_succ]
            refine rg_take 5 (some 154) _ (by kernel_rfl) (by kernel_rfl) (by kernel_rfl) (fun _ _ _ h => h) (by kernel_rfl) (by kernel_rfl) (by intro w' hSw op_ ho; obtain ⟨p0, p1, p2⟩ := hSw.tr.pl.cells; obtain ⟨r0, r1, r2, r3⟩ := hSw.at_ HY.out; clear hSw; simp only [List.getElem?_toArray, List.getElem?_cons_succ, List.getElem?_cons_zero, Option.some.injEq] at ho; subst ho; go_simp; with_reducible rfl) (by assumption) ?_
            try simp only [Act.put, List.setIfInBounds_toArray, List.set_cons_zero, List.set_cons_succ]
            refine rg_take 6 (some 155) _ (by kernel_rfl) (by kernel_rfl) (by kernel_rfl) (fun _ _ _ h => h) (by kernel_rfl) (by kernel_rfl) (by intro w' hSw op_ ho; obtain ⟨p0, p1, p2⟩ := hSw.tr.pl.cells; obtain ⟨r0, r1, r2, r3⟩ := hSw.at_ HY.out; clear hSw; simp only [List.getElem?_toArray, List.getElem?_cons_succ, List.getElem?_cons_zero, Option.some.injEq] at ho; subst ho; go_simp; with_reducible rfl) (by assumption) ?_
            try simp only [Act.put, List.setIfInBounds_toArray, List.set_cons_zero, List.set_cons_succ]
            refine wpAnyH_done (by kernel_rfl) ?_ _
            have HE := Lib.hid hHeld
            clear hHeld
            obtain ⟨r0, r1, r2, r3⟩ := HE.out.at_ HY.out
            go_wp2_with fail
            clear r0 r1 r2 r3 hE HST
            refine (of_c q b T y _ HE.out.tr.ga.book HOKY.out).mono ?_
            have gc := HSO.out.goodC y; have gh := HSO.out.goodH y; have gf := HSO.out.goodF y
            have g1 := goodCH HSO.out y; have g2 := goodFCH HSO.out y
            have hst := HST2.out
            obtain ⟨z, hz⟩ : ∃ z, acc T y = z := ⟨_, rfl⟩
            rw [hz] at gc gh gf g1 g2 hst ⊢
            clear hz HST2
            rintro e w5 ⟨rfl, b5⟩
            have HO5 := Lib.hid (HE.out.on b5)
            clear b5 HE HO
            go_wp2_with fail
            obtain ⟨Z, hZ⟩ : ∃ Z, w5.heap.size = Z := ⟨_, rfl⟩
            obtain ⟨W6, hW6⟩ : ∃ W6, w5.alloc (.cells #[.int .i64 z.f.a, .int .i64 z.f.b, .int .i64 z.f.c, .int .i64 z.f.d, .int .i64 z.c.a, .int .i64 z.c.b, .int .i64 z.c.c, .int .i64 z.c.d, .int .i64 z.h.a, .int .i64 z.h.b, .int .i64 z.h.c, .int .i64 z.h.d] 37) = W6 := ⟨_, rfl⟩
            have HO6 : Hid (OS w Pp I0 q b p T M B (some a) l cl L k Z z W6) := Lib.hid ⟨by rw [← hW6]; exact HO5.out.on ((Below.refl _ _).alloc (Nat.le_refl _) _), by rw [← hW6, ← hZ]; exact AcB.new w5 z⟩
            rw [hW6, hZ]
            clear hW6 hZ HO5
            have gu := HGU.out
            obtain ⟨S0, hS0⟩ : ∃ S0, upV T p L k = S0 := ⟨_, rfl⟩
            rw [hS0] at gu hst
            have HS0 := Lib.hid hS0
            obtain ⟨r1, hr1⟩ : ∃ r1, pv z.c z.h = r1 := ⟨_, rfl⟩
            rw [hr1] at g1 g2 hst
            obtain ⟨r2, hr2⟩ : ∃ r2, pv z.f r1 = r2 := ⟨_, rfl⟩
            rw [hr2] at g2 hst
            obtain ⟨r3, hr3⟩ : ∃ r3, pv S0 r2 = r3 := ⟨_, rfl⟩
            rw [hr3] at hst
            have HST3 := Lib.hid hst
            have HP7 : Hid (∀ W, OS w Pp I0 q b p T M B (some a) l cl L k Z z W → Calls Tryd.prog 10 #[.agg #[.int .i64 (z.c).a, .int .i64 (z.c).b, .int .i64 (z.c).c, .int .i64 (z.c).d], .agg #[.int .i64 (z.h).a, .int .i64 (z.h).b, .int .i64 (z.h).c, .int .i64 (z.h).d], .int .i64 1] W fun e w' => e = .returned (.agg #[.int .i64 r1.a, .int .i64 r1.b, .int .i64 r1.c, .int .i64 r1.d]) ∧ OS w Pp I0 q b p T M B (some a) l cl L k Z z w') := Lib.hid fun W h => (plusG z.c z.h W gc gh).mono fun _ _ k => by have k1 := k.1; rw [hr1] at k1; exact ⟨k1, h.on k.2⟩
            have HP8 : Hid (∀ W, OS w Pp I0 q b p T M B (some a) l cl L k Z z W → Calls Tryd.prog 10 #[.agg #[.int .i64 (z.f).a, .int .i64 (z.f).b, .int .i64 (z.f).c, .int .i64 (z.f).d], .agg #[.int .i64 r1.a, .int .i64 r1.b, .int .i64 r1.c, .int .i64 r1.d], .int .i64 1] W fun e w' => e = .returned (.agg #[.int .i64 r2.a, .int .i64 r2.b, .int .i64 r2.c, .int .i64 r2.d]) ∧ OS w Pp I0 q b p T M B (some a) l cl L k Z z w') := Lib.hid fun W h => (plusG z.f r1 W gf g1).mono fun _ _ k => by have k1 := k.1; rw [hr2] at k1; exact ⟨k1, h.on k.2⟩
            have HP9 : Hid (∀ W, OS w Pp I0 q b p T M B (some a) l cl L k Z z W → Calls Tryd.prog 10 #[.agg #[.int .i64 S0.a, .int .i64 S0.b, .int .i64 S0.c, .int .i64 S0.d], .agg #[.int .i64 r2.a, .int .i64 r2.b, .int .i64 r2.c, .int .i64 r2.d], .int .i64 1] W fun e w' => e = .returned (.agg #[.int .i64 r3.a, .int .i64 r3.b, .int .i64 r3.c, .int .i64 r3.d]) ∧ OS w Pp I0 q b p T M B (some a) l cl L k Z z w') := Lib.hid fun W h => (plusG S0 r2 W gu g2).mono fun _ _ k => by have k1 := k.1; rw [hr3] at k1; exact ⟨k1, h.on k.2⟩
            clear gc gh gf g1 g2 gu hst hS0 hr1 hr2 hr3
            refine wp_region_last (z := 10) (S := fun W => OS w Pp I0 q b p T M B (some a) l cl L k Z z W) (by kernel_rfl) ?_ (fun hHeld => ?_)
            · exact HO6.out.on (Below.drew (Below.refl _ _))
            refine rgl_take 0 (some 162) _ (by kernel_rfl) (by kernel_rfl) (by kernel_rfl) (by kernel_rfl) (fun _ _ _ h => h) (by kernel_rfl) (by kernel_rfl) (by intro w' hSw op_ ho; obtain ⟨m0, m1, m2, m3⟩ := vb_cells hSw.or.sum; rw [HS0.out] at m0 m1 m2 m3; obtain ⟨v0, v1, v2, v3, v4, v5, v6, v7, v8, v9, v10, v11⟩ := hSw.acc.cells; clear hSw; simp only [List.getElem?_toArray, List.getElem?_cons_zero, Option.some.injEq] at ho; subst ho; go_simp; with_reducible rfl) (by assumption) ?_
            try simp only [Act.put, List.setIfInBounds_toArray, List.set_cons_zero, List.set_cons_succ]
            refine rgl_take 1 (some 163) _ (by kernel_rfl) (by kernel_rfl) (by kernel_rfl) (by kernel_rfl) (fun _ _ _ h => h) (by kernel_rfl) (by kernel_rfl) (by intro w' hSw op_ ho; obtain ⟨m0, m1, m2, m3⟩ := vb_cells hSw.or.sum; rw [HS0.out] at m0 m1 m2 m3; obtain ⟨v0, v1, v2, v3, v4, v5, v6, v7, v8, v9, v10, v11⟩ := hSw.acc.cells; clear hSw; simp only [List.getElem?_toArray, List.getElem?_cons_succ, List.getElem?_cons_zero, Option.some.injEq] at ho; subst ho; go_simp; with_reducible rfl) (by assumption) ?_
            try simp only [Act.put, List.setIfInBounds_toArray, List.set_cons_zero, List.set_cons_succ]
            refine rgl_take 2 (some 164) _ (by kernel_rfl) (by kernel_rfl) (by kernel_rfl) (by kernel_rfl) (fun _ _ _ h => h) (by kernel_rfl) (by kernel_rfl) (by intro w' hSw op_ ho; obtain ⟨m0, m1, m2, m3⟩ := vb_cells hSw.or.sum; rw [HS0.out] at m0 m1 m2 m3; obtain ⟨v0, v1, v2, v3, v4, v5, v6, v7, v8, v9, v10, v11⟩ := hSw.acc.cells; clear hSw; simp only [List.getElem?_toArray, List.getElem?_cons_succ, List.getElem?_cons_zero, Option.some.injEq] at ho; subst ho; go_simp; with_reducible rfl) (by assumption) ?_
            try simp only [Act.put, List.setIfInBounds_toArray, List.set_cons_zero, List.set_cons_succ]
            refine rgl_take 3 (some 165) _ (by kernel_rfl) (by kernel_rfl) (by kernel_rfl) (by kernel_rfl) (fun _ _ _ h => h) (by kernel_rfl) (by kernel_rfl) (by intro w' hSw op_ ho; obtain ⟨m0, m1, m2, m3⟩ := vb_cells hSw.or.sum; rw [HS0.out] at m0 m1 m2 m3; obtain ⟨v0, v1, v2, v3, v4, v5, v6, v7, v8, v9, v10, v11⟩ := hSw.acc.cells; clear hSw; simp only [List.getElem?_toArray, List.getElem?_cons_succ, List.getElem?_cons_zero, Option.some.injEq] at ho; subst ho; go_simp; with_reducible rfl) (by assumption) ?_
            try simp only [Act.put, List.setIfInBounds_toArray, List.set_cons_zero, List.set_cons_succ]
            refine rgl_take 4 (some 166) _ (by kernel_rfl) (by kernel_rfl) (by kernel_rfl) (by kernel_rfl) (fun _ _ _ h => h) (by kernel_rfl) (by kernel_rfl) (by intro w' hSw op_ ho; obtain ⟨m0, m1, m2, m3⟩ := vb_cells hSw.or.sum; rw [HS0.out] at m0 m1 m2 m3; obtain ⟨v0, v1, v2, v3, v4, v5, v6, v7, v8, v9, v10, v11⟩ := hSw.acc.cells; clear hSw; simp only [List.getElem?_toArray, List.getElem?_cons_succ, List.getElem?_cons_zero, Option.some.injEq] at ho; subst ho; go_simp; with_reducible rfl) (by assumption) ?_
            try simp only [Act.put, List.setIfInBounds_toArray, List.set_cons_zero, List.set_cons_succ]
            refine rgl_take 5 (some 167) _ (by kernel_rfl) (by kernel_rfl) (by kernel_rfl) (by kernel_rfl) (fun _ _ _ h => h) (by kernel_rfl) (by kernel_rfl) (by intro w' hSw op_ ho; obtain ⟨m0, m1, m2, m3⟩ := vb_cells hSw.or.sum; rw [HS0.out] at m0 m1 m2 m3; obtain ⟨v0, v1, v2, v3, v4, v5, v6, v7, v8, v9, v10, v11⟩ := hSw.acc.cells; clear hSw; simp only [List.getElem?_toArray, List.getElem?_cons_succ, List.getElem?_cons_zero, Option.some.injEq] at ho; subst ho; go_simp; with_reducible rfl) (by assumption) ?_
            try simp only [Act.put, List.setIfInBounds_toArray, List.set_cons_zero, List.set_cons_succ]
            refine rgl_take 6 (some 168) _ (by kernel_rfl) (by kernel_rfl) (by kernel_rfl) (by kernel_rfl) (fun _ _ _ h => h) (by kernel_rfl) (by kernel_rfl) (by intro w' hSw op_ ho; obtain ⟨m0, m1, m2, m3⟩ := vb_cells hSw.or.sum; rw [HS0.out] at m0 m1 m2 m3; obtain ⟨v0, v1, v2, v3, v4, v5, v6, v7, v8, v9, v10, v11⟩ := hSw.acc.cells; clear hSw; simp only [List.getElem?_toArray, List.getElem?_cons_succ, List.getElem?_cons_zero, Option.some.injEq] at ho; subst ho; go_simp; with_reducible rfl) (by assumption) ?_
            try simp only [Act.put, List.setIfInBounds_toArray, List.set_cons_zero, List.set_cons_succ]
            refine rgl_one 7 (by kernel_rfl) (by kernel_rfl) (by decide) (fun op_ ho K hK => ?_)
            simp only [List.getElem?_toArray, List.getElem?_cons_succ, List.getElem?_cons_zero, Option.some.injEq] at ho
            subst ho
            go_simp
            go_at_call 10
            refine (HP7.out _ (by assumption)).mono ?_
            rintro e x7 ⟨rfl, s7⟩
            go_wp2_with fail
            refine hK.out _ _ (by assumption) (fun hHeld => ?_)
            clear hK
            try simp only [Act.put, List.setIfInBounds_toArray, List.set_cons_zero, List.set_cons_succ]
            refine rgl_one 8 (by kernel_rfl) (by kernel_rfl) (by decide) (fun op_ ho K hK => ?_)
            simp only [List.getElem?_toArray, List.getElem?_cons_succ, List.getElem?_cons_zero, Option.some.injEq] at ho
            subst ho
            go_simp
            go_at_call 10
            refine (HP8.out _ (by assumption)).mono ?_
            rintro e x8 ⟨rfl, s8⟩
            go_wp2_with fail
            refine hK.out _ _ (by assumption) (fun hHeld => ?_)
            clear hK
            try simp only [Act.put, List.setIfInBounds_toArray, List.set_cons_zero, List.set_cons_succ]
            refine rgl_one 9 (by kernel_rfl) (by kernel_rfl) (by decide) (fun op_ ho K hK => ?_)
            simp only [List.getElem?_toArray, List.getElem?_cons_succ, List.getElem?_cons_zero, Option.some.injEq] at ho
            subst ho
            go_simp
            go_at_call 10
            refine (HP9.out _ (by assumption)).mono ?_
            rintro e x9 ⟨rfl, s9⟩
            go_wp2_with fail
            refine hK.out _ _ (by assumption) (fun hHeld => ?_)
            clear hK
            try simp only [Act.put, List.setIfInBounds_toArray, List.set_cons_zero, List.set_cons_succ]
            refine rgl_last (by kernel_rfl) (by kernel_rfl) (by kernel_rfl) (fun op_ ho K hK => ?_)
            simp only [List.getElem?_toArray, List.getElem?_cons_succ, List.getElem?_cons_zero, Option.some.injEq] at ho
            subst ho
            obtain ⟨m0, m1, m2, m3, mf, ml⟩ := hHeld.or.sum.facts
            have HHE := Lib.hid hHeld
            clear hHeld
            go_simp
            refine hK.out _ _ ?_
            clear hK
            try simp only [Act.put, List.setIfInBounds_toArray, List.set_cons_zero, List.set_cons_succ]
            clear m0 m1 m2 m3 mf ml
            go_wp2_with fail
            go_roundw
            case rel => exact ⟨k + 1, ret_v (by omega), by omega, HHE.out.or.put HST3.out⟩
            case measure => simp [intOf]; omega
          · have hE := fun W => (eqPl y.b y.c y.d p.b p.c p.d W).trans (by rw [decide_eq_false (fun h => sp (sameP_iff.2 h))])
            have HST2 : Hid (upV T p L (k + 1) = upV T p L k) := Lib.hid (by rw [HST.out, if_neg sp]; exact comp_ext fun r => by rw [comp_pv, comp_z4]; omega)
            clear sp
            refine wp_region_held_drew (S := fun W => OR w Pp I0 q b p T M B (some a) l cl L k W) (by kernel_rfl) ?_ (fun hHeld => ?_)
            · exact HO.out.drew
            refine rg_take 0 (some 149) _ (by kernel_rfl) (by kernel_rfl) (by kernel_rfl) (fun _ _ _ h => h) (by kernel_rfl) (by kernel_rfl) (by intro w' hSw op_ ho; obtain ⟨p0, p1, p2⟩ := hSw.tr.pl.cells; obtain ⟨r0, r1, r2, r3⟩ := hSw.at_ HY.out; clear hSw; simp only [List.getElem?_toArray, List.getElem?_cons_zero, Option.some.injEq] at ho; subst ho; go_simp; with_reducible rfl) (by assumption) ?_
            try simp only [Act.put, List.setIfInBounds_toArray, List.set_cons_zero, List.set_cons_succ]
            refine rg_take 1 (some 150) _ (by kernel_rfl) (by kernel_rfl) (by kernel_rfl) (fun _ _ _ h => h) (by kernel_rfl) (by kernel_rfl) (by intro w' hSw op_ ho; obtain ⟨p0, p1, p2⟩ := hSw.tr.pl.cells; obtain ⟨r0, r1, r2, r3⟩ := hSw.at_ HY.out; clear hSw; simp only [List.getElem?_toArray, List.getElem?_cons_succ, List.getElem?_cons_zero, Option.some.injEq] at ho; subst ho; go_simp; with_reducible rfl) (by assumption) ?_
            try simp only [Act.put, List.setIfInBounds_toArray, List.set_cons_zero, List.set_cons_succ]
            refine rg_take 2 (some 151) _ (by kernel_rfl) (by kernel_rfl) (by kernel_rfl) (fun _ _ _ h => h) (by kernel_rfl) (by kernel_rfl) (by intro w' hSw op_ ho; obtain ⟨p0, p1, p2⟩ := hSw.tr.pl.cells; obtain ⟨r0, r1, r2, r3⟩ := hSw.at_ HY.out; clear hSw; simp only [List.getElem?_toArray, List.getElem?_cons_succ, List.getElem?_cons_zero, Option.some.injEq] at ho; subst ho; go_simp; with_reducible rfl) (by assumption) ?_
            try simp only [Act.put, List.setIfInBounds_toArray, List.set_cons_zero, List.set_cons_succ]
            refine rg_take 3 (some 152) _ (by kernel_rfl) (by kernel_rfl) (by kernel_rfl) (fun _ _ _ h => h) (by kernel_rfl) (by kernel_rfl) (by intro w' hSw op_ ho; obtain ⟨p0, p1, p2⟩ := hSw.tr.pl.cells; obtain ⟨r0, r1, r2, r3⟩ := hSw.at_ HY.out; clear hSw; simp only [List.getElem?_toArray, List.getElem?_cons_succ, List.getElem?_cons_zero, Option.some.injEq] at ho; subst ho; go_simp; with_reducible rfl) (by assumption) ?_
            try simp only [Act.put, List.setIfInBounds_toArray, List.set_cons_zero, List.set_cons_succ]
            refine rg_take 4 (some 153) _ (by kernel_rfl) (by kernel_rfl) (by kernel_rfl) (fun _ _ _ h => h) (by kernel_rfl) (by kernel_rfl) (by intro w' hSw op_ ho; obtain ⟨p0, p1, p2⟩ := hSw.tr.pl.cells; obtain ⟨r0, r1, r2, r3⟩ := hSw.at_ HY.out; clear hSw; simp only [List.getElem?_toArray, List.getElem?_cons_succ, List.getElem?_cons_zero, Option.some.injEq] at ho; subst ho; go_simp; with_reducible rfl) (by assumption) ?_
            try simp only [Act.put, List.setIfInBounds_toArray, List.set_cons_zero, List.set_cons_succ]
            refine rg_take 5 (some 154) _ (by kernel_rfl) (by kernel_rfl) (by kernel_rfl) (fun _ _ _ h => h) (by kernel_rfl) (by kernel_rfl) (by intro w' hSw op_ ho; obtain ⟨p0, p1, p2⟩ := hSw.tr.pl.cells; obtain ⟨r0, r1, r2, r3⟩ := hSw.at_ HY.out; clear hSw; simp only [List.getElem?_toArray, List.getElem?_cons_succ, List.getElem?_cons_zero, Option.some.injEq] at ho; subst ho; go_simp; with_reducible rfl) (by assumption) ?_
            try simp only [Act.put, List.setIfInBounds_toArray, List.set_cons_zero, List.set_cons_succ]
            refine rg_take 6 (some 155) _ (by kernel_rfl) (by kernel_rfl) (by kernel_rfl) (fun _ _ _ h => h) (by kernel_rfl) (by kernel_rfl) (by intro w' hSw op_ ho; obtain ⟨p0, p1, p2⟩ := hSw.tr.pl.cells; obtain ⟨r0, r1, r2, r3⟩ := hSw.at_ HY.out; clear hSw; simp only [List.getElem?_toArray, List.getElem?_cons_succ, List.getElem?_cons_zero, Option.some.injEq] at ho; subst ho; go_simp; with_reducible rfl) (by assumption) ?_
            try simp only [Act.put, List.setIfInBounds_toArray, List.set_cons_zero, List.set_cons_succ]
            refine wpAnyH_done (by kernel_rfl) ?_ _
            have HE := Lib.hid hHeld
            clear hHeld
            go_wp2_with fail
            go_roundw
            case rel => exact ⟨k + 1, ret_v (by omega), by omega, HE.out.next HST2.out⟩
            case measure => simp [intOf]; omega
        · have hkk : k = l := by omega
          have k1 : ¬ (k : Int) < (l : Int) := by omega
          obtain ⟨m0, m1, m2, m3⟩ := vb_cells HO.out.sum
          obtain ⟨i0, i1, i2, i3⟩ := vb_cells HO.out.tr.iv
          have hST : upV T p L k = issV T p := by rw [hkk, ← HL.out]; exact upV_all HO.out.tr.ga.book.solid p HP.out
          rw [hST] at m0 m1 m2 m3
          obtain ⟨R, hR⟩ : ∃ R, issV T p = R := ⟨_, rfl⟩
          rw [hR] at m0 m1 m2 m3 i0 i1 i2 i3
          have hE := fun W => (eqVd R R W).trans (by rw [decide_eq_true rfl])
          clear hST HL hkk hR
          go_wp2_with fail
          go_ret
          exact ⟨rfl, HO.out.tr.ga.below⟩
end Go.Proofs.YtpgioihmaodlcaaDoor
