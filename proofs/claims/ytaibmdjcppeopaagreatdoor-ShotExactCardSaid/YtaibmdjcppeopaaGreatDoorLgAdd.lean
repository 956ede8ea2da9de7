/- Contract of a log's Add that writes. Conditions: the sentinels lie as the program's text lays them; the log lies in memory, there is room, a number and power; the disk has seen fewer than a million writes. -/
import Derived.Test.YtaibmdjcppeopaaGreatDoorLgN
import Derived.Deep.RegionHeld3
namespace Go.Proofs.YtaibmdjcppeopaaGreatDoor
open Go Go.RowKit

/-- What Add answers and leaves. -/
def AddPost (s : Nat → Addr) (B q p g cap a m b : Nat) (v : Value) (rs : List (List UInt8)) (x : List UInt8) (r : Nat × DS) (w : World) (e : Ending) (w' : World) : Prop :=
  (r.1 = 0 ∧ e = .returned .nilIface ∧ ∃ v', LogMem w' B q p g cap r.2 a m b v' (rs ++ [x]) false ∧ ChgS (LogS q p g v) w w' ∧ ∀ k, v'.ownBlock = some k → v.ownBlock = some k ∨ w.heap.size ≤ k) ∨
  (r.1 = 14 ∧ e = .returned (errV s 14) ∧ LogMem w' B q p g cap r.2 a m b v rs true ∧ ChgS (LogS q p g v) w w')
theorem log3_logS {q p g : Nat} {v : Value} {k : Nat} (h : Log3 q p g k) : LogS q p g v k := by
  rcases h with h | h | h
  · exact .inl h
  · exact .inr (.inl h)
  · exact .inr (.inr (.inl h))

set_option maxHeartbeats 3200000 in
set_option maxRecDepth 100000 in
theorem add_c (s : Nat → Addr) (w0 : World) (q p g cap : Nat) (d : DS) (a m b : Nat) (v : Value) (rs : List (List UInt8)) (T : ByteArray) (w : World) (hs : Sent s w0) (hb : Below w0.heap.size w0 w) (h : LogMem w w0.heap.size q p g cap d a m b v rs false)
    (hT : T.size ≤ 6000) (hroom : nblk T.size ≤ m - (layR b rs).length) (hnext : b + rs.length + 1 < 1073741824) (ho : d.on = true) (hw : d.wr + 108 ≤ 1000000) :
    Calls Tryz.prog 37 #[.pointer (some ⟨q, 0, none⟩), .string T] w fun e w' => AddPost s w0.heap.size q p g cap a m b v rs T.data.toList (d.puts (a + (layR b rs).length) (framesF (b + rs.length + 1) T.data.toList)) w e w' := by
  obtain ⟨z1, z2, z3⟩ := h.sizes
  have hbase := h.base
  have hfit := h.fits
  have hlq := h.lt
  have hn := next_c _ q p g cap d a m b v rs false w h
  have hnb : 1 ≤ nblk T.size ∧ nblk T.size ≤ 108 := nblk_bd hT
  have HN := Lib.hid hn; have HS := Lib.hid hs; have HB := Lib.hid hb; have HM := Lib.hid h
  obtain ⟨L, hL⟩ : ∃ L, framesF (b + rs.length + 1) T.data.toList = L := ⟨_, rfl⟩
  have hLl : L.length = nblk T.size := by rw [← hL, framesF_len, size_len]
  have hL64 : ∀ x ∈ L, x.length = 64 := by rw [← hL]; exact frames_64
  obtain ⟨i, hi⟩ : ∃ i, a + (layR b rs).length = i := ⟨_, rfl⟩
  rw [hi, hL]
  have hpn := puts_n (d := d) (l := L) (i := i) (by omega) hL64 ho
  have hp0 := puts_fst (d := d) (l := L) (i := i) (by omega) hL64 ho
  obtain ⟨R, hR⟩ : ∃ R, d.puts i L = R := ⟨_, rfl⟩
  rw [hR] at hpn hp0 ⊢
  have HRR := Lib.hid hR
  clear h hn hs hb hR
  go_enter Tryz.func37, Tryz.ntmps37
  go_wp2_with fail
  refine (HN.out).mono ?_
  rintro e w1 ⟨rfl, h1⟩
  have HM1 := Lib.hid (HM.out.same h1)
  have H1 := Lib.hid h1; clear h1
  go_wp2_with fail
  refine (blocks_okx _ (b + rs.length + 1) T _ (by omega) (by omega) (by omega) hT).mono ?_
  rintro e w2 ⟨⟨gb, rfl, hrow, hgb⟩, b2⟩
  rw [hL] at hrow
  have HRow := Lib.hid hrow
  have HM2 := Lib.hid (HM1.out.below b2 (Nat.le_refl _))
  have HB2 : Hid (Below w.heap.size w w2) := Lib.hid ((H1.out.below _).trans (b2.mono (by rw [H1.out.size]; exact Nat.le_refl _)))
  have hgb2 : w.heap.size ≤ gb := by rw [← H1.out.size]; exact hgb
  clear b2 hrow hgb HM1
  go_wp2_with fail
  refine (room_c _ q p g cap d a m b v rs false _ HM2.out).mono ?_
  rintro e w3 ⟨he, h3⟩
  obtain ⟨RM, he2, hr⟩ : ∃ RM : Int, e = .returned (.int .i64 RM) ∧ ¬ RM < ((nblk T.size : Nat) : Int) := ⟨_, he, by omega⟩
  subst he2
  clear he
  have HB3 : Hid (Below w.heap.size w w3) := Lib.hid (HB2.out.trans (h3.below _))
  have HM3 := Lib.hid (HM2.out.same h3)
  have HRow3 : Hid (RowV w3 gb (strVs L)) := Lib.hid ((h3.block gb).trans HRow.out)
  clear h3 HM2 HRow HB2
  go_wp2_with fail
  refine (next_c _ q p g cap d a m b v rs false _ HM3.out).mono ?_
  rintro e w4 ⟨he, h4⟩
  obtain ⟨N, he2, hge⟩ : ∃ N : Int, e = .returned (.int .i64 N) ∧ ¬ (1073741824 : Int) ≤ N := ⟨_, he, by omega⟩
  subst he2
  clear he
  have HB4 : Hid (Below w.heap.size w w4) := Lib.hid (HB3.out.trans (h4.below _))
  have HM4 := Lib.hid (HM3.out.same h4)
  have HRow4 : Hid (RowV w4 gb (strVs L)) := Lib.hid ((h4.block gb).trans HRow3.out)
  have c6 := HM4.out.cells.2.2.2.2.2.2
  have c0 := HM4.out.cells.1
  have c5 := HM4.out.cells.2.2.2.2.2.1
  rw [hi] at c5
  have hgbl := HRow4.out.lt
  have hCEL : Hid (Cel w4 q [(0, .pointer (some ⟨p, 0, none⟩)), (5, .int .i64 (i : Int))]) := Lib.hid (Cel.mk2 c0 c5)
  have HMID : Hid (LgMid w4 w4 w0.heap.size q p g cap d a m b v rs false) := Lib.hid (LgMid.start HM4.out)
  have hcel : ∀ (W : World) (e : DS) (f : Bool), LogMem W w0.heap.size q p g cap e a m b v rs f → Cel W q [(0, .pointer (some ⟨p, 0, none⟩)), (5, .int .i64 (i : Int))] := fun W e f h => by
    have h0 := h.cells.1
    have h5 := h.cells.2.2.2.2.2.1
    rw [hi] at h5
    exact Cel.mk2 h0 h5
  have HCE := Lib.hid hcel
  have hHRP : ∀ W : World, LgMid w4 W w0.heap.size q p g cap d a m b v rs false → Calls Tryz.prog 52 #[.pointer (some ⟨p, 0, none⟩), .int .i64 (i : Int), .slice (some ⟨gb, 0, none⟩) L.length L.length] W fun e w' => e = .returned (errV s R.1) ∧ LgMid w4 w' w0.heap.size q p g cap R.2 a m b v rs false := fun W hW => by
    have hb4 : Below w0.heap.size w0 w4 := HB.out.trans (HB4.out.mono HB.out.size)
    have hbW : Below w0.heap.size w0 W := hb4.trans (hW.chg.below hW.mem.lo3 hb4.size)
    have hrp := rput_c s w0 p g gb cap d i _ L W HS.out hbW hW.mem.disk HM4.out.lo rfl (hW.chg.row HRow4.out (by rintro (h | h | h) <;> omega)) (by omega) (by omega) hL64 (by omega) ho (by omega)
    rw [HRR.out] at hrp
    refine hrp.mono ?_
    rintro e w' ⟨he, hd, hc⟩
    exact ⟨he, hW.mem.disked hd hc hpn.1, hW.chg.trans (hc.mono fun _ _ h => dsk2_log3 h) fun _ _ h => h⟩
  have HRPW := Lib.hid hHRP
  clear hcel h4 HM3 HRow3 HB3 HRow4 HN HM H1 hnext hbase hHRP c0 c5
  rw [← hLl] at hroom hnb hr ⊢
  have HLL := Lib.hid hLl
  clear hLl
  rcases hp0 with h1 | h1
  · rw [h1] at HRPW
    simp only [errV_zero] at HRPW
    go_wp2_with fail
    go_region_held3 (fun W => W.cell? ⟨q, 0, none⟩ = some (.pointer (some ⟨p, 0, none⟩)) ∧ W.cell? ⟨q, 5, none⟩ = some (.int .i64 (i : Int)))
      (exact Cel.two (by (repeat' (first | (with_reducible assumption) | (with_reducible exact Hid.out (by with_reducible assumption)) | (with_reducible refine Cel.drewN ?_ _) | (with_reducible refine Cel.drew ?_)))))
      (first
        | (go_at_call 52; (with_reducible refine (HRPW.out _ (by (repeat' (first | (with_reducible assumption) | (with_reducible exact Hid.out (by with_reducible assumption)) | (with_reducible refine LgMid.drewN ?_ _) | (with_reducible refine LgMid.drew ?_))))).mono ?_); rintro e w5 ⟨rfl, i5⟩; have c5 : Cel w5 q [(0, .pointer (some ⟨p, 0, none⟩)), (5, .int .i64 (i : Int))] := HCE.out _ _ _ i5.mem)
        | (go_at_call 55; (with_reducible refine (note_ok2 _ _ q p g cap R.2 a m b v rs _ (by (repeat' (first | (with_reducible assumption) | (with_reducible exact Hid.out (by with_reducible assumption)) | (with_reducible refine LgMid.drewN ?_ _) | (with_reducible refine LgMid.drew ?_))))).mono ?_); rintro e w6 ⟨rfl, i6⟩; have c6 : Cel w6 q [(0, .pointer (some ⟨p, 0, none⟩)), (5, .int .i64 (i : Int))] := HCE.out _ _ _ i6.mem))
    all_goals (
      have hm := i6.mem
      have hc : ChgS (LogS q p g v) w w6 := (ChgS.of_below HB4.out).trans (i6.chg.mono fun _ _ h => log3_logS h) fun _ _ h => h
      have c4 := hm.cells.2.2.2.2.1
      have c5 := hm.cells.2.2.2.2.2.1
      rw [hi] at c5
      have f5 := frozen_of_heap hm.blk 5
      have f4 := frozen_of_heap hm.blk 4
      obtain ⟨ti, hti, hz0, hz1, hz2⟩ := Tryz.infoSt
      have hwv : IntKind.i64.wrap ((i : Int) + ((L.length : Nat) : Int)) = (i : Int) + ((L.length : Nat) : Int) := IntWalk.i64_in _ (by omega)
      have hqr := hm.lt
      have HOW : Hid (∀ val : Value, ∀ o : Obj, ((w6.setCell ⟨q, 5, none⟩ val).alloc o).ownsRow w0.heap.size 9 1 v rs.length (strVs rs)) := Lib.hid fun val o =>
        (own_same hm.own fun k hk => Below.heap_setCell w6 ⟨q, 5, none⟩ val k (hm.apart k hk).1).alloc o
      have HF : Hid (∀ (val : Value) (o : Obj) (w5 : World) (v' : Value), val = .int .i64 ((i : Int) + ((L.length : Nat) : Int)) → w5.ownsRow w0.heap.size 9 1 v' (rs.length + 1) (strVs rs ++ [.string T]) → ((w6.setCell ⟨q, 5, none⟩ val).alloc o).grownBy w5 v.ownBlock →
          (v'.ownBlock = v.ownBlock ∨ v'.ownBlock = some (w6.heap.size + 1)) → AddPost s w0.heap.size q p g cap a m b v rs T.data.toList R w (.returned .nilIface) (w5.setCell ⟨q, 4, none⟩ v') ∧ w5.cell? ⟨q, 4, none⟩ = some v ∧ w5.frozen? ⟨q, 4, none⟩ = false) := Lib.hid fun val o w5 v' hval o1 g1 hat => by
        have hval' : val = .int .i64 ((a + ((layR b rs).length + L.length) : Nat) : Int) := by rw [hval]; exact ret_v (by omega)
        have o1' : w5.ownsRow w0.heap.size 9 1 v' (rs.length + 1) (strVs rs ++ [.string (bst T.data.toList)]) := by rw [← bst_of]; exact o1
        have hsz : ((w6.setCell ⟨q, 5, none⟩ val).alloc o).heap.size = w6.heap.size + 1 := by rw [World.size_alloc]; simp [World.setCell]
        rw [← hsz] at hat
        obtain ⟨k1, k2, k3⟩ := hm.added hval' (by rw [HLL.out, size_len]) (by omega) o1' g1 hat
        have hq4 : w5.heap[q]? = ((w6.setCell ⟨q, 5, none⟩ val).alloc o).heap[q]? := g1.block q (by rw [World.size_alloc]; simp [World.setCell]; omega) fun he => (hm.apart q he.symm).1 rfl
        have hq5 : ((w6.setCell ⟨q, 5, none⟩ val).alloc o).heap[q]? = some (.cells ((logV p a m b v (layR b rs).length false).setIfInBounds 5 val) 80 (0, 0)) := (Below.heap_alloc _ o q (by simp [World.setCell]; omega)).trans (set_cells hm.blk)
        refine ⟨?_, (cell_of_heap (hq4.trans hq5) 4).trans rfl, frozen_of_heap (hq4.trans hq5) 4⟩
        exact .inl ⟨h1, rfl, v', k1, hc.trans k2 fun _ _ h => h, fun k hk => by
          rcases k3 k hk with h | h
          · exact .inl h
          · exact .inr (Nat.le_trans hc.size h)⟩
      clear hm hc i6 i5 c6 HM4 HB4 hCEL HMID HCE HRPW
      go_wp2_with (at_builtin; refine wpList_append_own_at _ rfl _ _ 22 rfl w0.heap.size 9 ti _ 1 16 Tryz.underlying22 hti hz0 hz1 hz2 rfl (by decide) _ rs.length (strVs rs) rfl (HOW.out _ _) ⟨_, 0, none⟩ 1 1 [.string T] rfl rfl ?c1 ?c2 ?c3 ?c4 ?c5 ?_)
      case c1 =>
        have hcn := cell_one_new (w6.setCell ⟨q, 5, none⟩ (.int .i64 ((i : Int) + (L.length : Int)))) (.string T) 9
        rw [World.size_setCell] at hcn
        exact hcn
      case c2 => first | rfl | (intro u hu; simp at hu; subst hu; rfl)
      case c3 => unfold maxLen; omega
      case c4 => omega
      case c5 => first | omega | (rw [World.size_alloc]; simp [World.setCell]; omega)
      intro v' w5 o1 g1 _ hat
      obtain ⟨A', c', rfl⟩ := own_form o1
      obtain ⟨k1, k2, k3⟩ := HF.out _ _ w5 _ rfl o1 g1 hat
      have K1 := Lib.hid k1
      clear k1 o1 g1 hat HF HOW c4 c5
      go_wp2_with fail
      go_ret
      exact K1.out)
  · rw [h1] at HRPW
    simp only [errV_pos] at HRPW
    go_wp2_with fail
    go_region_held3 (fun W => W.cell? ⟨q, 0, none⟩ = some (.pointer (some ⟨p, 0, none⟩)) ∧ W.cell? ⟨q, 5, none⟩ = some (.int .i64 (i : Int)))
      (exact Cel.two (by (repeat' (first | (with_reducible assumption) | (with_reducible exact Hid.out (by with_reducible assumption)) | (with_reducible refine Cel.drewN ?_ _) | (with_reducible refine Cel.drew ?_)))))
      (first
        | (go_at_call 52; (with_reducible refine (HRPW.out _ (by (repeat' (first | (with_reducible assumption) | (with_reducible exact Hid.out (by with_reducible assumption)) | (with_reducible refine LgMid.drewN ?_ _) | (with_reducible refine LgMid.drew ?_))))).mono ?_); rintro e w5 ⟨rfl, i5⟩; have c5 : Cel w5 q [(0, .pointer (some ⟨p, 0, none⟩)), (5, .int .i64 (i : Int))] := HCE.out _ _ _ i5.mem)
        | (go_at_call 55; (with_reducible refine (note_bad2 _ _ q p g cap R.2 a m b v rs (s 13) _ (by (repeat' (first | (with_reducible assumption) | (with_reducible exact Hid.out (by with_reducible assumption)) | (with_reducible refine LgMid.drewN ?_ _) | (with_reducible refine LgMid.drew ?_))))).mono ?_); rintro e w6 ⟨rfl, i6⟩; have c6 : Cel w6 q [(0, .pointer (some ⟨p, 0, none⟩)), (5, .int .i64 (i : Int))] := HCE.out _ _ _ i6.mem))
    all_goals (
      have HF : Hid (AddPost s w0.heap.size q p g cap a m b v rs T.data.toList R w (.returned (errV s 14)) w6) := Lib.hid (.inr ⟨h1, rfl, i6.mem, (ChgS.of_below HB4.out).trans (i6.chg.mono fun _ _ h => log3_logS h) fun _ _ h => h⟩)
      clear i5 i6 c6 HM4 HB4 hCEL HMID HCE HRPW
      go_wp2_with fail
      go_ret
      exact HF.out)
end Go.Proofs.YtaibmdjcppeopaaGreatDoor
