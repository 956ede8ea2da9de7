/- Contract of a log's Add that writes. Conditions: the sentinels lie as the program's text lays them; the log lies in memory, there is room, a number and power; the disk has seen fewer than a million writes. -/
import Derived.Test.YtemdibhafkcflaaDoorLgN
namespace Go.Proofs.YtemdibhafkcflaaDoor
open Go Go.RowKit

/-- What a round of the writing begins with. -/
def ARel (w0 w : World) (q p g gb cap : Nat) (d : DS) (a m b : Nat) (v : Value) (rs L : List (List UInt8)) (i : Nat) (x : Value) (wr : World) : Prop :=
  ∃ (j : Nat) (e : DS), x = .int .i64 (j : Int) ∧ j ≤ L.length ∧ PutAt d i L j e ∧ LogMem wr w0.heap.size q p g cap e a m b v rs false ∧ RowV wr gb (strVs L) ∧ Below w0.heap.size w0 wr ∧ ChgS (Log3 q p g) w wr

/-- What Add answers and leaves. -/
def AddPost (s : Nat → Addr) (B q p g cap a m b : Nat) (v : Value) (rs : List (List UInt8)) (x : List UInt8) (r : Nat × DS) (w : World) (e : Ending) (w' : World) : Prop :=
  (r.1 = 0 ∧ e = .returned .nilIface ∧ ∃ v', LogMem w' B q p g cap r.2 a m b v' (rs ++ [x]) false ∧ ChgS (LogS q p g v) w w' ∧ ∀ k, v'.ownBlock = some k → v.ownBlock = some k ∨ w.heap.size ≤ k) ∨
  (r.1 = 14 ∧ e = .returned (errV s 14) ∧ LogMem w' B q p g cap r.2 a m b v rs true ∧ ChgS (LogS q p g v) w w')
theorem log3_logS {q p g : Nat} {v : Value} {k : Nat} (h : Log3 q p g k) : LogS q p g v k := by
  rcases h with h | h | h
  · exact .inl h
  · exact .inr (.inl h)
  · exact .inr (.inr (.inl h))

set_option maxHeartbeats 3200000 in
set_option maxRecDepth 100000 in
theorem add_c (s : Nat → Addr) (w0 : World) (q p g cap : Nat) (d : DS) (a m b : Nat) (v : Value) (rs : List (List UInt8)) (T : ByteArray) (w : World) (hs : Sent s w0) (hb : Below w0.heap.size w0 w) (h : LogMem w w0.heap.size q p g cap d a m b v rs false)
    (hT : T.size ≤ 6000) (hroom : nblk T.size ≤ m - (layR b rs).length) (hnext : b + rs.length + 1 < 1073741824) (ho : d.on = true) (hw : d.wr + 108 ≤ 1000000) :
    Calls Tryd.prog 10 #[.pointer (some ⟨q, 0, none⟩), .string T] w fun e w' => AddPost s w0.heap.size q p g cap a m b v rs T.data.toList (d.puts (a + (layR b rs).length) (framesF (b + rs.length + 1) T.data.toList)) w e w' := by
  obtain ⟨z1, z2, z3⟩ := h.sizes
  have hbase := h.base
  have hfit := h.fits
  have hlq := h.lt
  have hn := next_c _ q p g cap d a m b v rs false w h
  have hnb : 1 ≤ nblk T.size ∧ nblk T.size ≤ 108 := nblk_bd hT
  have HN := Lib.hid hn; have HS := Lib.hid hs; have HB := Lib.hid hb; have HM := Lib.hid h
  obtain ⟨L, hL⟩ : ∃ L, framesF (b + rs.length + 1) T.data.toList = L := ⟨_, rfl⟩
  have hLl : L.length = nblk T.size := by rw [← hL, framesF_len, size_len]
  have hL64 : ∀ x ∈ L, x.length = 64 := by rw [← hL]; exact frames_64
  obtain ⟨i, hi⟩ : ∃ i, a + (layR b rs).length = i := ⟨_, rfl⟩
  rw [hi, hL]
  clear h hn hs hb
  go_enter Tryd.func10, Tryd.ntmps10
  go_wp2_with fail
  refine (HN.out).mono ?_
  rintro e w1 ⟨rfl, h1⟩
  have HM1 := Lib.hid (HM.out.same h1)
  have H1 := Lib.hid h1; clear h1
  go_wp2_with fail
  refine (blocks_okx _ (b + rs.length + 1) T _ (by omega) (by omega) (by omega) hT).mono ?_
  rintro e w2 ⟨⟨gb, rfl, hrow, hgb⟩, b2⟩
  rw [hL] at hrow
  have HRow := Lib.hid hrow
  have HM2 := Lib.hid (HM1.out.below b2 (Nat.le_refl _))
  have HB2 : Hid (Below w.heap.size w w2) := Lib.hid ((H1.out.below _).trans (b2.mono (by rw [H1.out.size]; exact Nat.le_refl _)))
  have hgb2 : w.heap.size ≤ gb := by rw [← H1.out.size]; exact hgb
  clear b2 hrow hgb HM1
  go_wp2_with fail
  refine (room_c _ q p g cap d a m b v rs false _ HM2.out).mono ?_
  rintro e w3 ⟨he, h3⟩
  obtain ⟨R, he2, hr⟩ : ∃ R : Int, e = .returned (.int .i64 R) ∧ ¬ R < ((nblk T.size : Nat) : Int) := ⟨_, he, by omega⟩
  subst he2
  clear he
  have HB3 : Hid (Below w.heap.size w w3) := Lib.hid (HB2.out.trans (h3.below _))
  have HM3 := Lib.hid (HM2.out.same h3)
  have HRow3 : Hid (RowV w3 gb (strVs L)) := Lib.hid ((h3.block gb).trans HRow.out)
  clear h3 HM2 HRow HB2
  go_wp2_with fail
  refine (next_c _ q p g cap d a m b v rs false _ HM3.out).mono ?_
  rintro e w4 ⟨he, h4⟩
  obtain ⟨N, he2, hge⟩ : ∃ N : Int, e = .returned (.int .i64 N) ∧ ¬ (1073741824 : Int) ≤ N := ⟨_, he, by omega⟩
  subst he2
  clear he
  have HB4 : Hid (Below w.heap.size w w4) := Lib.hid (HB3.out.trans (h4.below _))
  have HM4 := Lib.hid (HM3.out.same h4)
  have HRow4 : Hid (RowV w4 gb (strVs L)) := Lib.hid ((h4.block gb).trans HRow3.out)
  have c6 := HM4.out.cells.2.2.2.2.2.2
  have HST : Hid (ARel w0 w q p g gb cap d a m b v rs L i (.int .i64 0) w4) := Lib.hid ⟨0, d, rfl, Nat.zero_le _, PutAt.start i L ho, HM4.out, HRow4.out, HB.out.trans (HB4.out.mono HB.out.size), ChgS.of_below HB4.out⟩
  clear h4 HM3 HRow3 HB3 HM4 HRow4 HB4 HN HM H1 hnext hbase
  rw [← hLl] at hroom hnb ⊢
  go_wp2_with fail
  go_loopw [41] (fun x wr => ARel w0 w q p g gb cap d a m b v rs L i x wr) (fun x _ => L.length - (intOf x).toNat)
  case atStart => exact HST.out
  case round =>
    obtain ⟨j, e, rfl, hj, hpa, hm, hrow, hb, hc⟩ := hrel
    clear HST
    by_cases hjn : j < L.length
    · have j0 : (0 : Int) ≤ (j : Int) := by omega
      have j1 : (j : Int) < (L.length : Int) := by omega
      have hLj : L[j]? = some L[j] := List.getElem?_eq_getElem hjn
      have h64 : L[j].length = 64 := hL64 _ (List.getElem_mem hjn)
      obtain ⟨X, hX⟩ : ∃ X, bst L[j] = X := ⟨_, rfl⟩
      have hXs : X.size = 64 := by rw [← hX, bst_size, h64]
      have hXl : X.data.toList = L[j] := by rw [← hX]; rfl
      have cx : wr.cell? ⟨gb, j, none⟩ = some (.string X) := hrow.cell (by rw [strVs_get, hLj, ← hX]; rfl)
      have hgbl := hrow.lt
      have c5 := hm.cells.2.2.2.2.2.1
      rw [hi] at c5
      have hen : e.n = d.n := hpa.like.n
      have hij : IntKind.i64.wrap ((i : Int) + (j : Int)) = ((i + j : Nat) : Int) := by
        rw [IntWalk.i64_in _ (by omega)]; omega
      have hlw := lwrite_c s q p g cap e (logV p a m b v (layR b rs).length false) (i + j) X wr (HS.out.below hb (Nat.le_refl _)) hm.blk rfl rfl hm.disk hm.ne hXs (by omega) hpa.on (by have := hpa.wr; omega)
      rw [hXl] at hlw
      have HLW := Lib.hid hlw
      have HPA := Lib.hid hpa; have HM := Lib.hid hm; have HR := Lib.hid hrow; have HBr := Lib.hid hb; have HC := Lib.hid hc
      have HLJ := Lib.hid hLj; have H64 := Lib.hid h64; have HEN := Lib.hid hen
      clear hpa hm hrow hb hc hlw hX hXl hLj h64 hen
      go_wp2_with fail
      refine (HLW.out).mono ?_
      rintro e2 w3 ⟨he2, hwr⟩
      have hrn : (e.write ((i + j : Nat) : Int) L[j]).2.n = e.n := by
        rcases write_fst (d := e) (i := i + j) (s := L[j]) (by have := HEN.out; omega) H64.out HPA.out.on with ⟨_, h2, _⟩ | ⟨_, h2, _⟩
        · rw [h2]; exact (wrote_like (by have := HEN.out; omega) H64.out).n
        · rw [h2]; exact torn_n (by have := HEN.out; omega) H64.out
      have hm3 := HM.out.wrote hwr hrn
      have hc3 : ChgS (Log3 q p g) w w3 := HC.out.trans hwr.chg fun _ _ h => h
      have hb3 : Below w0.heap.size w0 w3 := HBr.out.trans (hwr.chg.below (HM.out.lo3) HBr.out.size)
      rcases HPA.out.step HLJ.out H64.out (by omega) with ⟨hr, hn⟩ | ⟨hr, hn⟩
      · rw [hr] at hm3 he2
        rw [errV_zero] at he2
        subst he2
        have hrow3 : RowV w3 gb (strVs L) := hwr.chg.row HR.out (by rintro (h | h | h) <;> omega)
        have HNX : Hid (ARel w0 w q p g gb cap d a m b v rs L i (.int .i64 ((j : Int) + 1)) w3) := Lib.hid ⟨j + 1, _, ret_v (by omega), hjn, hn, hm3, hrow3, hb3, hc3⟩
        clear HPA HM HBr HC HR hwr hm3 hc3 hb3 hn hrow3 c5 cx
        go_wp2_with fail
        go_roundw
        case rel => exact HNX.out
        case measure => simp [intOf]; omega
      · rw [hr] at hm3 he2
        have HF : Hid (AddPost s w0.heap.size q p g cap a m b v rs T.data.toList (d.puts i L) w (.returned (errV s 14)) w3) := Lib.hid (by
          rw [hn]
          exact .inr ⟨hr, rfl, hm3, hc3.mono fun _ _ h => log3_logS h⟩)
        rw [errV_pos] at he2
        subst he2
        clear HPA HM HBr HC HR hwr hm3 hc3 hb3 hn c5 cx
        go_wp2_with fail
        go_ret
        exact HF.out
    · have hfin := hpa.fin (by omega)
      obtain rfl : j = L.length := by omega
      have c4 := hm.cells.2.2.2.2.1
      have c5 := hm.cells.2.2.2.2.2.1
      rw [hi] at c5
      have f5 := frozen_of_heap hm.blk 5
      have f4 := frozen_of_heap hm.blk 4
      obtain ⟨ti, hti, hz0, hz1, hz2⟩ := Tryd.infoSt
      have hwv : IntKind.i64.wrap ((i : Int) + ((nblk T.size : Nat) : Int)) = (i : Int) + ((nblk T.size : Nat) : Int) := IntWalk.i64_in _ (by omega)
      have hqr := hm.lt
      have HOW : Hid (∀ val : Value, ∀ o : Obj, ((wr.setCell ⟨q, 5, none⟩ val).alloc o).ownsRow w0.heap.size 9 1 v rs.length (strVs rs)) := Lib.hid fun val o =>
        (own_same hm.own fun k hk => Below.heap_setCell wr ⟨q, 5, none⟩ val k (hm.apart k hk).1).alloc o
      have HF : Hid (∀ (val : Value) (o : Obj) (w5 : World) (v' : Value), val = .int .i64 ((i : Int) + ((nblk T.size : Nat) : Int)) → w5.ownsRow w0.heap.size 9 1 v' (rs.length + 1) (strVs rs ++ [.string T]) → ((wr.setCell ⟨q, 5, none⟩ val).alloc o).grownBy w5 v.ownBlock →
          (v'.ownBlock = v.ownBlock ∨ v'.ownBlock = some (wr.heap.size + 1)) → AddPost s w0.heap.size q p g cap a m b v rs T.data.toList (d.puts i L) w (.returned .nilIface) (w5.setCell ⟨q, 4, none⟩ v') ∧ w5.cell? ⟨q, 4, none⟩ = some v ∧ w5.frozen? ⟨q, 4, none⟩ = false) := Lib.hid fun val o w5 v' hval o1 g1 hat => by
        have hval' : val = .int .i64 ((a + ((layR b rs).length + L.length) : Nat) : Int) := by rw [hval]; exact ret_v (by rw [hLl]; omega)
        have o1' : w5.ownsRow w0.heap.size 9 1 v' (rs.length + 1) (strVs rs ++ [.string (bst T.data.toList)]) := by rw [← bst_of]; exact o1
        have hsz : ((wr.setCell ⟨q, 5, none⟩ val).alloc o).heap.size = wr.heap.size + 1 := by rw [World.size_alloc]; simp [World.setCell]
        rw [← hsz] at hat
        obtain ⟨k1, k2, k3⟩ := hm.added hval' (by rw [hLl, size_len]) (by omega) o1' g1 hat
        have hq4 : w5.heap[q]? = ((wr.setCell ⟨q, 5, none⟩ val).alloc o).heap[q]? := g1.block q (by rw [World.size_alloc]; simp [World.setCell]; omega) fun he => (hm.apart q he.symm).1 rfl
        have hq5 : ((wr.setCell ⟨q, 5, none⟩ val).alloc o).heap[q]? = some (.cells ((logV p a m b v (layR b rs).length false).setIfInBounds 5 val) 52 (0, 0)) := (Below.heap_alloc _ o q (by simp [World.setCell]; omega)).trans (set_cells hm.blk)
        refine ⟨?_, (cell_of_heap (hq4.trans hq5) 4).trans rfl, frozen_of_heap (hq4.trans hq5) 4⟩
        rw [hfin]
        exact .inl ⟨rfl, rfl, v', k1, (hc.mono fun _ _ h => log3_logS h).trans k2 fun _ _ h => h, fun k hk => by
          rcases k3 k hk with h | h
          · exact .inl h
          · exact .inr (Nat.le_trans hc.size h)⟩
      clear hpa hm hrow hb hc hfin
      have hge : ¬ ((L.length : Int) < (L.length : Int)) := by omega
      go_wp2_with (at_builtin; refine wpList_append_own_at _ rfl _ _ 32 rfl w0.heap.size 9 ti _ 1 16 Tryd.underlying32 hti hz0 hz1 hz2 rfl (by decide) _ rs.length (strVs rs) rfl (HOW.out _ _) ⟨_, 0, none⟩ 1 1 [.string T] rfl rfl ?c1 ?c2 ?c3 ?c4 ?c5 ?_)
      case c2 => first | rfl | (intro u hu; simp at hu; subst hu; rfl)
      case c3 => unfold maxLen; omega
      case c4 => omega
      case c5 => first | omega | (rw [World.size_alloc]; simp [World.setCell]; omega)
      intro v' w5 o1 g1 _ hat
      obtain ⟨A', c', rfl⟩ := own_form o1
      obtain ⟨k1, k2, k3⟩ := HF.out _ _ w5 _ rfl o1 g1 hat
      have K1 := Lib.hid k1
      clear k1 o1 g1 hat HF HOW c4 c5
      go_wp2_with fail
      go_ret
      exact K1.out
end Go.Proofs.YtemdibhafkcflaaDoor
