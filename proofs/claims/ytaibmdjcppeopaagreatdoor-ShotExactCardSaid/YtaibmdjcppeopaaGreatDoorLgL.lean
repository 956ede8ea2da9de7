/- Contract of a log's load: the records that the region's blocks tell. Conditions: the sentinels lie as the program's text lays them; the log lies in memory without records; there is power. -/
import Derived.Test.YtaibmdjcppeopaaGreatDoorLgN
import Derived.Lib.JoinLaws
import Derived.Deep.RegionHeld3
namespace Go.Proofs.YtaibmdjcppeopaaGreatDoor
open Go Go.RowKit

/-- The length of a slice. -/
def lenV : Value → Nat
  | .slice _ n _ => n
  | _ => 0
theorem SRow.at_end {w : World} {B : Nat} {gb o n : Nat} {zs : List ByteArray} (h : SRow w B (some ⟨gb, o, none⟩) zs) (hn : n ≤ zs.length) : SRow w B (some ⟨gb, o + n, none⟩) (zs.drop n) := fun h0 => by
  rw [List.length_drop] at h0
  obtain ⟨a, e, hb, hc⟩ := h (by omega)
  obtain rfl := Option.some.inj e
  refine ⟨_, rfl, hb, fun i z hz => ?_⟩
  rw [List.getElem?_drop] at hz
  have := hc (n + i) z hz
  rw [addr_add] at this ⊢
  rw [show o + n + i = o + (n + i) by omega]
  exact this
theorem SRow.keptS {S : Nat → Prop} {w w' : World} {B : Nat} {gb o : Nat} {zs : List ByteArray} (h : SRow w B (some ⟨gb, o, none⟩) zs) (hc : ChgS S w w') (hS : ¬ S gb) : SRow w' B (some ⟨gb, o, none⟩) zs := fun h0 => by
  obtain ⟨a, e, hb, hcc⟩ := h h0
  obtain rfl := Option.some.inj e
  refine ⟨_, rfl, hb, fun i z hz => ?_⟩
  have h1 := hcc i z hz
  have hl := lt_of_cell h1
  rw [addr_add] at h1 hl ⊢
  exact (World.cell?_of_block (a := ⟨gb, o + i, none⟩) (hc.block gb hl hS)).trans h1

theorem SRow.mono {w : World} {B B' : Nat} {A : Option Addr} {zs : List ByteArray} (h : SRow w B A zs) (hB : B ≤ B') : SRow w B' A zs := fun h0 => by
  obtain ⟨a, e, hb, hc⟩ := h h0
  exact ⟨a, e, by omega, hc⟩
/-- What a round of the second loop begins with: rs are the records so far. -/
def LsRel (w0 w : World) (q p g cap : Nat) (d : DS) (a m b : Nat) (bl : Value) (wr : World) : Prop :=
  ∃ (rs rest : List (List UInt8)) (v : Value) (gb o c : Nat), bl = .slice (some ⟨gb, o, none⟩) rest.length c ∧ rest.length ≤ c ∧ LoadAt (rowsD d a m) b rs rest ∧ SRow wr wr.heap.size (some ⟨gb, o, none⟩) (rest.map bst) ∧ LogMem wr w0.heap.size q p g cap d a m b v rs false ∧
    Below w0.heap.size w0 wr ∧ ChgS (fun k => k = q) w wr ∧ w.heap.size ≤ gb ∧ gb < wr.heap.size ∧ (∀ k, v.ownBlock = some k → w.heap.size ≤ k ∧ k ≠ gb)
/-- What load leaves. -/
def Loaded (w0 w : World) (q p g cap : Nat) (d : DS) (a m b : Nat) (e : Ending) (w' : World) : Prop :=
  e = .returned .nilIface ∧ ∃ rs v, Follows (rowsD d a m) b rs ∧ LogMem w' w0.heap.size q p g cap d a m b v rs false ∧ ChgS (fun k => k = q) w w' ∧ ∀ k, v.ownBlock = some k → w.heap.size ≤ k

theorem LogMem.taken {w w5 : World} {B q p g cap : Nat} {e : DS} {a m b n : Nat} {v v' val : Value} {rs : List (List UInt8)} {o : Obj} {x : List UInt8} (h : LogMem w B q p g cap e a m b v rs false) (hval : val = .int .i64 ((a + ((layR b rs).length + n) : Nat) : Int))
    (hn : (layR b (rs ++ [x])).length = (layR b rs).length + n) (hroom : (layR b rs).length + n ≤ m) (o1 : w5.ownsRow B 9 1 v' (rs.length + 1) (strVs rs ++ [.string (bst x)])) (g1 : (w.alloc o).grownBy w5 v.ownBlock)
    (hat : v'.ownBlock = v.ownBlock ∨ v'.ownBlock = some (w.heap.size + 1)) :
    LogMem ((w5.setCell ⟨q, 4, none⟩ v').setCell ⟨q, 5, none⟩ val) B q p g cap e a m b v' (rs ++ [x]) false ∧ ChgS (fun k => k = q ∨ v.ownBlock = some k) w ((w5.setCell ⟨q, 4, none⟩ v').setCell ⟨q, 5, none⟩ val) ∧
      w5.heap[q]? = some (.cells (logV p a m b v (layR b rs).length false) 80 (0, 0)) := by
  have hl := h.lt
  have hsz2 : (w.alloc o).heap.size = w.heap.size + 1 := World.size_alloc _ _
  have hold : ∀ k, k < w.heap.size → some k ≠ v.ownBlock → k ≠ q → ((w5.setCell ⟨q, 4, none⟩ v').setCell ⟨q, 5, none⟩ val).heap[k]? = w.heap[k]? := fun k hk h1 h2 =>
    (Below.heap_setCell _ ⟨q, 5, none⟩ val k h2).trans ((Below.heap_setCell w5 ⟨q, 4, none⟩ v' k h2).trans ((g1.block k (by omega) h1).trans (Below.heap_alloc _ o k hk)))
  have hap : ∀ k, k = q ∨ k = p ∨ k = g → some k ≠ v.ownBlock := fun k hk he => by
    obtain ⟨h1, h2, h3⟩ := h.apart k he.symm
    rcases hk with hk | hk | hk <;> contradiction
  have hq5 : w5.heap[q]? = some (.cells (logV p a m b v (layR b rs).length false) 80 (0, 0)) :=
    (g1.block q (by omega) (hap q (.inl rfl))).trans ((Below.heap_alloc _ o q (by omega)).trans h.blk)
  have hown' : ∀ k, v'.ownBlock = some k → k ≠ q ∧ k ≠ p ∧ k ≠ g := fun k hk => by
    rcases hat with he | he
    · exact h.apart k (by rw [← he]; exact hk)
    · rw [he] at hk
      have := Option.some.inj hk
      omega
  refine ⟨⟨?_, h.disk.same (hold p (by omega) (hap p (.inr (.inl rfl))) (by omega)) (hold g (by omega) (hap g (.inr (.inr rfl))) (by omega)), ?_, fun h => absurd h (by simp), h.lo, h.ne, h.fits, by rw [hn]; exact hroom, h.base, hown'⟩, ?_, hq5⟩
  · rw [set_cells (set_cells hq5), hn, hval]; rfl
  · have o2 : ((w5.setCell ⟨q, 4, none⟩ v').setCell ⟨q, 5, none⟩ val).ownsRow B 9 1 v' (rs.length + 1) (strVs rs ++ [.string (bst x)]) :=
      own_same o1 fun k hk => (Below.heap_setCell _ ⟨q, 5, none⟩ val k (hown' k hk).1).trans (Below.heap_setCell w5 ⟨q, 4, none⟩ v' k (hown' k hk).1)
    rw [List.length_append, List.length_singleton]
    unfold strVs at o2 ⊢
    rw [List.map_append]
    exact o2
  · exact ⟨g1.os, g1.tape, g1.output, by have := g1.size; rw [hsz2] at this; show w.heap.size ≤ ((w5.setCell _ _).setCell _ _).heap.size; simp [World.setCell]; omega, fun k hk hs => hold k hk (fun he => hs (.inr he.symm)) fun he => hs (.inl he)⟩

theorem LoadAt.last {l rest : List (List UInt8)} {b : Nat} {rs : List (List UInt8)} (h : LoadAt l b rs rest) : (layR b rs).length + rest.length = l.length := by
  have := h.le
  rw [h.rest, List.length_drop]; omega
theorem nextF_other {l : List (List UInt8)} {b q n : Nat} {x : List UInt8} (h : readF l = .ok (x, q, n)) (hq : q ≠ b + 1) : nextF l b = none := by unfold nextF; rw [h]; exact if_neg hq
theorem nextF_this {l : List (List UInt8)} {b q n : Nat} {x : List UInt8} (h : readF l = .ok (x, q, n)) (hq : q = b + 1) : nextF l b = some (x, n) := by unfold nextF; rw [h]; exact if_pos hq

set_option maxHeartbeats 6400000 in
set_option maxRecDepth 100000 in
theorem load_c (s : Nat → Addr) (w0 : World) (q p g cap : Nat) (d : DS) (a m b : Nat) (w : World) (hs : Sent s w0) (hb : Below w0.heap.size w0 w) (h : LogMem w w0.heap.size q p g cap d a m b (.slice none 0 0) [] false)
    (hm0 : 0 < m) (ho : d.on = true) :
    Calls Tryz.prog 43 #[.pointer (some ⟨q, 0, none⟩)] w fun e w' => Loaded w0 w q p g cap d a m b e w' := by
  obtain ⟨z1, _, _⟩ := h.sizes
  have hbase := h.base
  have hfit := h.fits
  have hlq := h.lt
  have hlts : ∀ k, LogS q p g (.slice none 0 0) k → k < w.heap.size := fun k hk => (h.lts k hk).2
  have c1 := h.cells.2.1
  have c2 := h.cells.2.2.1
  obtain ⟨TT, hTT⟩ : ∃ TT : Int, ((a + m : Nat) : Int) = TT := ⟨_, rfl⟩
  have hcel : ∀ W : World, LogMem W w0.heap.size q p g cap d a m b (.slice none 0 0) [] false → Cel W q [(0, .pointer (some ⟨p, 0, none⟩)), (1, .int .i64 (a : Int)), (2, .int .i64 TT)] := fun W h => by
    have h2 := h.cells.2.2.1
    rw [hTT] at h2
    exact Cel.mk3 h.cells.1 h.cells.2.1 h2
  have hCEL := Lib.hid (hcel w h)
  have HCE := Lib.hid hcel
  have hrg : ∀ W : World, Same w W → Calls Tryz.prog 40 #[.pointer (some ⟨p, 0, none⟩), .int .i64 (a : Int), .int .i64 TT] W fun e w' => (∃ v, e = .returned (.tuple #[v, .nilIface]) ∧ w'.ownsRow w.heap.size 9 1 v m (strVs (rowsD d a m))) ∧ Below w.heap.size w w' := fun W hW => by
    have h1 := rget_c s p g cap d a m (a : Int) TT W (hs.below (hb.trans (hW.below _)) (Nat.le_refl _)) (h.same hW).disk rfl hTT.symm hfit ho
    rw [hW.size] at h1
    refine h1.mono ?_
    rintro e w' ⟨hv, hb'⟩
    exact ⟨hv, (hW.below _).trans hb'⟩
  have HRG := Lib.hid hrg
  have HSM := Lib.hid (Same.refl w)
  have HS := Lib.hid hs; have HB := Lib.hid hb; have HM := Lib.hid h
  clear hs hb h hrg hcel hTT c1 c2
  go_enter Tryz.func43, Tryz.ntmps43
  go_wp2_with fail
  go_region_held3 (fun W => W.cell? ⟨q, 0, none⟩ = some (.pointer (some ⟨p, 0, none⟩)) ∧ W.cell? ⟨q, 1, none⟩ = some (.int .i64 (a : Int)) ∧ W.cell? ⟨q, 2, none⟩ = some (.int .i64 TT))
    (exact Cel.three (by (repeat' (first | (with_reducible assumption) | (with_reducible exact Hid.out (by with_reducible assumption)) | (with_reducible refine Cel.drewN ?_ _) | (with_reducible refine Cel.drew ?_)))))
    (first
      | (go_at_call 40; (with_reducible refine (HRG.out _ (by (repeat' (first | (with_reducible assumption) | (with_reducible exact Hid.out (by with_reducible assumption)) | (with_reducible refine Same.thenN ?_ _) | (with_reducible refine Same.thenD ?_) | (with_reducible refine Same.refl _))))).mono ?_); rintro e wr ⟨⟨bl, rfl, hown⟩, hb⟩; have c5 : Cel wr q [(0, .pointer (some ⟨p, 0, none⟩)), (1, .int .i64 (a : Int)), (2, .int .i64 TT)] := HCE.out _ (HM.out.below hb (Nat.le_refl _))))
  clear c5 hCEL HCE HRG HSM
  have hm := HM.out.below hb (Nat.le_refl _)
  obtain ⟨gb, c, hbl, hcc, hsr, hlen⟩ := own_srow hown hm0
  subst hbl
  have hgb := (hown.lt gb rfl).1
  have hgl := (hown.lt gb rfl).2
  have HS2 : Hid (LsRel w0 w q p g cap d a m b (.slice (some ⟨gb, 0, none⟩) (rowsD d a m).length c) wr) := Lib.hid ⟨[], rowsD d a m, _, gb, 0, c, rfl, hcc, LoadAt.start (by omega), hsr, hm, HB.out.trans (hb.mono HB.out.size), ChgS.of_below hb, hgb, hgl, fun k hk => by simp [Value.ownBlock] at hk⟩
  clear hown hm hb hsr hgb hgl hlen hcc
  go_wp2_with fail
  go_loopw [3] (fun bl w2 => LsRel w0 w q p g cap d a m b bl w2) (fun bl _ => lenV bl)
  case atStart => exact HS2.out
  case round =>
    obtain ⟨rs, rest, v, gb2, o, c', rfl, hrc, hla, hsr, hm, hb, hc, hgb, hgl, hvb⟩ := hrel
    clear HS2
    have hlast := hla.last
    rw [rowsD_len] at hlast
    obtain ⟨y1, y2, y3⟩ := hm.sizes
    have hrd := read_c s wr.heap.size c' (some ⟨gb2, o, none⟩) (rest.map bst) wr (HS.out.below hb (Nat.le_refl _)) (by rw [List.length_map]; omega) (by rw [List.length_map]; exact hrc) hsr (Nat.le_refl _)
    rw [rows_bst, List.length_map] at hrd
    have hfinal : ∀ W : World, Below wr.heap.size wr W → nextF rest (b + rs.length) = none → Loaded w0 w q p g cap d a m b (.returned .nilIface) W := fun W hW hn =>
      ⟨rfl, rs, v, hla.fin hn, hm.below hW (Nat.le_refl _), hc.trans (ChgS.of_below hW) fun _ _ h => h, fun k hk => (hvb k hk).1⟩
    have HF := Lib.hid hfinal
    cases hres : readF rest with
    | error k =>
      have hn := nextF_none (b := b + rs.length) hres
      rw [hres] at hrd
      have HRD := Lib.hid hrd; have HNN := Lib.hid hn
      clear hrd hn hfinal hres hla hsr hm hb hc hvb
      go_wp2_with fail
      refine (HRD.out).mono ?_
      rintro e w3 ⟨⟨ev, he, gf, rfl, _⟩, b3⟩
      subst he
      have HL := Lib.hid (HF.out w3 b3 HNN.out)
      clear b3
      go_wp2_with fail
      go_ret
      exact HL.out
    | ok r =>
      obtain ⟨x, qs, n⟩ := r
      rw [hres] at hrd
      have HRD := Lib.hid hrd
      have HMr := Lib.hid hm
      by_cases hq : qs = b + rs.length + 1
      · have hn := nextF_this (b := b + rs.length) hres hq
        obtain ⟨t1, t2, t3, t4, t5, t6⟩ := hla.step hn
        have HT1 := Lib.hid t1
        have hsr' := Lib.hid hsr; have hb' := Lib.hid hb; have hc'' := Lib.hid hc; have hv' := Lib.hid hvb
        clear hrd hn hfinal hres hla hsr hm hb hc hvb HF t1
        go_wp2_with fail
        refine (HRD.out).mono ?_
        rintro e w3 ⟨he, b3⟩
        have he : e = _ := he
        subst he
        have HM3 := Lib.hid (HMr.out.below b3 (Nat.le_refl _))
        have B3 := Lib.hid b3
        clear b3
        go_wp2_with fail
        refine (next_c _ q p g cap d a m b v rs false _ HM3.out).mono ?_
        rintro e w4 ⟨he, h4⟩
        obtain ⟨N, he2, hge⟩ : ∃ N : Int, e = .returned (.int .i64 N) ∧ ((qs : Int) != N) = false := ⟨_, he, by rw [bne_eq_false_iff_eq, hq]⟩
        subst he2
        clear he
        have HM4 := Lib.hid (HM3.out.same h4)
        have B4 : Hid (Below wr.heap.size wr w4) := Lib.hid (B3.out.trans (h4.below _))
        clear h4 HM3 B3
        obtain ⟨i, hi⟩ : ∃ i, a + (layR b rs).length = i := ⟨_, rfl⟩
        have c4 := HM4.out.cells.2.2.2.2.1
        obtain ⟨ti, hti, hz0, hz1, hz2⟩ := Tryz.infoSt
        have hsz4 := B4.out.size
        have hszw : w.heap.size ≤ wr.heap.size := hc''.out.size
        have hszb : w0.heap.size ≤ w.heap.size := by omega
        have HOW : Hid (∀ oo : Obj, (w4.alloc oo).ownsRow w0.heap.size 9 1 v rs.length (strVs rs)) := Lib.hid fun oo => HM4.out.own.alloc oo
        have HFN : Hid (∀ (oo : Obj) (w5 : World) (v' : Value), w5.ownsRow w0.heap.size 9 1 v' (rs.length + 1) (strVs rs ++ [.string (bst x)]) → (w4.alloc oo).grownBy w5 v.ownBlock → (v'.ownBlock = v.ownBlock ∨ v'.ownBlock = some (w4.heap.size + 1)) →
            (∀ val, val = .int .i64 ((i : Int) + (n : Int)) → LsRel w0 w q p g cap d a m b (.slice (if c' = n then some ⟨gb2, o, none⟩ else some ⟨gb2, o + n, none⟩) (rest.length - n) (c' - n)) ((w5.setCell ⟨q, 4, none⟩ v').setCell ⟨q, 5, none⟩ val)) ∧
            w5.cell? ⟨q, 4, none⟩ = some v ∧ w5.frozen? ⟨q, 4, none⟩ = false ∧ w5.cell? ⟨q, 5, none⟩ = some (.int .i64 (i : Int)) ∧ w5.frozen? ⟨q, 5, none⟩ = false) := Lib.hid fun oo w5 v' o1 g1 hat => by
          have ht := fun val hval => HM4.out.taken (val := val) hval t4 (by omega) o1 g1 hat
          have hq5 := (ht (.int .i64 ((a + ((layR b rs).length + n) : Nat) : Int)) rfl).2.2
          refine ⟨fun val hval => ?_, (cell_of_heap hq5 4).trans rfl, frozen_of_heap hq5 4, (cell_of_heap hq5 5).trans (by rw [← hi]; rfl), frozen_of_heap hq5 5⟩
          obtain ⟨k1, k2, _⟩ := ht val (by rw [hval, ← hi]; exact ret_v (by omega))
          have hsr4 := hsr'.out.below B4.out (Nat.le_refl _)
          have hsr5 := ((hsr4.keptS k2 (by
            rintro (h | h)
            · omega
            · exact (hv'.out _ h).2 rfl)).mono (B' := ((w5.setCell ⟨q, 4, none⟩ v').setCell ⟨q, 5, none⟩ val).heap.size) (Nat.le_trans B4.out.size k2.size)).at_end (n := n) (by rw [List.length_map]; exact t3)
          rw [← List.map_drop] at hsr5
          have hb4 : Below w0.heap.size w0 w4 := hb'.out.trans (B4.out.mono hb'.out.size)
          have hsr6 : SRow ((w5.setCell ⟨q, 4, none⟩ v').setCell ⟨q, 5, none⟩ val) ((w5.setCell ⟨q, 4, none⟩ v').setCell ⟨q, 5, none⟩ val).heap.size (some ⟨gb2, if c' = n then o else o + n, none⟩) ((rest.drop n).map bst) := by
            by_cases hcn : c' = n
            · have h0 : (rest.drop n).length = 0 := by rw [List.length_drop]; omega
              rw [List.eq_nil_of_length_eq_zero h0]
              exact fun h => absurd h (Nat.lt_irrefl 0)
            · rw [if_neg hcn]; exact hsr5
          refine ⟨rs ++ [x], rest.drop n, v', gb2, if c' = n then o else o + n, c' - n, by rw [List.length_drop]; split <;> rfl, by rw [List.length_drop]; omega, HT1.out, hsr6, k1, hb4.trans (k2.below (fun k hk => ?_) hb4.size), (hc''.out.trans (ChgS.of_below B4.out) fun _ _ h => h).trans k2 fun k hk hs => ?_, hgb, by have := k2.size; omega, fun k hk => ?_⟩
          · rcases hk with rfl | hk
            · omega
            · exact Nat.le_trans hszb (hv'.out k hk).1
          · rcases hs with hs | hs
            · exact hs
            · have := (hv'.out k hs).1; omega
          · rcases hat with he | he
            · rw [he] at hk; exact hv'.out k hk
            · rw [he] at hk
              have := Option.some.inj hk
              omega
        have n0 : (0 : Int) ≤ (n : Int) := by omega
        have n1 : (n : Int) ≤ (rest.length : Int) := by omega
        have hile : i ≤ 4096 := by omega
        have hnle : n ≤ 4096 := by omega
        have hone : rs.length ≤ 4096 := by omega
        clear HM4 B4 HMr HRD hsr' hb' hc'' hv' hi hlast t4
        go_wp2_with (at_builtin; refine wpList_append_own_at _ rfl _ _ 22 rfl w0.heap.size 9 ti _ 1 16 Tryz.underlying22 hti hz0 hz1 hz2 rfl (by decide) _ rs.length (strVs rs) rfl (HOW.out _) ⟨_, 0, none⟩ 1 1 [.string (bst x)] rfl rfl ?c1 ?c2 ?c3 ?c4 ?c5 ?_)
        case c1 => exact cell_one_new _ _ _
        case c2 => first | rfl | (intro u hu; simp at hu; subst hu; rfl)
        case c3 => unfold maxLen; omega
        case c4 => omega
        case c5 => first | omega | (rw [World.size_alloc]; omega)
        intro v' w5 o1 g1 _ hat
        obtain ⟨k1, k2, k3, k4, k5⟩ := HFN.out _ w5 _ o1 g1 hat
        obtain ⟨A', c5', rfl⟩ := own_form o1
        have K1 := Lib.hid k1
        clear k1 o1 g1 hat HFN HOW c4
        go_wp2_with fail
        go_roundw
        case rel => exact K1.out _ rfl
        case measure => simp [lenV]; omega
      · have hn := nextF_other (b := b + rs.length) hres hq
        have HNN := Lib.hid hn
        clear hrd hn hfinal hres hla hsr hm hb hc hvb
        go_wp2_with fail
        refine (HRD.out).mono ?_
        rintro e w3 ⟨he, b3⟩
        have he : e = _ := he
        subst he
        have HM3 := Lib.hid (HMr.out.below b3 (Nat.le_refl _))
        have B3 := Lib.hid b3
        clear b3
        go_wp2_with fail
        refine (next_c _ q p g cap d a m b v rs false _ HM3.out).mono ?_
        rintro e w4 ⟨he, h4⟩
        obtain ⟨N, he2, hge⟩ : ∃ N : Int, e = .returned (.int .i64 N) ∧ ((qs : Int) != N) = true := ⟨_, he, by rw [bne_iff_ne]; omega⟩
        subst he2
        clear he
        have HL := Lib.hid (HF.out w4 (B3.out.trans (h4.below _)) HNN.out)
        clear h4
        go_wp2_with fail
        go_ret
        exact HL.out
end Go.Proofs.YtaibmdjcppeopaaGreatDoor
