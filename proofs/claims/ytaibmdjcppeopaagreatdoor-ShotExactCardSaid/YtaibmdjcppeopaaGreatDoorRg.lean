/- Contracts of package region: rows of blocks that are read, written and wiped. Conditions: the sentinels lie as the program's text lays them; the disk lies in memory; where it is written it has seen fewer than a million writes. -/
import Derived.Test.YtaibmdjcppeopaaGreatDoorLgA
import Derived.LoopTactic
import Derived.Lib.JoinLaws
namespace Go.Proofs.YtaibmdjcppeopaaGreatDoor
open Go Go.RowKit

/-- The blocks of a disk. -/
def Dsk2 (p g : Nat) : Nat → Prop := fun k => k = p ∨ k = g
theorem DiskAt.still {w w' : World} {p g cap : Nat} {d : DS} (h : DiskAt w p g cap d) (hs : Same w w') : DiskAt w' p g cap d := h.same (hs.block p) (hs.block g)
theorem zero_eq (s : ByteArray) : (s.toList == (bst zeroF).toList) = decide (s.data.toList = zeroF) := by
  rw [Bool.eq_iff_iff, beq_iff_eq, decide_eq_true_eq, toList_is, toList_is]; rfl
theorem rowsD_snoc (d : DS) (a j : Nat) : rowsD d a (j + 1) = rowsD d a j ++ [d.blk (a + j)] := by
  rw [rowsD_app d a j 1]; rfl

/-- What a round of the wiping begins with. -/
def WRel (w0 w : World) (p g cap : Nat) (d : DS) (i n : Nat) (x : Value) (wr : World) : Prop :=
  ∃ (j : Nat) (e : DS), x = .int .i64 ((i + j : Nat) : Int) ∧ j ≤ n ∧ WipeAt d i n j e ∧ DiskAt wr p g cap e ∧ Below w0.heap.size w0 wr ∧ ChgS (Dsk2 p g) w wr

set_option maxHeartbeats 3200000 in
set_option maxRecDepth 100000 in
theorem rwipe_c (s : Nat → Addr) (w0 : World) (p g cap : Nat) (d : DS) (i n : Nat) (x y : Int) (w : World) (hs : Sent s w0) (hb : Below w0.heap.size w0 w) (h : DiskAt w p g cap d) (hlo : w0.heap.size ≤ g) (hx : x = (i : Int)) (hy : y = ((i + n : Nat) : Int))
    (hin : i + n ≤ d.n) (ho : d.on = true) (hw : d.wr + n ≤ 1000000) :
    Calls Tryz.prog 44 #[.pointer (some ⟨p, 0, none⟩), .int .i64 x, .int .i64 y] w fun e w' => e = .returned (errV s (d.wipe i n).1) ∧ DiskAt w' p g cap (d.wipe i n).2 ∧ ChgS (Dsk2 p g) w w' := by
  subst hx; subst hy
  have hn4 := DS.n_le h.ok
  have hpl := h.lt
  have hgp := h.ne
  have HR : Hid (∀ W, Calls Tryz.prog 59 #[.string ⟨#[0]⟩, .int .i64 64] W fun e w' => e = .returned (.string (bst zeroF)) ∧ Below W.heap.size W w') := Lib.hid fun W => by
    have h := repeat_c ⟨#[0]⟩ 64 W (by omega) (by decide)
    rw [show (⟨#[0]⟩ : ByteArray).data.toList = [0] from rfl, repeatL_one] at h
    exact h
  obtain ⟨Z, hZ⟩ : ∃ Z, bst zeroF = Z := ⟨_, rfl⟩
  have hZs : Z.size = 64 := by rw [← hZ]; rfl
  have hZe := zero_eq
  have hZl : Z.data.toList = zeroF := by rw [← hZ]; rfl
  rw [hZ] at HR hZe
  have HZ := Lib.hid hZe; have HZL := Lib.hid hZl
  have HS := Lib.hid hs; have HB := Lib.hid hb; have HM := Lib.hid h
  have HST := Lib.hid (WipeAt.start i n ho)
  clear hZ hs hb h hZe hZl
  go_enter Tryz.func44, Tryz.ntmps44
  go_wp2_with fail
  refine (HR.out _).mono ?_
  rintro e w1 ⟨rfl, b1⟩
  have HST2 : Hid (WRel w0 w p g cap d i n (.int .i64 (i : Int)) w1) := Lib.hid ⟨0, d, rfl, Nat.zero_le _, HST.out, HM.out.below b1 HM.out.lt.1, HB.out.trans (b1.mono HB.out.size), ChgS.of_below b1⟩
  clear HST HM HB b1
  go_wp2_with fail
  go_loopw [8] (fun x wr => WRel w0 w p g cap d i n x wr) (fun x _ => (i + n) - (intOf x).toNat)
  case atStart => exact HST2.out
  case round =>
    obtain ⟨j, e, rfl, hj, hwa, hm, hb, hc⟩ := hrel
    clear HST2
    by_cases hjn : j < n
    · have hen : e.n = d.n := hwa.like.n
      have hlr := dread_c s p g cap e ((i + j : Nat) : Int) wr (HS.out.below hb (Nat.le_refl _)) hm
      rw [show e.read ((i + j : Nat) : Int) = (0, e.blk (i + j)) by unfold DS.read; rw [has_nat (by omega), hwa.on]; rfl] at hlr
      simp only [errV_zero] at hlr
      have HLR := Lib.hid hlr
      obtain ⟨X, hX⟩ : ∃ X, strB (e.blk (i + j)) = X := ⟨_, rfl⟩
      have hXl : X.data.toList = e.blk (i + j) := by rw [← hX]
      rw [hX] at HLR
      have hlt : ((i + j : Nat) : Int) < ((i + n : Nat) : Int) := by omega
      have HWA := Lib.hid hwa; have HM := Lib.hid hm; have HB := Lib.hid hb; have HC := Lib.hid hc; have HXL := Lib.hid hXl
      clear hwa hm hb hc hlr hX hXl
      by_cases hz : e.blk (i + j) = zeroF
      · have hq : (X.toList == Z.toList) = true := by rw [HZ.out, HXL.out]; exact decide_eq_true hz
        go_wp2_with fail
        refine (HLR.out).mono ?_
        rintro e1 w2 ⟨rfl, nd, e2⟩
        have hs2 : Same wr w2 := by rw [e2]; exact Same.drewN _ _
        have HN : Hid (WRel w0 w p g cap d i n (.int .i64 (((i + j : Nat) : Int) + 1)) w2) := Lib.hid ⟨j + 1, e, ret_v (by omega), hjn, HWA.out.zero hjn hz, HM.out.still hs2, HB.out.trans (hs2.below _), HC.out.trans (hs2.chg (Dsk2 p g)) fun _ _ h => h⟩
        clear hs2 HWA HM HB HC e2
        go_wp2_with fail
        go_roundw
        case rel => exact HN.out
        case measure => simp [intOf]; omega
      · have hq : (X.toList == Z.toList) = false := by rw [HZ.out, HXL.out]; exact decide_eq_false hz
        go_wp2_with fail
        refine (HLR.out).mono ?_
        rintro e1 w2 ⟨rfl, nd, e2⟩
        have hs2 : Same wr w2 := by rw [e2]; exact Same.drewN _ _
        have hm2 := HM.out.still hs2
        have hlw := write_c s p g cap e ((i + j : Nat) : Int) Z w2 (HS.out.below (HB.out.trans (hs2.below _)) (Nat.le_refl _)) hm2 (by omega) (by have := HWA.out.wr; omega)
        rw [HZL.out] at hlw
        have HLW := Lib.hid hlw
        have HS2 := Lib.hid hs2
        clear hlw hm2 hs2 e2
        go_wp2_with fail
        refine (HLW.out).mono ?_
        rintro e2 w3 ⟨he2, hm3, hch⟩
        have hc2 : ChgS (Dsk2 p g) w2 w3 := ChgS.of_chg hch (.inl rfl) (.inr rfl)
        have hc3 : ChgS (Dsk2 p g) w w3 := (HC.out.trans (HS2.out.chg (Dsk2 p g)) fun _ _ h => h).trans hc2 fun _ _ h => h
        have hb3 : Below w0.heap.size w0 w3 := (HB.out.trans (HS2.out.below _)).trans (hc2.below (by rintro k (rfl | rfl) <;> omega) (HB.out.trans (HS2.out.below _)).size)
        rcases HWA.out.step hjn (by omega) hz with ⟨hr, hn⟩ | ⟨hr, hn⟩
        · rw [hr] at he2
          rw [errV_zero] at he2
          subst he2
          have HN : Hid (WRel w0 w p g cap d i n (.int .i64 (((i + j : Nat) : Int) + 1)) w3) := Lib.hid ⟨j + 1, _, ret_v (by omega), hjn, hn, hm3, hb3, hc3⟩
          clear HWA HM HB HC HS2 hch hm3 hc3 hb3 hn hc2
          go_wp2_with fail
          go_roundw
          case rel => exact HN.out
          case measure => simp [intOf]; omega
        · rw [hr, errV_pos] at he2
          subst he2
          have HF : Hid (DiskAt w3 p g cap (d.wipe i n).2 ∧ ChgS (Dsk2 p g) w w3) := Lib.hid ⟨by rw [hn]; exact hm3, hc3⟩
          have HE : Hid (errV s (d.wipe i n).1 = .iface 157 (.pointer (some (s 13)))) := Lib.hid (by rw [hn, hr]; rfl)
          clear HWA HM HB HC HS2 hch hm3 hc3 hb3 hn hc2
          go_wp2_with fail
          go_ret
          exact ⟨by rw [HE.out]; rfl, HF.out⟩
    · have hfin := hwa.fin (by omega)
      have HF : Hid (DiskAt wr p g cap (d.wipe i n).2 ∧ ChgS (Dsk2 p g) w wr) := Lib.hid ⟨by rw [hfin]; exact hm, hc⟩
      have HE : Hid (errV s (d.wipe i n).1 = .nilIface) := Lib.hid (by rw [hfin]; rfl)
      have hge : ¬ ((i + j : Nat) : Int) < ((i + n : Nat) : Int) := by omega
      clear hwa hm hb hc hfin
      go_wp2_with fail
      go_ret
      exact ⟨by rw [HE.out]; rfl, HF.out⟩

set_option maxHeartbeats 3200000 in
set_option maxRecDepth 100000 in
/-- Without power nothing is wiped. -/
theorem rwipe_off (s : Nat → Addr) (p g cap : Nat) (d : DS) (i n : Nat) (x y : Int) (w : World) (hs : Sent s w) (h : DiskAt w p g cap d) (hx : x = (i : Int)) (hy : y = ((i + n : Nat) : Int))
    (hin : i + n ≤ d.n) (h0 : 0 < n) (ho : d.on = false) :
    Calls Tryz.prog 44 #[.pointer (some ⟨p, 0, none⟩), .int .i64 x, .int .i64 y] w fun e w' => e = .returned (errV s 14) ∧ Below w.heap.size w w' := by
  subst hx; subst hy
  have hn4 := DS.n_le h.ok
  have HR : Hid (∀ W, Calls Tryz.prog 59 #[.string ⟨#[0]⟩, .int .i64 64] W fun e w' => e = .returned (.string (bst zeroF)) ∧ Below W.heap.size W w') := Lib.hid fun W => by
    have h := repeat_c ⟨#[0]⟩ 64 W (by omega) (by decide)
    rw [show (⟨#[0]⟩ : ByteArray).data.toList = [0] from rfl, repeatL_one] at h
    exact h
  have HLR : Hid (∀ W, Below w.heap.size w W → Calls Tryz.prog 57 #[.pointer (some ⟨p, 0, none⟩), .int .i64 (i : Int)] W fun e w' => e = .returned (.tuple #[.string (strB []), errV s 14]) ∧ Below w.heap.size w w') := Lib.hid fun W hW => by
    have hlr := dread_c s p g cap d (i : Int) W (hs.below hW (Nat.le_refl _)) (h.below hW h.lt.1)
    rw [show d.read (i : Int) = (14, []) by unfold DS.read; rw [has_nat (by omega), ho]; rfl] at hlr
    refine hlr.mono ?_
    rintro e w' ⟨he, nd, e2⟩
    exact ⟨he, by rw [e2]; exact below_drewN hW _⟩
  clear hs h
  simp only [errV_pos] at HLR ⊢
  go_enter Tryz.func44, Tryz.ntmps44
  go_wp2_with fail
  refine (HR.out _).mono ?_
  rintro e w1 ⟨rfl, b1⟩
  have B1 := Lib.hid b1
  clear b1
  go_wp2_with fail
  go_loopw [8] (fun x wr => x = .int .i64 (i : Int) ∧ Below w.heap.size w wr) (fun x _ => 0)
  case atStart => exact ⟨rfl, B1.out⟩
  case round =>
    obtain ⟨rfl, hb⟩ := hrel
    have hlt : (i : Int) < ((i + n : Nat) : Int) := by omega
    have HB := Lib.hid hb
    clear hb B1
    go_wp2_with fail
    refine (HLR.out _ HB.out).mono ?_
    rintro e1 w2 ⟨rfl, b2⟩
    have B2 := Lib.hid b2
    clear b2
    go_wp2_with fail
    go_ret
    exact ⟨rfl, B2.out⟩

/-- What a round of the writing begins with. -/
def PuRel (w0 w : World) (p g gb cap : Nat) (d : DS) (L : List (List UInt8)) (i : Nat) (x : Value) (wr : World) : Prop :=
  ∃ (j : Nat) (e : DS), x = .int .i64 (j : Int) ∧ j ≤ L.length ∧ PutAt d i L j e ∧ DiskAt wr p g cap e ∧ RowV wr gb (strVs L) ∧ Below w0.heap.size w0 wr ∧ ChgS (Dsk2 p g) w wr

set_option maxHeartbeats 3200000 in
set_option maxRecDepth 100000 in
theorem rput_c (s : Nat → Addr) (w0 : World) (p g gb cap : Nat) (d : DS) (i : Nat) (x : Int) (L : List (List UInt8)) (w : World) (hs : Sent s w0) (hb : Below w0.heap.size w0 w) (h : DiskAt w p g cap d) (hlo : w0.heap.size ≤ g) (hx : x = (i : Int))
    (hrow : RowV w gb (strVs L)) (hgp : gb ≠ p) (hgg : gb ≠ g) (hL64 : ∀ x ∈ L, x.length = 64) (hin : i + L.length ≤ d.n) (ho : d.on = true) (hw : d.wr + L.length ≤ 1000000) :
    Calls Tryz.prog 52 #[.pointer (some ⟨p, 0, none⟩), .int .i64 x, .slice (some ⟨gb, 0, none⟩) L.length L.length] w fun e w' => e = .returned (errV s (d.puts i L).1) ∧ DiskAt w' p g cap (d.puts i L).2 ∧ ChgS (Dsk2 p g) w w' := by
  subst hx
  have hn4 := DS.n_le h.ok
  have hpl := h.lt
  have hgp2 := h.ne
  have HST : Hid (PuRel w0 w p g gb cap d L i (.int .i64 0) w) := Lib.hid ⟨0, d, rfl, Nat.zero_le _, PutAt.start i L ho, h, hrow, hb, ChgS.refl _ _⟩
  have HS := Lib.hid hs
  clear hs hb h hrow
  go_enter Tryz.func52, Tryz.ntmps52
  go_wp2_with fail
  go_loopw [12] (fun x wr => PuRel w0 w p g gb cap d L i x wr) (fun x _ => L.length - (intOf x).toNat)
  case atStart => exact HST.out
  case round =>
    obtain ⟨j, e, rfl, hj, hpa, hm, hrow, hb, hc⟩ := hrel
    clear HST
    by_cases hjn : j < L.length
    · have j0 : (0 : Int) ≤ (j : Int) := by omega
      have j1 : (j : Int) < (L.length : Int) := by omega
      have hLj : L[j]? = some L[j] := List.getElem?_eq_getElem hjn
      have h64 : L[j].length = 64 := hL64 _ (List.getElem_mem hjn)
      obtain ⟨X, hX⟩ : ∃ X, bst L[j] = X := ⟨_, rfl⟩
      have hXs : X.size = 64 := by rw [← hX, bst_size, h64]
      have hXl : X.data.toList = L[j] := by rw [← hX]; rfl
      have cx : wr.cell? ⟨gb, j, none⟩ = some (.string X) := hrow.cell (by rw [strVs_get, hLj, ← hX]; rfl)
      have hen : e.n = d.n := hpa.like.n
      have hij : IntKind.i64.wrap ((i : Int) + (j : Int)) = ((i + j : Nat) : Int) := by
        rw [IntWalk.i64_in _ (by omega)]; omega
      have hlw := write_c s p g cap e ((i + j : Nat) : Int) X wr (HS.out.below hb (Nat.le_refl _)) hm (by omega) (by have := hpa.wr; omega)
      rw [hXl] at hlw
      have HLW := Lib.hid hlw
      have HPA := Lib.hid hpa; have HR := Lib.hid hrow; have HBr := Lib.hid hb; have HC := Lib.hid hc
      have HLJ := Lib.hid hLj; have H64 := Lib.hid h64
      clear hpa hm hrow hb hc hlw hX hXl hLj h64
      go_wp2_with fail
      refine (HLW.out).mono ?_
      rintro e2 w3 ⟨he2, hm3, hch⟩
      have hc2 : ChgS (Dsk2 p g) wr w3 := ChgS.of_chg hch (.inl rfl) (.inr rfl)
      have hc3 : ChgS (Dsk2 p g) w w3 := HC.out.trans hc2 fun _ _ h => h
      have hb3 : Below w0.heap.size w0 w3 := HBr.out.trans (hc2.below (by rintro k (rfl | rfl) <;> omega) HBr.out.size)
      rcases HPA.out.step HLJ.out H64.out (by omega) with ⟨hr, hn⟩ | ⟨hr, hn⟩
      · rw [hr] at he2
        rw [errV_zero] at he2
        subst he2
        have hrow3 : RowV w3 gb (strVs L) := hc2.row HR.out (by rintro (h | h) <;> contradiction)
        have HNX : Hid (PuRel w0 w p g gb cap d L i (.int .i64 ((j : Int) + 1)) w3) := Lib.hid ⟨j + 1, _, ret_v (by omega), hjn, hn, hm3, hrow3, hb3, hc3⟩
        clear HPA HBr HC HR hch hm3 hc3 hb3 hn hrow3 hc2 cx
        go_wp2_with fail
        go_roundw
        case rel => exact HNX.out
        case measure => simp [intOf]; omega
      · rw [hr, errV_pos] at he2
        subst he2
        have HF : Hid (DiskAt w3 p g cap (d.puts i L).2 ∧ ChgS (Dsk2 p g) w w3) := Lib.hid ⟨by rw [hn]; exact hm3, hc3⟩
        have HE : Hid (errV s (d.puts i L).1 = .iface 157 (.pointer (some (s 13)))) := Lib.hid (by rw [hn, hr]; rfl)
        clear HPA HBr HC HR hch hm3 hc3 hb3 hn hc2 cx
        go_wp2_with fail
        go_ret
        exact ⟨by rw [HE.out]; rfl, HF.out⟩
    · have hfin := hpa.fin (by omega)
      obtain rfl : j = L.length := by omega
      have HF : Hid (DiskAt wr p g cap (d.puts i L).2 ∧ ChgS (Dsk2 p g) w wr) := Lib.hid ⟨by rw [hfin]; exact hm, hc⟩
      have HE : Hid (errV s (d.puts i L).1 = .nilIface) := Lib.hid (by rw [hfin]; rfl)
      have hge : ¬ ((L.length : Int) < (L.length : Int)) := by omega
      clear hpa hm hrow hb hc hfin
      go_wp2_with fail
      go_ret
      exact ⟨by rw [HE.out]; rfl, HF.out⟩

/-- What a round of the reading begins with: j blocks were read. -/
def GRel (w : World) (d : DS) (a m : Nat) (bl x : Value) (wr : World) : Prop :=
  ∃ (j : Nat) (u : Value), x = .int .i64 ((a + j : Nat) : Int) ∧ u = bl ∧ j ≤ m ∧ wr.ownsRow w.heap.size 9 1 u j (strVs (rowsD d a j)) ∧ Below w.heap.size w wr

set_option maxHeartbeats 3200000 in
set_option maxRecDepth 100000 in
theorem rget_c (s : Nat → Addr) (p g cap : Nat) (d : DS) (a m : Nat) (x y : Int) (w : World) (hs : Sent s w) (h : DiskAt w p g cap d) (hx : x = (a : Int)) (hy : y = ((a + m : Nat) : Int)) (hin : a + m ≤ d.n) (ho : d.on = true) :
    Calls Tryz.prog 40 #[.pointer (some ⟨p, 0, none⟩), .int .i64 x, .int .i64 y] w fun e w' => (∃ v, e = .returned (.tuple #[v, .nilIface]) ∧ w'.ownsRow w.heap.size 9 1 v m (strVs (rowsD d a m))) ∧ Below w.heap.size w w' := by
  subst hx
  have hn4 := DS.n_le h.ok
  have HY := Lib.hid hy
  have hyb : y ≤ 4096 := by omega
  clear hy
  have HST : Hid (GRel w d a m (.slice none 0 0) (.int .i64 (a : Int)) w) := Lib.hid ⟨0, _, rfl, rfl, Nat.zero_le _, World.ownsRow_nil _ _ _ _, Below.refl _ _⟩
  have HS := Lib.hid hs; have HM := Lib.hid h
  clear hs h
  go_enter Tryz.func40, Tryz.ntmps40
  go_wp2_with fail
  go_loopw [8, 9] (fun bl x wr => GRel w d a m bl x wr) (fun _ x _ => (a + m) - (intOf x).toNat)
  case atStart => exact HST.out
  case round =>
    obtain ⟨j, bl, rfl, rfl, hj, hown, hb⟩ := hrel
    clear HST
    by_cases hjm : j < m
    · have hlr := dread_c s p g cap d ((a + j : Nat) : Int) wr (HS.out.below hb (Nat.le_refl _)) (HM.out.below hb HM.out.lt.1)
      rw [show d.read ((a + j : Nat) : Int) = (0, d.blk (a + j)) by unfold DS.read; rw [has_nat (by omega), ho]; rfl] at hlr
      simp only [errV_zero] at hlr
      have HLR := Lib.hid hlr
      obtain ⟨X, hX⟩ : ∃ X, strB (d.blk (a + j)) = X := ⟨_, rfl⟩
      have hXl : strVs (rowsD d a (j + 1)) = strVs (rowsD d a j) ++ [.string X] := by rw [rowsD_snoc, ← hX]; simp [strVs]; rfl
      rw [hX] at HLR
      have hlt : ((a + j : Nat) : Int) < y := by have := HY.out; omega
      have HO := Lib.hid hown; have HBr := Lib.hid hb; have HXL := Lib.hid hXl
      clear hown hb hlr hX hXl
      go_wp2_with fail
      refine (HLR.out).mono ?_
      rintro e1 w2 ⟨rfl, nd, e2⟩
      have hs2 : Same wr w2 := by rw [e2]; exact Same.drewN _ _
      have HO2 : Hid (∀ o : Obj, (w2.alloc o).ownsRow w.heap.size 9 1 bl j (strVs (rowsD d a j))) := Lib.hid fun o => (own_same HO.out fun k _ => hs2.block k).alloc o
      have HB2 : Hid (Below w.heap.size w w2) := Lib.hid (HBr.out.trans (hs2.below _))
      obtain ⟨ti, hti, hz0, hz1, hz2⟩ := Tryz.infoSt
      have hsz2 := HB2.out.size
      clear hs2 e2 HO HBr
      go_wp2_with (at_builtin; refine wpList_append_own_at _ rfl _ _ 22 rfl w.heap.size 9 ti _ 1 16 Tryz.underlying22 hti hz0 hz1 hz2 rfl (by decide) _ j (strVs (rowsD d a j)) rfl (HO2.out _) ⟨_, 0, none⟩ 1 1 [.string X] rfl rfl ?c1 ?c2 ?c3 ?c4 ?c5 ?_)
      case c1 => exact cell_one_new _ _ _
      case c2 => first | rfl | (intro u hu; simp at hu; subst hu; rfl)
      case c3 => unfold maxLen; omega
      case c4 => omega
      case c5 => first | omega | (rw [World.size_alloc]; omega)
      intro v' w5 o1 g1 _ _
      have HN : Hid (GRel w d a m v' (.int .i64 (((a + j : Nat) : Int) + 1)) w5) := Lib.hid (by
        have hbl := (HO2.out (.cells #[.string X] 9)).lt
        have hc5 : ChgS (fun k => w.heap.size ≤ k) w2 w5 := ((ChgS.refl _ w2).alloc _).grown g1 fun k hk => .inl (hbl k hk).1
        refine ⟨j + 1, _, ret_v (by omega), rfl, hjm, by rw [HXL.out]; exact o1, ?_⟩
        exact HB2.out.trans (hc5.below (fun k hk => hk) hsz2))
      clear o1 g1 HO2 HB2
      go_wp2_with fail
      go_roundw
      case rel => exact HN.out
      case measure => simp [intOf]; omega
    · obtain rfl : j = m := by omega
      have hge : ¬ (((a + j : Nat) : Int) < y) := by have := HY.out; omega
      obtain ⟨A, c, rfl⟩ := own_form hown
      have HF := Lib.hid hown; have HB := Lib.hid hb
      clear hown hb
      go_wp2_with fail
      go_ret2
      exact ⟨⟨_, rfl, HF.out⟩, HB.out⟩
end Go.Proofs.YtaibmdjcppeopaaGreatDoor
