/- AllocKeeps: the walk. Condition: the sentinels lie as the program's text lays them. -/
import Derived.Test.YtfikkjdkgigikaaDoorAlKp
import Derived.Test.YtfikkjdkgigikaaDoorAlY
import Derived.Test.YtfikkjdkgigikaaDoorRdE
import Derived.Test.YtfikkjdkgigikaaDoorMd
import Derived.Test.YtfikkjdkgigikaaDoorRgo
import Derived.IntWalk
import Derived.Deep.RegionHeld3
import Derived.Deep.QuietTactic
namespace Go.Proofs.YtfikkjdkgigikaaDoor
open Go Go.RowKit Go.Maps Go.Sort

/-- A row read modulo a number. -/
def modN (m : Int) (L : List Int) (j : Nat) : Int := wrap64 ((IntKind.u64.wrap (L.getD j 0)).tmod m)
theorem modN_at {m : Int} {L : List Int} {j : Nat} {x : Int} (h : L[j]? = some x) : modN m L j = wrap64 ((IntKind.u64.wrap x).tmod m) := by
  unfold modN; rw [List.getD_eq_getElem?_getD, h]; rfl
/-- What the law keeps beside the book: what each has, what is used, how many are inside. -/
def KK (gh gu gc : Nat) (u c : Nat → Int) (W : World) : Prop :=
  W.heap[gh]? = some (.cells #[.int .i64 100, .int .i64 100, .int .i64 100, .int .i64 100] 34 (0, 0)) ∧
    W.heap[gu]? = some (.cells #[.int .i64 (u 0), .int .i64 (u 1), .int .i64 (u 2)] 70 (0, 0)) ∧ W.heap[gc]? = some (.cells #[.int .i64 (c 0), .int .i64 (c 1), .int .i64 (c 2)] 70 (0, 0))
theorem cell3 {W : World} {g p : Nat} {u : Nat → Int} (h : W.heap[g]? = some (.cells #[.int .i64 (u 0), .int .i64 (u 1), .int .i64 (u 2)] 70 (0, 0))) (hp : p < 3) : W.cell? ⟨g, p, none⟩ = some (.int .i64 (u p)) := by
  rcases p with _ | _ | _ | p
  · exact cell_of_heap h 0
  · exact cell_of_heap h 1
  · exact cell_of_heap h 2
  · omega
theorem KK.cu {gh gu gc p : Nat} {u c : Nat → Int} {W : World} (h : KK gh gu gc u c W) (hp : p < 3) : W.cell? ⟨gu, p, none⟩ = some (.int .i64 (u p)) := cell3 h.2.1 hp
theorem KK.cc {gh gu gc p : Nat} {u c : Nat → Int} {W : World} (h : KK gh gu gc u c W) (hp : p < 3) : W.cell? ⟨gc, p, none⟩ = some (.int .i64 (c p)) := cell3 h.2.2 hp
theorem KK.fu {gh gu gc : Nat} {u c : Nat → Int} {W : World} (h : KK gh gu gc u c W) (p : Nat) : W.frozen? ⟨gu, p, none⟩ = false := frozen_of_heap h.2.1 p
theorem KK.fc {gh gu gc : Nat} {u c : Nat → Int} {W : World} (h : KK gh gu gc u c W) (p : Nat) : W.frozen? ⟨gc, p, none⟩ = false := frozen_of_heap h.2.2 p
def upd (u : Nat → Int) (p : Nat) (x : Int) : Nat → Int := fun i => if i = p then x else u i
/-- Where the law's own boxes lie. -/
structure StK (w0 : World) (P : Nat → Prop) (gh gu gc : Nat) : Prop where
  nh : ¬ P gh
  nu : ¬ P gu
  nc : ¬ P gc
  hu : w0.heap.size ≤ gu
  hc : w0.heap.size ≤ gc
  d1 : gh ≠ gu
  d2 : gh ≠ gc
  d3 : gu ≠ gc
section
variable {w0 w : World} {P : Nat → Prop} {q gh gu gc : Nat} {G : AG} {u c : Nat → Int}
theorem set3 {W : World} {g p : Nat} {u : Nat → Int} (h : W.heap[g]? = some (.cells #[.int .i64 (u 0), .int .i64 (u 1), .int .i64 (u 2)] 70 (0, 0))) (hp : p < 3) (x : Int) :
    (W.setCell ⟨g, p, none⟩ (.int .i64 x)).heap[g]? = some (.cells #[.int .i64 (upd u p x 0), .int .i64 (upd u p x 1), .int .i64 (upd u p x 2)] 70 (0, 0)) := by
  rcases p with _ | _ | _ | p
  · simp [World.setCell, Array.getElem?_modify, h, upd]
  · simp [World.setCell, Array.getElem?_modify, h, upd]
  · simp [World.setCell, Array.getElem?_modify, h, upd]
  · omega
theorem AlB.far {K : World → Prop} {w' : World} {g : Nat} (h : AlB w0 w P q G K) (hc : ChP (fun k => k = g) w w') (hg : ¬ P g) (h0 : w0.heap.size ≤ g) : AlL w0 w' P q G :=
  ⟨h.l.book.far hc fun k hk e => hg (e ▸ hk), h.l.below.trans (hc.below (fun k e => e ▸ h0) h.l.below.size), h.l.low⟩
theorem KK.keeps {u c : Nat → Int} {W : World} (h : KK gh gu gc u c W) (k : StK w0 P gh gu gc) : Keeps P (KK gh gu gc u c) W := fun _ hW => ⟨hW.row h.1 k.nh, hW.row h.2.1 k.nu, hW.row h.2.2 k.nc⟩
theorem AlB.setU (h : AlB w0 w P q G (KK gh gu gc u c)) (k : StK w0 P gh gu gc) {p : Nat} (hp : p < 3) (x : Int) : AlB w0 (w.setCell ⟨gu, p, none⟩ (.int .i64 x)) P q G (KK gh gu gc (upd u p x) c) := by
  refine ⟨h.far ((ChP.refl (fun j => j = gu) _).setCell (ad := ⟨gu, p, none⟩) (.inl rfl) _) k.nu k.hu, KK.keeps ⟨?_, set3 h.has.2.1 hp x, ?_⟩ k⟩
  · exact (heap_setCell_other w ⟨gu, p, none⟩ gh _ k.d1).trans h.has.1
  · exact (heap_setCell_other w ⟨gu, p, none⟩ gc _ k.d3.symm).trans h.has.2.2
theorem AlB.setC (h : AlB w0 w P q G (KK gh gu gc u c)) (k : StK w0 P gh gu gc) {p : Nat} (hp : p < 3) (x : Int) : AlB w0 (w.setCell ⟨gc, p, none⟩ (.int .i64 x)) P q G (KK gh gu gc u (upd c p x)) := by
  refine ⟨h.far ((ChP.refl (fun j => j = gc) _).setCell (ad := ⟨gc, p, none⟩) (.inl rfl) _) k.nc k.hc, KK.keeps ⟨?_, ?_, set3 h.has.2.2 hp x⟩ k⟩
  · exact (heap_setCell_other w ⟨gc, p, none⟩ gh _ k.d2).trans h.has.1
  · exact (heap_setCell_other w ⟨gc, p, none⟩ gu _ k.d3).trans h.has.2.1
theorem AlB.open_p {s : Nat → Addr} {K : World → Prop} (h : AlB w0 w P q G K) (hs : Sent s w0) (id N : Int) (v : V4) :
    Calls Tryd.prog 9 #[.pointer (some ⟨q, 0, none⟩), .int .i64 id, .int .i64 N, .agg #[.int .i64 v.a, .int .i64 v.b, .int .i64 v.c, .int .i64 v.d]] w fun e w' => e = .returned (errV s (openA G id N v).2) ∧ ∃ P', AlB w0 w' P' q (openA G id N v).1 K ∧ ∀ k, P' k → P k ∨ w.heap.size ≤ k :=
  (h.l.book.open_c s (h.l.sent hs) id N v).mono fun _ _ ⟨k1, ⟨P', k2, k4⟩, k3⟩ => ⟨k1, P', ⟨h.l.step' k2 k4 k3, h.k.chp k3 k4⟩, k4⟩
end
theorem next3 {p : Nat} (hp : p < 3) : IntKind.i64.wrap ((p : Int) + 1) = (p : Int) + 1 ∧ ∃ p2 : Nat, p2 < 3 ∧ ((p : Int) + 1) % 3 = (p2 : Int) := by
  refine ⟨IntWalk.i64_in _ (by omega), ?_⟩
  rcases p with _ | _ | _ | p
  · exact ⟨1, by decide, by decide⟩
  · exact ⟨2, by decide, by decide⟩
  · exact ⟨0, by decide, by decide⟩
  · omega
theorem add_block {ad : Addr} {n g o : Nat} (h : ad.add n = ⟨g, o, none⟩) : ad.block = g := by
  unfold Addr.add at h; split at h <;> simp_all
/-- What the law keeps with the three spots. -/
def KL (gh gu gc gl cl : Nat) (T : List InA) (W : World) : Prop :=
  KK gh gu gc (useK T) (fun p => (cntK T p : Int)) W ∧ OwnE encSpt 65 W 0 (.slice (some ⟨gl, 0, none⟩) 3 cl) ((List.range 3).map fun (p : Nat) => ⟨(p : Int), ⟨100 - useK T p, 100, 100 - useK T p, 100⟩⟩)
theorem KL.cells {gh gu gc gl cl : Nat} {T : List InA} {W : World} (h : KL gh gu gc gl cl T W) {j : Nat} (hj : j < 3) :
    (⟨gl, 0, none⟩ : Addr).add (j * 5) = ⟨gl, j * 5, none⟩ ∧ W.cell? ⟨gl, j * 5 + 1, none⟩ = some (.int .i64 (100 - useK T j)) ∧ W.cell? ⟨gl, j * 5 + 2, none⟩ = some (.int .i64 100) ∧ W.cell? ⟨gl, j * 5 + 3, none⟩ = some (.int .i64 (100 - useK T j)) ∧ W.cell? ⟨gl, j * 5 + 4, none⟩ = some (.int .i64 100) ∧
      W.cell? ⟨gu, j, none⟩ = some (.int .i64 (useK T j)) ∧ W.cell? ⟨gc, j, none⟩ = some (.int .i64 (cntK T j : Int)) := by
  obtain ⟨ad, g, hA, hg, _, _, _, hc⟩ := h.2.at (i := j) (by rw [List.getElem?_map, List.getElem?_range hj]; rfl)
  obtain rfl := Option.some.inj hA
  have hgg : gl = g := by have h0 := hg; unfold Addr.add at h0; split at h0 <;> simp_all
  subst hgg
  exact ⟨hg, hc 1 _ rfl, hc 2 _ rfl, hc 3 _ rfl, hc 4 _ rfl, h.1.cu hj, h.1.cc hj⟩
/-- What the law keeps with what has fallen. -/
def KM (gh gu gc gl cl : Nat) (T : List InA) (A : Option Addr) (n c : Nat) (X : List Tk) (W : World) : Prop := KL gh gu gc gl cl T W ∧ OwnE encTk 32 W 0 (.slice A n c) X
set_option maxRecDepth 100000 in
set_option maxHeartbeats 12800000 in
theorem akeeps_any (s : Nat → Addr) (A : Option Addr) (c : Nat) (L : List Int) (B : Option Addr) (d : Nat) (M : List Int) (fal : Int) (w : World) (hs : Sent s w) (hr : ReadsE encI w A L) (hr2 : ReadsE encI w B M) (hll : L.length ≤ 9223372036854775807) (hlm : M.length ≤ 9223372036854775807) :
    Calls Tryd.prog 4 #[.slice A L.length c, .slice B M.length d, .int .i64 fal] w fun e w' => e = .returned (.bool true) ∧ Below w.heap.size w w' := by
  have HS := Lib.hid hs
  have i5 : i64 5 := by unfold i64; omega
  obtain ⟨N, hN⟩ : ∃ N, L.length = N := ⟨_, rfl⟩
  obtain ⟨N2, hN2⟩ : ∃ N2, M.length = N2 := ⟨_, rfl⟩
  have HN := Lib.hid hN
  have HN2 := Lib.hid hN2
  have HR : Hid (∀ W, Below w.heap.size w W → ReadsE encI W A L) := Lib.hid fun W hb => hr.on hb
  have HR2 : Hid (∀ W, Below w.heap.size w W → ReadsE encI W B M) := Lib.hid fun W hb => hr2.on hb
  rw [hN, hN2]
  have HLL : Hid (N ≤ 9223372036854775807 ∧ N2 ≤ 9223372036854775807) := Lib.hid (by omega)
  clear hs hr hr2 hN hN2 hll hlm
  go_enter Tryd.func4, Tryd.ntmps4
  go_wp2_with fail
  refine (awake17_c s w HS.out).mono ?_
  rintro e w0 ⟨rfl, b0⟩
  have HB0 := Lib.hid b0
  clear b0
  go_wp2_with fail
  refine (alb_new_in HB0.out).mono ?_
  rintro e w1 ⟨q, P0, rfl, h1⟩
  have H1 := Lib.hid h1
  clear h1 HB0
  go_upto_region 5 with fail
  obtain ⟨gh, hgh⟩ : ∃ gh, w1.heap.size = gh := ⟨_, rfl⟩
  obtain ⟨W2, hW2⟩ : ∃ W2, w1.alloc (.cells #[.int .i64 100, .int .i64 100, .int .i64 100, .int .i64 100] 34) = W2 := ⟨_, rfl⟩
  have h2 : AlB w W2 P0 q ⟨[], []⟩ (fun W => W.heap[gh]? = some (.cells #[.int .i64 100, .int .i64 100, .int .i64 100, .int .i64 100] 34 (0, 0))) := by
    rw [← hW2, ← hgh]
    exact (H1.out.new _).drop fun W h => h.2
  have hnh : ¬ P0 gh ∧ gh < W2.heap.size := ⟨H1.out.fresh (Nat.le_of_eq hgh), lt_of_row h2.has⟩
  have HNH := Lib.hid hnh
  have H2 := Lib.hid h2
  rw [hW2, hgh]
  clear hW2 hgh h2 hnh H1
  have x0 := cell_of_heap H2.out.has 0
  have x1 := cell_of_heap H2.out.has 1
  have x2 := cell_of_heap H2.out.has 2
  have x3 := cell_of_heap H2.out.has 3
  go_wp2_with fail
  have co := H2.out.open_p HS.out 5 3 ⟨100, 100, 100, 100⟩
  rw [openK, errA0] at co
  refine co.mono ?_
  rintro e w3 ⟨rfl, P, h3, hP⟩
  have H3 := Lib.hid h3
  have HNH2 : Hid (¬ P gh) := Lib.hid fun h => by
    rcases hP gh h with h1 | h1
    · exact HNH.out.1 h1
    · exact absurd h1 (Nat.not_le.2 HNH.out.2)
  clear h3 co H2 hP x0 x1 x2 x3 HNH
  go_wp2_with fail
  have cr := H3.out.raise_c HS.out i5 0
  rw [raiseK0, errA0] at cr
  refine cr.mono ?_
  rintro e w4 ⟨rfl, h4⟩
  have H4 := Lib.hid h4
  clear h4 cr H3
  go_wp2_with fail
  have cr := H4.out.raise_c HS.out i5 1
  rw [raiseK1, errA0] at cr
  refine cr.mono ?_
  rintro e w5 ⟨rfl, h5⟩
  have H5 := Lib.hid h5
  clear h5 cr H4
  go_wp2_with fail
  have cr := H5.out.raise_c HS.out i5 2
  rw [raiseK2, errA0] at cr
  refine cr.mono ?_
  rintro e w6 ⟨rfl, h6⟩
  have H6 := Lib.hid h6
  clear h6 cr H5
  go_upto_region 9 with fail
  obtain ⟨gu, hgu⟩ : ∃ gu, w6.heap.size = gu := ⟨_, rfl⟩
  obtain ⟨gc, hgc⟩ : ∃ gc, gu + 1 = gc := ⟨_, rfl⟩
  obtain ⟨W8, hW8⟩ : ∃ W8, (w6.alloc (.cells #[.int .i64 0, .int .i64 0, .int .i64 0] 70)).alloc (.cells #[.int .i64 0, .int .i64 0, .int .i64 0] 70) = W8 := ⟨_, rfl⟩
  have h8 : AlB w W8 P q (gK []) (KK gh gu gc (useK []) (fun p => (cntK [] p : Int))) := by
    rw [← hW8, ← hgc, ← hgu]
    refine ((H6.out.new _).new _).drop fun W h => ?_
    obtain ⟨⟨k1, k2⟩, k3⟩ := h
    simp only [World.size_alloc] at k3
    exact ⟨k1, k2, k3⟩
  have hst : StK w P gh gu gc := by
    have z0 : gh < gu := by rw [← hgu]; exact lt_of_row H6.out.has
    have z1 := H6.out.below.size
    exact ⟨HNH2.out, H6.out.fresh (Nat.le_of_eq hgu), H6.out.fresh (by omega), by omega, by omega, by omega, by omega, by omega⟩
  have H8 := Lib.hid h8
  have HST := Lib.hid hst
  rw [hW8, hgu, hgc]
  clear h8 hst hgc hW8 hgu H6 HNH2
  go_upto_block 0 with fail
  go_cut [] (fun wx => ∃ (i : Nat) (T : List InA), i ≤ 40 ∧ InvK i T ∧ AlB w wx P q (gK T) (KK gh gu gc (useK T) (fun p => (cntK T p : Int))))
  case first =>
    go_wp2_with fail
    go_loopw [11] (fun I wr => ∃ (j : Nat) (T : List InA), j ≤ 40 ∧ I = .int .i64 (j : Int) ∧ InvK j T ∧ AlB w wr P q (gK T) (KK gh gu gc (useK T) (fun p => (cntK T p : Int)))) (fun I _ => 40 - natOf I)
    case atStart => exact ⟨0, [], by omega, rfl, InvK.nil, H8.out⟩
    case round =>
      obtain ⟨j, T, hj, rfl, hi, ha⟩ := hrel
      have HI := Lib.hid hi
      have HA := Lib.hid ha
      clear hi ha H8
      have hj0 : (0 : Int) ≤ (j : Int) := by omega
      by_cases h1 : (j : Int) < (N : Int)
      · have d1 : decide ((j : Int) < (N : Int)) = true := decide_eq_true h1
        by_cases h2 : (j : Int) < (N2 : Int)
        · have d2 : decide ((j : Int) < (N2 : Int)) = true := decide_eq_true h2
          by_cases h3 : (j : Int) < 40
          · have d3 : decide ((j : Int) < 40) = true := decide_eq_true h3
            have e5 : IntKind.i64.wrap (100 - (j : Int)) = 100 - (j : Int) := IntWalk.i64_in _ (by omega)
            have hw1 : wrap64 ((j : Int) + 1) = ((j + 1 : Nat) : Int) := by unfold wrap64; omega
            obtain ⟨x, hx⟩ : ∃ x, L[j]? = some x := ⟨_, List.getElem?_eq_getElem (by have := HN.out; omega)⟩
            obtain ⟨y, hy⟩ : ∃ y, M[j]? = some y := ⟨_, List.getElem?_eq_getElem (by have := HN2.out; omega)⟩
            obtain ⟨ad, pa, hA, hadd, hpa, hcc⟩ := HR.out wr HA.out.below j x hx
            obtain ⟨bd, pb, hB, hbdd, hpb, hcd⟩ := HR2.out wr HA.out.below j y hy
            subst hA hB
            have d0 := hcc 0 _ rfl
            have e0 := hcd 0 _ rfl
            rw [Nat.mul_one] at hadd hbdd
            rw [add_zeroE] at d0 e0
            obtain ⟨p, hp, hmod⟩ := mod_pos x 3 (by omega) (by omega)
            obtain ⟨n, hn, hmod2⟩ := mod_pos y 30 (by omega) (by omega)
            rw [show ((3 : Nat) : Int) = 3 from rfl] at hmod
            rw [show ((30 : Nat) : Int) = 30 from rfl] at hmod2
            have HP := Lib.hid hp
            have HNN := Lib.hid hn
            clear hcc hcd hpa hpb hx hy
            go_upto_region 13 with fail
            rw [hmod]
            go_upto_region 14 with fail
            rw [hmod2]
            clear d0 e0 hmod hmod2 hadd hbdd
            go_upto_region 15 with fail
            obtain ⟨X, hX⟩ : ∃ X, wr.heap.size = X := ⟨_, rfl⟩
            obtain ⟨W1, hW1⟩ : ∃ W1, wr.alloc (.cells #[.int .i64 (100 - (j : Int)), .int .i64 (j : Int)] 32) = W1 := ⟨_, rfl⟩
            have ha1 : AlB w W1 P q (gK T) (fun W => KK gh gu gc (useK T) (fun p => (cntK T p : Int)) W ∧ W.heap[X]? = some (.cells #[.int .i64 (100 - (j : Int)), .int .i64 (j : Int)] 32 (0, 0))) := by
              rw [← hW1, ← hX]
              exact HA.out.new _
            have HX : Hid (X ≠ gu ∧ X ≠ gc) := Lib.hid (by
              have k1 := lt_of_row HA.out.has.2.1
              have k2 := lt_of_row HA.out.has.2.2
              omega)
            have HA1 := Lib.hid ha1
            rw [hW1, hX]
            clear hW1 ha1 hX HA
            have x0 := cell_of_heap HA1.out.has.2 0
            have x1 := cell_of_heap HA1.out.has.2 1
            have ht : okT ⟨100 - (j : Int), (j : Int)⟩ := by unfold okT i64; simp only; omega
            have HT := Lib.hid ht
            have cp := HA1.out.put_c HS.out ht i5 (p : Int) ⟨(n : Int), 0, (n : Int), 0⟩ (by have := HI.out.len; show T.length ≤ 100000; omega)
            rw [putK HI.out hp (by omega) (by omega)] at cp
            have hun := HI.out.nn p
            have huf := HI.out.fit p
            obtain ⟨u, hu⟩ : ∃ u, useK T p = u := ⟨_, rfl⟩
            have e1 : IntKind.i64.wrap (u + (n : Int)) = u + (n : Int) := IntWalk.i64_in _ (by omega)
            have p0 : (0 : Int) ≤ (p : Int) := by omega
            have p3 : (p : Int) < 3 := by omega
            have hgu : (⟨gu, 0, none⟩ : Addr).add p = ⟨gu, p, none⟩ := by rw [Addr.add_lit, Nat.zero_add]
            have hgc : (⟨gc, 0, none⟩ : Addr).add p = ⟨gc, p, none⟩ := by rw [Addr.add_lit, Nat.zero_add]
            have HU := Lib.hid hu
            rw [hu] at cp
            by_cases hf : u + (n : Int) ≤ 100
            · have d5 : decide (u + (n : Int) ≤ 100) = true := decide_eq_true hf
              have HF := Lib.hid hf
              rw [if_pos hf, errA0] at cp
              have CP := Lib.hid cp
              clear cp ht hn hp hu hun huf hf
              go_wp2_with fail
              refine CP.out.mono ?_
              rintro e w5 ⟨rfl, h5⟩
              have H5 := Lib.hid h5
              clear h5 CP HA1 x0 x1
              have hcu := H5.out.has.1.cu HP.out
              rw [HU.out] at hcu
              go_upto_region 16 with fail
              go_quiet (fail)
              obtain ⟨W5, hW5⟩ : ∃ W5, w5.drewN nq = W5 := ⟨_, rfl⟩
              have h5' := H5.out.on (below_drewN (Below.refl _ _) nq)
              rw [hW5] at h5' ⊢
              have HROW := Lib.hid h5'.has.2
              have H6 := Lib.hid (h5'.drop fun W h => h.1)
              clear hW5 h5' H5 hcu d5
              have hcu := H6.out.has.cu HP.out
              have hfu := H6.out.has.fu p
              rw [HU.out] at hcu
              go_upto_region 22 with fail
              obtain ⟨W6, hW6⟩ : ∃ W6, W5.setCell ⟨gu, p, none⟩ (.int .i64 (u + (n : Int))) = W6 := ⟨_, rfl⟩
              have H7 := Lib.hid (H6.out.setU HST.out HP.out (u + (n : Int)))
              have HROW2 : Hid (W6.heap[X]? = some (.cells #[.int .i64 (100 - (j : Int)), .int .i64 (j : Int)] 32 (0, 0))) := Lib.hid (by rw [← hW6]; exact (heap_setCell_other W5 ⟨gu, p, none⟩ X _ HX.out.1).trans HROW.out)
              rw [hW6] at H7 ⊢
              clear hW6 hcu hfu H6 HROW
              have hcc := H7.out.has.cc HP.out
              have hfc := H7.out.has.fc p
              have hcb : cntK T p ≤ 40 := by
                have k1 : cntK T p ≤ T.length := List.length_filter_le _ _
                have k2 := HI.out.len
                omega
              have e8 : IntKind.i64.wrap ((cntK T p : Int) + 1) = (cntK T p : Int) + 1 := IntWalk.i64_in _ (by omega)
              go_upto_region 23 with fail
              obtain ⟨W7, hW7⟩ : ∃ W7, W6.setCell ⟨gc, p, none⟩ (.int .i64 ((cntK T p : Int) + 1)) = W7 := ⟨_, rfl⟩
              have h8 := H7.out.setC HST.out HP.out ((cntK T p : Int) + 1)
              have hX7 : W7.heap[X]? = some (.cells #[.int .i64 (100 - (j : Int)), .int .i64 (j : Int)] 32 (0, 0)) := by rw [← hW7]; exact (heap_setCell_other W6 ⟨gc, p, none⟩ X _ HX.out.2).trans HROW2.out
              rw [hW7] at h8 ⊢
              have hk1 : upd (useK T) p (u + (n : Int)) = useK (T ++ [elK j p (n : Int)]) := funext fun r => by
                rw [useK_app, ← HU.out]; unfold upd; split
                · rename_i e; subst e; rfl
                · rfl
              have hk2 : upd (fun p => (cntK T p : Int)) p ((cntK T p : Int) + 1) = (fun r => (cntK (T ++ [elK j p (n : Int)]) r : Int)) := funext fun r => by
                rw [cntK_app]; unfold upd; split
                · rename_i e; subst e; omega
                · rfl
              rw [hk1, hk2] at h8
              have x0 := cell_of_heap hX7 0
              have x1 := cell_of_heap hX7 1
              clear hW7 hk1 hk2 hX7 H7 HROW2 hcc hfc hcb e8
              have HFF : Hid (useK T p + (n : Int) ≤ 100) := Lib.hid (by rw [HU.out]; exact HF.out)
              have HI2 := Lib.hid (HI.out.add HP.out (by omega) (by have := HNN.out; omega) HFF.out)
              obtain ⟨e6, p2, hp2, e7⟩ := next3 HP.out
              have hlen : (T ++ [elK j p (n : Int)]).length ≤ 100000 := by have := HI2.out.len; omega
              have cp := h8.put_c HS.out HT.out i5 (p2 : Int) ⟨0, 0, 0, 0⟩ hlen
              rw [putK6 (x := elK j p (n : Int)) (List.mem_append.2 (.inr List.mem_cons_self)) rfl hp2, errA s 6 (by omega)] at cp
              have CP := Lib.hid cp
              clear cp h8 hlen
              go_wp2_with fail
              refine CP.out.mono ?_
              rintro e w8 ⟨rfl, h9⟩
              have H9 := Lib.hid h9
              clear h9 CP x0 x1 e6 e7
              go_wp2_with fail
              have ck := H9.out.kind_c HS.out (d := 6) (by omega)
              rw [errA s 6 (by omega)] at ck
              refine ck.mono ?_
              rintro e w9 ⟨rfl, h10⟩
              have H10 := Lib.hid h10
              clear ck h10 H9
              go_wp2_with fail
              go_roundw
              case rel => exact ⟨j + 1, T ++ [elK j p (n : Int)], by omega, by rw [← hw1]; first | rfl | (congr 1; omega), HI2.out, H10.out⟩
              case measure => simp [natOf]; omega
            · have d5 : decide (u + (n : Int) ≤ 100) = false := decide_eq_false hf
              rw [if_neg hf, errA s 10 (by omega)] at cp
              have CP := Lib.hid cp
              clear cp ht hn hp hu hun huf hf
              go_wp2_with fail
              refine CP.out.mono ?_
              rintro e w5 ⟨rfl, h5⟩
              have H5 := Lib.hid h5
              clear h5 CP HA1 x0 x1
              have hcu := H5.out.has.1.cu HP.out
              rw [HU.out] at hcu
              go_upto_region 16 with fail
              go_quiet (fail)
              have h5' := (H5.out.on (below_drewN (Below.refl _ _) nq)).drop fun W h => h.1
              obtain ⟨W5, hW5⟩ : ∃ W5, w5.drewN nq = W5 := ⟨_, rfl⟩
              rw [hW5] at h5' ⊢
              have H6 := Lib.hid h5'
              clear hW5 h5' H5 hcu d5
              go_wp2_with fail
              have ck := H6.out.kind_c HS.out (d := 10) (by omega)
              rw [errA s 10 (by omega)] at ck
              refine ck.mono ?_
              rintro e w6 ⟨rfl, h6⟩
              have H7 := Lib.hid h6
              clear ck h6 H6
              go_wp2_with fail
              go_roundw
              case rel => exact ⟨j + 1, T, by omega, by rw [← hw1]; first | rfl | (congr 1; omega), HI.out.skip, H7.out⟩
              case measure => simp [natOf]; omega
          · have d3 : decide ((j : Int) < 40) = false := decide_eq_false h3
            go_wp2_with fail
            go_meet
            exact ⟨j, T, hj, HI.out, HA.out⟩
        · have d2 : decide ((j : Int) < (N2 : Int)) = false := decide_eq_false h2
          go_wp2_with fail
          go_meet
          exact ⟨j, T, hj, HI.out, HA.out⟩
      · have d1 : decide ((j : Int) < (N : Int)) = false := decide_eq_false h1
        go_wp2_with fail
        go_meet
        exact ⟨j, T, hj, HI.out, HA.out⟩
  case rest =>
  obtain ⟨i, T, hi40, hi, ha⟩ := hcut
  have HI := Lib.hid hi
  have HA := Lib.hid ha
  have HI40 := Lib.hid hi40
  clear hi ha hi40 H8 HR HR2 HN HN2 HLL
  go_wp2_with fail
  have cs := HA.out.spots_c i5
  rw [spotsK HI.out] at cs
  refine cs.mono ?_
  rintro e w7 ⟨v7, rfl, h7⟩
  have H7 := Lib.hid h7
  clear h7 cs HA
  obtain ⟨_, hs7⟩ := H7.out.has
  obtain ⟨gl, cl, e7, _⟩ := hs7.some (by simp)
  rw [List.length_map, List.length_range] at e7
  subst e7
  clear hs7
  have HA : Hid (AlB w w7 P q (gK T) (KL gh gu gc gl cl T)) := Lib.hid (H7.out.drop fun W h => ⟨h.1, h.2.base (Nat.zero_le _)⟩)
  clear H7
  go_wp2_with fail
  go_loopw [17] (fun I wr => ∃ j : Nat, j ≤ 3 ∧ I = .int .i64 (j : Int) ∧ AlB w wr P q (gK T) (KL gh gu gc gl cl T)) (fun I _ => 3 - natOf I)
  case atStart => exact ⟨0, by omega, rfl, HA.out⟩
  case round =>
    obtain ⟨j, hj, rfl, ha⟩ := hrel
    clear HA
    have HA := Lib.hid ha
    clear ha
    have hj0 : (0 : Int) ≤ (j : Int) := by omega
    by_cases hj3 : j < 3
    · have hj3i : (j : Int) < 3 := by omega
      have d1 : decide ((j : Int) < 3) = true := decide_eq_true hj3i
      have hw1 : wrap64 ((j : Int) + 1) = ((j + 1 : Nat) : Int) := by unfold wrap64; omega
      obtain ⟨u, hu⟩ : ∃ u, useK T j = u := ⟨_, rfl⟩
      obtain ⟨cn, hcn⟩ : ∃ cn, cntK T j = cn := ⟨_, rfl⟩
      have k0 := HI.out.nn j
      have k1 := HI.out.fit j
      rw [hu] at k0 k1
      have e1 : IntKind.i64.wrap (100 - u) = 100 - u := IntWalk.i64_in _ (by omega)
      have HCS : Hid (∀ W, KL gh gu gc gl cl T W → W.cell? ⟨gl, j * 5 + 1, none⟩ = some (.int .i64 (100 - u)) ∧ W.cell? ⟨gl, j * 5 + 2, none⟩ = some (.int .i64 100) ∧ W.cell? ⟨gl, j * 5 + 3, none⟩ = some (.int .i64 (100 - u)) ∧ W.cell? ⟨gl, j * 5 + 4, none⟩ = some (.int .i64 100) ∧ W.cell? ⟨gu, j, none⟩ = some (.int .i64 u) ∧ W.cell? ⟨gc, j, none⟩ = some (.int .i64 (cn : Int))) := Lib.hid fun W h => by
        have := (h.cells hj3).2
        rw [hu, hcn] at this
        exact this
      have hadd := (HA.out.has.cells hj3).1
      have S0 := Lib.hid (HCS.out _ HA.out.has)
      have hguj : (⟨gu, 0, none⟩ : Addr).add j = ⟨gu, j, none⟩ := by rw [Addr.add_lit, Nat.zero_add]
      have hgcj : (⟨gc, 0, none⟩ : Addr).add j = ⟨gc, j, none⟩ := by rw [Addr.add_lit, Nat.zero_add]
      have HIN : Hid (∀ W, (W = wr ∨ W = wr.drew) → Calls Tryd.prog 26 #[.pointer (some ⟨q, 0, none⟩), .int .i64 5, .int .i64 (j : Int)] W fun e w' => ∃ A c, e = .returned (.slice A cn c) ∧ AlB w w' P q (gK T) (KL gh gu gc gl cl T)) := Lib.hid fun W hW => by
        have hc : AlB w W P q (gK T) (KL gh gu gc gl cl T) := by rcases hW with rfl | rfl; exact HA.out; exact HA.out.drew
        refine (hc.inside_c 5 (j : Int) (by have := HI.out.len; have := HI40.out; show T.length ≤ 100000; omega)).mono ?_
        rintro e w' ⟨v, rfl, h8⟩
        obtain ⟨A, c8, hv⟩ := h8.has.2.form
        subst hv
        refine ⟨A, c8, ?_, h8.drop fun W h => h.1⟩
        rw [insideK_len, hcn]
      have hEV := fun W => eqVd ⟨100 - u, 100, 100 - u, 100⟩ ⟨100 - u, 100, 100 - u, 100⟩ W
      simp only [decide_true] at hEV
      clear hu hcn k0 k1
      go_upto_region 31 with fail
      trace_state
      go_region_held3 (fun W => W.cell? ⟨gl, j * 5 + 1, none⟩ = some (.int .i64 (100 - u)) ∧ W.cell? ⟨gl, j * 5 + 2, none⟩ = some (.int .i64 100) ∧ W.cell? ⟨gl, j * 5 + 3, none⟩ = some (.int .i64 (100 - u)) ∧ W.cell? ⟨gl, j * 5 + 4, none⟩ = some (.int .i64 100) ∧ W.cell? ⟨gu, j, none⟩ = some (.int .i64 u) ∧ W.cell? ⟨gc, j, none⟩ = some (.int .i64 (cn : Int)))
        (first | exact S0.out | exact S1.out)
        (first
          | (go_at_call 26; refine (HIN.out _ (by first | exact .inl rfl | exact .inr rfl)).mono ?_; rintro e w8 ⟨A8, c8, rfl, k8⟩; have K8 := Lib.hid k8; have S1 := Lib.hid (HCS.out _ k8.has); clear k8))
      all_goals (
        clear e1 hadd hguj hgcj hEV HIN HCS S0 S1
        go_wp2_with fail
        go_roundw
        case rel => exact ⟨j + 1, hj3, by rw [← hw1]; first | rfl | (congr 1; omega), K8.out⟩
        case measure => simp [natOf]; omega)
    · obtain rfl : j = 3 := by omega
      clear hj hj0 hj3
      obtain ⟨k, hk, hmod⟩ := mod_pos fal 3 (by omega) (by omega)
      rw [show ((3 : Nat) : Int) = 3 from rfl] at hmod
      have HKK := Lib.hid hk
      go_upto_region 34 with fail
      rw [hmod]
      clear hmod hk
      have cf := HA.out.fall_c HS.out i5 (k : Int) (by have := HI.out.len; have := HI40.out; show T.length ≤ 100000; omega)
      rw [fallK T HKK.out, errA0, if_pos rfl] at cf
      have CF := Lib.hid cf
      clear cf
      go_wp2_with fail
      refine CF.out.mono ?_
      rintro e w8 ⟨v8, rfl, h8⟩
      obtain ⟨A8, c8, hv⟩ := h8.has.2.form
      subst hv
      obtain ⟨XS, hXS⟩ : ∃ XS, insideA (gK T) 5 (k : Int) = XS := ⟨_, rfl⟩
      obtain ⟨cn, hcn⟩ : ∃ cn, cntK T k = cn := ⟨_, rfl⟩
      have hlx : XS.length = cn := by rw [← hXS, ← hcn, insideK_len]
      rw [hXS] at h8 ⊢
      rw [hlx] at h8 ⊢
      have HX := Lib.hid hXS
      have HLX := Lib.hid hlx
      have HCN := Lib.hid hcn
      have H8 : Hid (AlB w w8 P q (gF T k) (KM gh gu gc gl cl T A8 cn c8 XS)) := Lib.hid (h8.drop fun W h => ⟨h.1, h.2.base (Nat.zero_le _)⟩)
      have hcc := H8.out.has.1.1.cc HKK.out
      simp only [hcn] at hcc
      have k0 : (0 : Int) ≤ (k : Int) := by omega
      have k3 : (k : Int) < 3 := by have := HKK.out; omega
      have hgc : (⟨gc, 0, none⟩ : Addr).add k = ⟨gc, k, none⟩ := by rw [Addr.add_lit, Nat.zero_add]
      clear h8 hXS hlx hcn CF HA
      go_wp2_with fail
      have cs := H8.out.spots_c i5
      refine cs.mono ?_
      rintro e w9 ⟨v9, rfl, h9⟩
      obtain ⟨A9, c9, hv⟩ := h9.has.2.form
      subst hv
      rw [spotsF_len T HKK.out]
      have H9 := Lib.hid (h9.drop fun W h => h.1)
      clear h9 cs H8 hcc hgc
      go_wp2_with fail
      have ht : okT ⟨200, 0⟩ := by unfold okT i64; simp only; omega
      have cp := H9.out.put_c HS.out ht i5 (k : Int) ⟨0, 0, 0, 0⟩ (by
        have := HI.out.len; have := HI40.out
        have k4 := List.length_filter_le (fun x => !inE 5 (k : Int) x) T
        show (T.filter fun x => !inE 5 (k : Int) x).length ≤ 100000
        omega)
      rw [putF T HKK.out, errA s 13 (by omega)] at cp
      refine cp.mono ?_
      rintro e w10 ⟨rfl, h10⟩
      have H10 := Lib.hid h10
      clear h10 cp ht H9
      go_wp2_with fail
      have ck := H10.out.kind_c HS.out (d := 13) (by omega)
      rw [errA s 13 (by omega)] at ck
      refine ck.mono ?_
      rintro e w11 ⟨rfl, h11⟩
      have H11 := Lib.hid h11
      clear h11 ck H10 k0 k3
      go_wp2_with fail
      go_loopw [21] (fun I wr => ∃ j : Nat, j ≤ cn ∧ I = .int .i64 (j : Int) ∧ AlB w wr P q (gF T k) (KM gh gu gc gl cl T A8 cn c8 XS)) (fun I _ => cn - natOf I)
      case atStart => exact ⟨0, Nat.zero_le _, rfl, H11.out⟩
      case round =>
        obtain ⟨j, hj, rfl, ha⟩ := hrel
        clear H11
        have HA := Lib.hid ha
        clear ha
        have hcn40 : cn ≤ 40 := by
          rw [← HCN.out]
          have k1 : cntK T k ≤ T.length := List.length_filter_le _ _
          have k2 := HI.out.len
          have := HI40.out
          omega
        by_cases hjn : j < cn
        · have hji : (j : Int) < (cn : Int) := by omega
          have hj0 : (0 : Int) ≤ (j : Int) := by omega
          have HW1 : Hid (wrap64 ((j : Int) + 1) = ((j + 1 : Nat) : Int)) := Lib.hid (by unfold wrap64; omega)
          obtain ⟨t, ht⟩ : ∃ t, XS[j]? = some t := ⟨_, List.getElem?_eq_getElem (by rw [HLX.out]; exact hjn)⟩
          obtain ⟨ad, gx, hA, hadd, -, -, -, hc⟩ := HA.out.has.2.at ht
          subst hA
          have d0 : wr.cell? ⟨gx, j * 2, none⟩ = some (.int .i64 t.job) := hc 0 _ rfl
          have d1 : wr.cell? ⟨gx, j * 2 + 1, none⟩ = some (.int .i64 t.ix) := hc 1 _ rfl
          have htm : t ∈ insideA (gK T) 5 (k : Int) := by rw [HX.out]; exact List.mem_of_getElem? ht
          have cw := HA.out.where_c (okK HI.out HI40.out htm)
          rw [whereF HI.out htm] at cw
          have CW := Lib.hid cw
          have HTT := Lib.hid ht
          clear cw hc htm ht
          go_wp2_with fail
          refine CW.out.mono ?_
          rintro e w12 ⟨rfl, h12⟩
          have H12 := Lib.hid h12
          clear h12 CW HA d0 d1
          go_upto_region 41 with fail
          obtain ⟨ad', gx', hA', hadd', -, -, -, hc'⟩ := H12.out.has.2.at HTT.out
          obtain rfl := Option.some.inj hA'
          have hgx : gx = gx' := by rw [hadd] at hadd'; simp only [Addr.mk.injEq, and_true] at hadd'; exact hadd'
          subst hgx
          have d0 : w12.cell? ⟨gx, j * 2, none⟩ = some (.int .i64 t.job) := hc' 0 _ rfl
          clear hc' hadd' hA'
          by_cases h0 : j = 0
          · subst h0
            go_quiet (fail)
            have hw1 := HW1.out
            go_wp2_with fail
            go_roundw
            case rel => exact ⟨1, hjn, by rw [← HW1.out]; first | rfl | (congr 1; omega), H12.out.on (below_drewN (Below.refl _ _) nq)⟩
            case measure => simp [natOf]; omega
          · obtain ⟨m, hm⟩ : ∃ m, j = m + 1 := ⟨j - 1, by omega⟩
            obtain ⟨y, hy⟩ : ∃ y, XS[m]? = some y := ⟨_, List.getElem?_eq_getElem (by rw [HLX.out]; omega)⟩
            obtain ⟨ad', gx', hA', hadd2, -, -, -, hc'⟩ := H12.out.has.2.at hy
            obtain rfl := Option.some.inj hA'
            have hgx : gx = gx' := (add_block hadd).symm.trans (add_block hadd2)
            subst hgx
            have d2 : w12.cell? ⟨gx, m * 2, none⟩ = some (.int .i64 y.job) := hc' 0 _ rfl
            have hr : y.job < t.job := riseK HI.out (k := k) (m := m) (by rw [HX.out]; exact hy) (by rw [HX.out, ← hm]; exact HTT.out)
            have e1 : decide (t.job ≤ y.job) = false := decide_eq_false (by omega)
            have e2 : IntKind.i64.wrap ((j : Int) - 1) = (m : Int) := by rw [IntWalk.i64_in _ (by omega)]; omega
            have e3 : decide ((0 : Int) < (j : Int)) = true := decide_eq_true (by omega)
            have hj1 : 0 < j := by omega
            have m0 : (0 : Int) ≤ (m : Int) := by omega
            have m1 : (m : Int) < (cn : Int) := by omega
            clear hc' hA' hy hm h0 hr
            go_quiet (fail)
            clear e1 e2 e3 hj1 m0 m1 hadd2 d2 d0 hadd
            have hw1 := HW1.out
            go_wp2_with fail
            go_roundw
            case rel => exact ⟨j + 1, hjn, by rw [← HW1.out]; first | rfl | (congr 1; omega), H12.out.on (below_drewN (Below.refl _ _) nq)⟩
            case measure => simp [natOf]; omega
        · obtain rfl : j = cn := by omega
          have H12 := HA
          clear HA hj
          obtain ⟨q0, hq0⟩ : ∃ q0, cntK T 0 = q0 := ⟨_, rfl⟩
          obtain ⟨q1, hq1⟩ : ∃ q1, cntK T 1 = q1 := ⟨_, rfl⟩
          obtain ⟨q2, hq2⟩ : ∃ q2, cntK T 2 = q2 := ⟨_, rfl⟩
          have hall := cnt_all HI.out
          have hle := HI.out.len
          have hi40 := HI40.out
          rw [hq0, hq1, hq2] at hall
          have e1 : IntKind.i64.wrap ((q0 : Int) + (q1 : Int)) = (q0 : Int) + (q1 : Int) := IntWalk.i64_in _ (by omega)
          have e2 : IntKind.i64.wrap ((q0 : Int) + (q1 : Int) + (q2 : Int)) = (q0 : Int) + (q1 : Int) + (q2 : Int) := IntWalk.i64_in _ (by omega)
          have k0 : (0 : Int) ≤ (k : Int) := by omega
          have k3 : (k : Int) < 3 := by have := HKK.out; omega
          have hgc : (⟨gc, 0, none⟩ : Addr).add k = ⟨gc, k, none⟩ := by rw [Addr.add_lit, Nat.zero_add]
          have HQ0 := Lib.hid hq0
          have HQ1 := Lib.hid hq1
          have HQ2 := Lib.hid hq2
          have HCS : Hid (∀ W, (KM gh gu gc gl cl T A8 j c8 XS) W → W.cell? ⟨gh, 0, none⟩ = some (.int .i64 100) ∧ W.cell? ⟨gh, 1, none⟩ = some (.int .i64 100) ∧ W.cell? ⟨gh, 2, none⟩ = some (.int .i64 100) ∧ W.cell? ⟨gh, 3, none⟩ = some (.int .i64 100) ∧ W.cell? ⟨gc, 0, none⟩ = some (.int .i64 (q0 : Int)) ∧ W.cell? ⟨gc, 1, none⟩ = some (.int .i64 (q1 : Int)) ∧ W.cell? ⟨gc, 2, none⟩ = some (.int .i64 (q2 : Int)) ∧ W.cell? ⟨gc, k, none⟩ = some (.int .i64 (j : Int))) := Lib.hid fun W h => by
            have z0 := h.1.1.cc (p := 0) (by omega)
            have z1 := h.1.1.cc (p := 1) (by omega)
            have z2 := h.1.1.cc (p := 2) (by omega)
            have z3 := h.1.1.cc HKK.out
            simp only [HQ0.out, HQ1.out, HQ2.out, HCN.out] at z0 z1 z2 z3
            exact ⟨cell_of_heap h.1.1.1 0, cell_of_heap h.1.1.1 1, cell_of_heap h.1.1.1 2, cell_of_heap h.1.1.1 3, z0, z1, z2, z3⟩
          have HRZ : Hid (∀ W, (W = wr ∨ W = wr.drew) → Calls Tryd.prog 13 #[.pointer (some ⟨q, 0, none⟩), .int .i64 5, .int .i64 (k : Int)] W fun e w' => e = .returned .nilIface ∧ AlB w w' P q (gR T k) (KM gh gu gc gl cl T A8 j c8 XS)) := Lib.hid fun W hW => by
            have hc : AlB w W P q (gF T k) (KM gh gu gc gl cl T A8 j c8 XS) := by rcases hW with rfl | rfl; exact H12.out; exact H12.out.drew
            have := hc.raise_c HS.out i5 (k : Int)
            rw [raiseF T HKK.out, errA0] at this
            exact this
          have HSP : Hid (∀ W, AlB w W P q (gR T k) (KM gh gu gc gl cl T A8 j c8 XS) → Calls Tryd.prog 24 #[.pointer (some ⟨q, 0, none⟩), .int .i64 5] W fun e w' => ∃ g c, e = .returned (.slice (some ⟨g, 0, none⟩) 3 c) ∧ AlB w w' P q (gR T k) (KM gh gu gc gl cl T A8 j c8 XS) ∧ (⟨g, 0, none⟩ : Addr).add (k * 5) = ⟨g, k * 5, none⟩ ∧ w'.cell? ⟨g, k * 5 + 1, none⟩ = some (.int .i64 100) ∧ w'.cell? ⟨g, k * 5 + 2, none⟩ = some (.int .i64 100) ∧ w'.cell? ⟨g, k * 5 + 3, none⟩ = some (.int .i64 100) ∧ w'.cell? ⟨g, k * 5 + 4, none⟩ = some (.int .i64 100)) := Lib.hid fun W hW => by
            obtain ⟨hl, hat⟩ := spotsR T HKK.out
            refine (hW.spots_c i5).mono ?_
            rintro e w' ⟨v, rfl, h9⟩
            obtain ⟨_, hs⟩ := h9.has
            obtain ⟨g, c9, ev, _⟩ := hs.some (by rw [hl]; omega)
            rw [hl] at ev
            subst ev
            obtain ⟨ad', g', hA, hg, _, _, _, hc⟩ := hs.at hat
            obtain rfl := Option.some.inj hA
            have hgg : g = g' := add_block hg
            subst hgg
            exact ⟨g, c9, rfl, h9.drop fun W h => h.1, hg, hc 1 _ rfl, hc 2 _ rfl, hc 3 _ rfl, hc 4 _ rfl⟩
          have S12 := Lib.hid (HCS.out _ H12.out.has)
          have hEV := fun W => eqVd hasK hasK W
          simp only [decide_true, hasK] at hEV
          clear hq0 hq1 hq2 hle hi40
          by_cases hs : q0 + q1 + q2 = j
          · have hb : ((q0 : Int) + (q1 : Int) + (q2 : Int) == (j : Int)) = true := by rw [beq_iff_eq]; omega
            have HCL : Hid (∀ W, AlB w W P q (gR T k) (KM gh gu gc gl cl T A8 j c8 XS) → Calls Tryd.prog 11 #[.pointer (some ⟨q, 0, none⟩), .int .i64 5] W fun e w' => e = .returned .nilIface ∧ Below w.heap.size w w' ∧ (KM gh gu gc gl cl T A8 j c8 XS) w') := Lib.hid fun W hW => by
              have := hW.close_c HS.out i5
              rw [closeR HI.out k, HQ0.out, HQ1.out, HQ2.out, HCN.out, if_pos hs, errA0] at this
              exact this.mono fun _ _ ⟨k1, k2⟩ => ⟨k1, k2.below, k2.has⟩
            clear hs hall
            go_upto_region 43 with fail
            refine wp_region_held_drew (S := fun W => W.cell? ⟨gh, 0, none⟩ = some (.int .i64 100) ∧ W.cell? ⟨gh, 1, none⟩ = some (.int .i64 100) ∧ W.cell? ⟨gh, 2, none⟩ = some (.int .i64 100) ∧ W.cell? ⟨gh, 3, none⟩ = some (.int .i64 100) ∧ W.cell? ⟨gc, 0, none⟩ = some (.int .i64 (q0 : Int)) ∧ W.cell? ⟨gc, 1, none⟩ = some (.int .i64 (q1 : Int)) ∧ W.cell? ⟨gc, 2, none⟩ = some (.int .i64 (q2 : Int)) ∧ W.cell? ⟨gc, k, none⟩ = some (.int .i64 (j : Int))) (by kernel_rfl) ?_ (fun hHeld => ?_)
            · exact S12.out
            refine rg_take 0 (some 230) _ (by kernel_rfl) (by kernel_rfl) (by kernel_rfl) (fun _ _ _ h => h) (by kernel_rfl) (by kernel_rfl) (by intro w' hSw op_ ho; obtain ⟨s0, s1, s2, s3, s4, s5, s6, s7⟩ := hSw; simp only [List.getElem?_toArray, List.getElem?_cons_zero, Option.some.injEq] at ho; subst ho; go_simp; with_reducible rfl) (by assumption) ?_
            try simp only [Act.put, List.setIfInBounds_toArray, List.set_cons_zero, List.set_cons_succ]
            refine rg_take 1 (some 231) _ (by kernel_rfl) (by kernel_rfl) (by kernel_rfl) (fun _ _ _ h => h) (by kernel_rfl) (by kernel_rfl) (by intro w' hSw op_ ho; obtain ⟨s0, s1, s2, s3, s4, s5, s6, s7⟩ := hSw; simp only [List.getElem?_toArray, List.getElem?_cons_succ, List.getElem?_cons_zero, Option.some.injEq] at ho; subst ho; go_simp; with_reducible rfl) (by assumption) ?_
            try simp only [Act.put, List.setIfInBounds_toArray, List.set_cons_zero, List.set_cons_succ]
            refine rg_one 2 (by kernel_rfl) (by kernel_rfl) (fun op_ ho K hK => ?_)
            simp only [List.getElem?_toArray, List.getElem?_cons_succ, List.getElem?_cons_zero, Option.some.injEq] at ho
            subst ho
            go_simp
            go_at_call 13
            refine (HRZ.out _ (by first | exact .inl rfl | exact .inr rfl)).mono ?_
            rintro e w13 ⟨rfl, k13⟩
            have K13 := Lib.hid k13
            have S13 := Lib.hid (HCS.out _ k13.has)
            clear k13
            go_wp2_with fail
            refine hK.out _ _ (by first | exact hHeld | exact S13.out | exact S14.out | exact S15.out) (fun hHeld => ?_)
            clear hK
            try simp only [Act.put, List.setIfInBounds_toArray, List.set_cons_zero, List.set_cons_succ]
            refine rg_take 3 (some 233) _ (by kernel_rfl) (by kernel_rfl) (by kernel_rfl) (fun _ _ _ h => h) (by kernel_rfl) (by kernel_rfl) (by intro w' hSw op_ ho; obtain ⟨s0, s1, s2, s3, s4, s5, s6, s7⟩ := hSw; simp only [List.getElem?_toArray, List.getElem?_cons_succ, List.getElem?_cons_zero, Option.some.injEq] at ho; subst ho; go_simp; with_reducible rfl) (by assumption) ?_
            try simp only [Act.put, List.setIfInBounds_toArray, List.set_cons_zero, List.set_cons_succ]
            refine rg_take 4 (some 234) _ (by kernel_rfl) (by kernel_rfl) (by kernel_rfl) (fun _ _ _ h => h) (by kernel_rfl) (by kernel_rfl) (by intro w' hSw op_ ho; obtain ⟨s0, s1, s2, s3, s4, s5, s6, s7⟩ := hSw; simp only [List.getElem?_toArray, List.getElem?_cons_succ, List.getElem?_cons_zero, Option.some.injEq] at ho; subst ho; go_simp; with_reducible rfl) (by assumption) ?_
            try simp only [Act.put, List.setIfInBounds_toArray, List.set_cons_zero, List.set_cons_succ]
            refine rg_take 5 (some 235) _ (by kernel_rfl) (by kernel_rfl) (by kernel_rfl) (fun _ _ _ h => h) (by kernel_rfl) (by kernel_rfl) (by intro w' hSw op_ ho; obtain ⟨s0, s1, s2, s3, s4, s5, s6, s7⟩ := hSw; simp only [List.getElem?_toArray, List.getElem?_cons_succ, List.getElem?_cons_zero, Option.some.injEq] at ho; subst ho; go_simp; with_reducible rfl) (by assumption) ?_
            try simp only [Act.put, List.setIfInBounds_toArray, List.set_cons_zero, List.set_cons_succ]
            refine rg_take 7 (some 237) _ (by kernel_rfl) (by kernel_rfl) (by kernel_rfl) (fun _ _ _ h => h) (by kernel_rfl) (by kernel_rfl) (by intro w' hSw op_ ho; obtain ⟨s0, s1, s2, s3, s4, s5, s6, s7⟩ := hSw; simp only [List.getElem?_toArray, List.getElem?_cons_succ, List.getElem?_cons_zero, Option.some.injEq] at ho; subst ho; go_simp; with_reducible rfl) (by assumption) ?_
            try simp only [Act.put, List.setIfInBounds_toArray, List.set_cons_zero, List.set_cons_succ]
            refine rg_take 11 (some 241) _ (by kernel_rfl) (by kernel_rfl) (by kernel_rfl) (fun _ _ _ h => h) (by kernel_rfl) (by kernel_rfl) (by intro w' hSw op_ ho; obtain ⟨s0, s1, s2, s3, s4, s5, s6, s7⟩ := hSw; simp only [List.getElem?_toArray, List.getElem?_cons_succ, List.getElem?_cons_zero, Option.some.injEq] at ho; subst ho; go_simp; with_reducible rfl) (by assumption) ?_
            try simp only [Act.put, List.setIfInBounds_toArray, List.set_cons_zero, List.set_cons_succ]
            refine rg_one 6 (by kernel_rfl) (by kernel_rfl) (fun op_ ho K hK => ?_)
            simp only [List.getElem?_toArray, List.getElem?_cons_succ, List.getElem?_cons_zero, Option.some.injEq] at ho
            subst ho
            go_simp
            go_at_call 24
            refine (HSP.out _ K13.out).mono ?_
            rintro e w14 ⟨g14, c14, rfl, k14, ha14, t1, t2, t3, t4⟩
            have K14 := Lib.hid k14
            have S14 := Lib.hid (HCS.out _ k14.has)
            clear k14
            go_wp2_with fail
            refine hK.out _ _ (by first | exact hHeld | exact S13.out | exact S14.out | exact S15.out) (fun hHeld => ?_)
            clear hK
            try simp only [Act.put, List.setIfInBounds_toArray, List.set_cons_zero, List.set_cons_succ]
            refine rg_take 8 (some 238) _ (by kernel_rfl) (by kernel_rfl) (by kernel_rfl) (fun _ _ _ h => h) (by kernel_rfl) (by kernel_rfl) (by intro w' hSw op_ ho; obtain ⟨s0, s1, s2, s3, s4, s5, s6, s7⟩ := hSw; simp only [List.getElem?_toArray, List.getElem?_cons_succ, List.getElem?_cons_zero, Option.some.injEq] at ho; subst ho; go_simp; with_reducible rfl) (by assumption) ?_
            try simp only [Act.put, List.setIfInBounds_toArray, List.set_cons_zero, List.set_cons_succ]
            refine rg_take 9 (some 239) _ (by kernel_rfl) (by kernel_rfl) (by kernel_rfl) (fun _ _ _ h => h) (by kernel_rfl) (by kernel_rfl) (by intro w' hSw op_ ho; obtain ⟨s0, s1, s2, s3, s4, s5, s6, s7⟩ := hSw; simp only [List.getElem?_toArray, List.getElem?_cons_succ, List.getElem?_cons_zero, Option.some.injEq] at ho; subst ho; go_simp; with_reducible rfl) (by assumption) ?_
            try simp only [Act.put, List.setIfInBounds_toArray, List.set_cons_zero, List.set_cons_succ]
            refine rg_one 10 (by kernel_rfl) (by kernel_rfl) (fun op_ ho K hK => ?_)
            simp only [List.getElem?_toArray, List.getElem?_cons_succ, List.getElem?_cons_zero, Option.some.injEq] at ho
            subst ho
            go_simp
            go_wp2_with fail
            refine hK.out _ _ (by first | exact hHeld | exact S13.out | exact S14.out | exact S15.out) (fun hHeld => ?_)
            clear hK
            try simp only [Act.put, List.setIfInBounds_toArray, List.set_cons_zero, List.set_cons_succ]
            refine rg_take 12 (some 242) _ (by kernel_rfl) (by kernel_rfl) (by kernel_rfl) (fun _ _ _ h => h) (by kernel_rfl) (by kernel_rfl) (by intro w' hSw op_ ho; obtain ⟨s0, s1, s2, s3, s4, s5, s6, s7⟩ := hSw; simp only [List.getElem?_toArray, List.getElem?_cons_succ, List.getElem?_cons_zero, Option.some.injEq] at ho; subst ho; go_simp; with_reducible rfl) (by assumption) ?_
            try simp only [Act.put, List.setIfInBounds_toArray, List.set_cons_zero, List.set_cons_succ]
            refine rg_take 13 (some 243) _ (by kernel_rfl) (by kernel_rfl) (by kernel_rfl) (fun _ _ _ h => h) (by kernel_rfl) (by kernel_rfl) (by intro w' hSw op_ ho; obtain ⟨s0, s1, s2, s3, s4, s5, s6, s7⟩ := hSw; simp only [List.getElem?_toArray, List.getElem?_cons_succ, List.getElem?_cons_zero, Option.some.injEq] at ho; subst ho; go_simp; with_reducible rfl) (by assumption) ?_
            try simp only [Act.put, List.setIfInBounds_toArray, List.set_cons_zero, List.set_cons_succ]
            refine rg_take 14 (some 244) _ (by kernel_rfl) (by kernel_rfl) (by kernel_rfl) (fun _ _ _ h => h) (by kernel_rfl) (by kernel_rfl) (by intro w' hSw op_ ho; obtain ⟨s0, s1, s2, s3, s4, s5, s6, s7⟩ := hSw; simp only [List.getElem?_toArray, List.getElem?_cons_succ, List.getElem?_cons_zero, Option.some.injEq] at ho; subst ho; go_simp; with_reducible rfl) (by assumption) ?_
            try simp only [Act.put, List.setIfInBounds_toArray, List.set_cons_zero, List.set_cons_succ]
            refine rg_take 15 (some 245) _ (by kernel_rfl) (by kernel_rfl) (by kernel_rfl) (fun _ _ _ h => h) (by kernel_rfl) (by kernel_rfl) (by intro w' hSw op_ ho; obtain ⟨s0, s1, s2, s3, s4, s5, s6, s7⟩ := hSw; simp only [List.getElem?_toArray, List.getElem?_cons_succ, List.getElem?_cons_zero, Option.some.injEq] at ho; subst ho; go_simp; with_reducible rfl) (by assumption) ?_
            try simp only [Act.put, List.setIfInBounds_toArray, List.set_cons_zero, List.set_cons_succ]
            refine rg_take 18 (some 248) _ (by kernel_rfl) (by kernel_rfl) (by kernel_rfl) (fun _ _ _ h => h) (by kernel_rfl) (by kernel_rfl) (by intro w' hSw op_ ho; obtain ⟨s0, s1, s2, s3, s4, s5, s6, s7⟩ := hSw; simp only [List.getElem?_toArray, List.getElem?_cons_succ, List.getElem?_cons_zero, Option.some.injEq] at ho; subst ho; go_simp; with_reducible rfl) (by assumption) ?_
            try simp only [Act.put, List.setIfInBounds_toArray, List.set_cons_zero, List.set_cons_succ]
            refine rg_take 19 (some 249) _ (by kernel_rfl) (by kernel_rfl) (by kernel_rfl) (fun _ _ _ h => h) (by kernel_rfl) (by kernel_rfl) (by intro w' hSw op_ ho; obtain ⟨s0, s1, s2, s3, s4, s5, s6, s7⟩ := hSw; simp only [List.getElem?_toArray, List.getElem?_cons_succ, List.getElem?_cons_zero, Option.some.injEq] at ho; subst ho; go_simp; with_reducible rfl) (by assumption) ?_
            try simp only [Act.put, List.setIfInBounds_toArray, List.set_cons_zero, List.set_cons_succ]
            refine rg_take 20 (some 250) _ (by kernel_rfl) (by kernel_rfl) (by kernel_rfl) (fun _ _ _ h => h) (by kernel_rfl) (by kernel_rfl) (by intro w' hSw op_ ho; obtain ⟨s0, s1, s2, s3, s4, s5, s6, s7⟩ := hSw; simp only [List.getElem?_toArray, List.getElem?_cons_succ, List.getElem?_cons_zero, Option.some.injEq] at ho; subst ho; go_simp; with_reducible rfl) (by assumption) ?_
            try simp only [Act.put, List.setIfInBounds_toArray, List.set_cons_zero, List.set_cons_succ]
            refine rg_take 21 (some 251) _ (by kernel_rfl) (by kernel_rfl) (by kernel_rfl) (fun _ _ _ h => h) (by kernel_rfl) (by kernel_rfl) (by intro w' hSw op_ ho; obtain ⟨s0, s1, s2, s3, s4, s5, s6, s7⟩ := hSw; simp only [List.getElem?_toArray, List.getElem?_cons_succ, List.getElem?_cons_zero, Option.some.injEq] at ho; subst ho; go_simp; with_reducible rfl) (by assumption) ?_
            try simp only [Act.put, List.setIfInBounds_toArray, List.set_cons_zero, List.set_cons_succ]
            refine rg_take 22 (some 252) _ (by kernel_rfl) (by kernel_rfl) (by kernel_rfl) (fun _ _ _ h => h) (by kernel_rfl) (by kernel_rfl) (by intro w' hSw op_ ho; obtain ⟨s0, s1, s2, s3, s4, s5, s6, s7⟩ := hSw; simp only [List.getElem?_toArray, List.getElem?_cons_succ, List.getElem?_cons_zero, Option.some.injEq] at ho; subst ho; go_simp; with_reducible rfl) (by assumption) ?_
            try simp only [Act.put, List.setIfInBounds_toArray, List.set_cons_zero, List.set_cons_succ]
            refine rg_take 23 (some 253) _ (by kernel_rfl) (by kernel_rfl) (by kernel_rfl) (fun _ _ _ h => h) (by kernel_rfl) (by kernel_rfl) (by intro w' hSw op_ ho; obtain ⟨s0, s1, s2, s3, s4, s5, s6, s7⟩ := hSw; simp only [List.getElem?_toArray, List.getElem?_cons_succ, List.getElem?_cons_zero, Option.some.injEq] at ho; subst ho; go_simp; with_reducible rfl) (by assumption) ?_
            try simp only [Act.put, List.setIfInBounds_toArray, List.set_cons_zero, List.set_cons_succ]
            refine rg_take 24 (some 254) _ (by kernel_rfl) (by kernel_rfl) (by kernel_rfl) (fun _ _ _ h => h) (by kernel_rfl) (by kernel_rfl) (by intro w' hSw op_ ho; obtain ⟨s0, s1, s2, s3, s4, s5, s6, s7⟩ := hSw; simp only [List.getElem?_toArray, List.getElem?_cons_succ, List.getElem?_cons_zero, Option.some.injEq] at ho; subst ho; go_simp; with_reducible rfl) (by assumption) ?_
            try simp only [Act.put, List.setIfInBounds_toArray, List.set_cons_zero, List.set_cons_succ]
            refine rg_take 25 (some 255) _ (by kernel_rfl) (by kernel_rfl) (by kernel_rfl) (fun _ _ _ h => h) (by kernel_rfl) (by kernel_rfl) (by intro w' hSw op_ ho; obtain ⟨s0, s1, s2, s3, s4, s5, s6, s7⟩ := hSw; simp only [List.getElem?_toArray, List.getElem?_cons_succ, List.getElem?_cons_zero, Option.some.injEq] at ho; subst ho; go_simp; with_reducible rfl) (by assumption) ?_
            try simp only [Act.put, List.setIfInBounds_toArray, List.set_cons_zero, List.set_cons_succ]
            refine rg_take 26 (some 256) _ (by kernel_rfl) (by kernel_rfl) (by kernel_rfl) (fun _ _ _ h => h) (by kernel_rfl) (by kernel_rfl) (by intro w' hSw op_ ho; obtain ⟨s0, s1, s2, s3, s4, s5, s6, s7⟩ := hSw; simp only [List.getElem?_toArray, List.getElem?_cons_succ, List.getElem?_cons_zero, Option.some.injEq] at ho; subst ho; go_simp; with_reducible rfl) (by assumption) ?_
            try simp only [Act.put, List.setIfInBounds_toArray, List.set_cons_zero, List.set_cons_succ]
            refine rg_take 27 (some 257) _ (by kernel_rfl) (by kernel_rfl) (by kernel_rfl) (fun _ _ _ h => h) (by kernel_rfl) (by kernel_rfl) (by intro w' hSw op_ ho; obtain ⟨s0, s1, s2, s3, s4, s5, s6, s7⟩ := hSw; simp only [List.getElem?_toArray, List.getElem?_cons_succ, List.getElem?_cons_zero, Option.some.injEq] at ho; subst ho; go_simp; with_reducible rfl) (by assumption) ?_
            try simp only [Act.put, List.setIfInBounds_toArray, List.set_cons_zero, List.set_cons_succ]
            refine rg_take 28 (some 258) _ (by kernel_rfl) (by kernel_rfl) (by kernel_rfl) (fun _ _ _ h => h) (by kernel_rfl) (by kernel_rfl) (by intro w' hSw op_ ho; obtain ⟨s0, s1, s2, s3, s4, s5, s6, s7⟩ := hSw; simp only [List.getElem?_toArray, List.getElem?_cons_succ, List.getElem?_cons_zero, Option.some.injEq] at ho; subst ho; go_simp; with_reducible rfl) (by assumption) ?_
            try simp only [Act.put, List.setIfInBounds_toArray, List.set_cons_zero, List.set_cons_succ]
            refine rg_take 29 (some 259) _ (by kernel_rfl) (by kernel_rfl) (by kernel_rfl) (fun _ _ _ h => h) (by kernel_rfl) (by kernel_rfl) (by intro w' hSw op_ ho; obtain ⟨s0, s1, s2, s3, s4, s5, s6, s7⟩ := hSw; simp only [List.getElem?_toArray, List.getElem?_cons_succ, List.getElem?_cons_zero, Option.some.injEq] at ho; subst ho; go_simp; with_reducible rfl) (by assumption) ?_
            try simp only [Act.put, List.setIfInBounds_toArray, List.set_cons_zero, List.set_cons_succ]
            refine rg_one 16 (by kernel_rfl) (by kernel_rfl) (fun op_ ho K hK => ?_)
            simp only [List.getElem?_toArray, List.getElem?_cons_succ, List.getElem?_cons_zero, Option.some.injEq] at ho
            subst ho
            go_simp
            go_at_call 11
            refine (HCL.out _ K14.out).mono ?_
            rintro e w15 ⟨rfl, b15, k15⟩
            have K15 := Lib.hid b15
            have S15 := Lib.hid (HCS.out _ k15)
            clear b15 k15
            go_wp2_with fail
            refine hK.out _ _ (by first | exact hHeld | exact S13.out | exact S14.out | exact S15.out) (fun hHeld => ?_)
            clear hK
            try simp only [Act.put, List.setIfInBounds_toArray, List.set_cons_zero, List.set_cons_succ]
            refine rg_take 17 (some 247) _ (by kernel_rfl) (by kernel_rfl) (by kernel_rfl) (fun _ _ _ h => h) (by kernel_rfl) (by kernel_rfl) (by intro w' hSw op_ ho; obtain ⟨s0, s1, s2, s3, s4, s5, s6, s7⟩ := hSw; simp only [List.getElem?_toArray, List.getElem?_cons_succ, List.getElem?_cons_zero, Option.some.injEq] at ho; subst ho; go_simp; with_reducible rfl) (by assumption) ?_
            try simp only [Act.put, List.setIfInBounds_toArray, List.set_cons_zero, List.set_cons_succ]
            refine rg_take 30 (some 260) _ (by kernel_rfl) (by kernel_rfl) (by kernel_rfl) (fun _ _ _ h => h) (by kernel_rfl) (by kernel_rfl) (by intro w' hSw op_ ho; obtain ⟨s0, s1, s2, s3, s4, s5, s6, s7⟩ := hSw; simp only [List.getElem?_toArray, List.getElem?_cons_succ, List.getElem?_cons_zero, Option.some.injEq] at ho; subst ho; go_simp; with_reducible rfl) (by assumption) ?_
            try simp only [Act.put, List.setIfInBounds_toArray, List.set_cons_zero, List.set_cons_succ]
            refine rg_take 31 (some 261) _ (by kernel_rfl) (by kernel_rfl) (by kernel_rfl) (fun _ _ _ h => h) (by kernel_rfl) (by kernel_rfl) (by intro w' hSw op_ ho; obtain ⟨s0, s1, s2, s3, s4, s5, s6, s7⟩ := hSw; simp only [List.getElem?_toArray, List.getElem?_cons_succ, List.getElem?_cons_zero, Option.some.injEq] at ho; subst ho; go_simp; with_reducible rfl) (by assumption) ?_
            try simp only [Act.put, List.setIfInBounds_toArray, List.set_cons_zero, List.set_cons_succ]
            refine rg_take 32 (some 6) _ (by kernel_rfl) (by kernel_rfl) (by kernel_rfl) (fun _ _ _ h => h) (by kernel_rfl) (by kernel_rfl) (by intro w' hSw op_ ho; obtain ⟨s0, s1, s2, s3, s4, s5, s6, s7⟩ := hSw; simp only [List.getElem?_toArray, List.getElem?_cons_succ, List.getElem?_cons_zero, Option.some.injEq] at ho; subst ho; go_simp; with_reducible rfl) (by assumption) ?_
            try simp only [Act.put, List.setIfInBounds_toArray, List.set_cons_zero, List.set_cons_succ]
            refine wpAnyH_done (by kernel_rfl) ?_ _
            clear hHeld
            go_wp2_with fail
            go_ret
            exact ⟨rfl, K15.out⟩
          · have hb : ((q0 : Int) + (q1 : Int) + (q2 : Int) == (j : Int)) = false := by rw [beq_eq_false_iff_ne]; omega
            have HCL : Hid (∀ W, AlB w W P q (gR T k) (KM gh gu gc gl cl T A8 j c8 XS) → Calls Tryd.prog 11 #[.pointer (some ⟨q, 0, none⟩), .int .i64 5] W fun e w' => e = .returned (.iface 161 (.pointer (some (s 12)))) ∧ Below w.heap.size w w' ∧ (KM gh gu gc gl cl T A8 j c8 XS) w') := Lib.hid fun W hW => by
              have := hW.close_c HS.out i5
              rw [closeR HI.out k, HQ0.out, HQ1.out, HQ2.out, HCN.out, if_neg hs, errA s 13 (by omega)] at this
              exact this.mono fun _ _ ⟨k1, k2⟩ => ⟨k1, k2.below, k2.has⟩
            clear hs hall
            go_upto_region 43 with fail
            refine wp_region_held_drew (S := fun W => W.cell? ⟨gh, 0, none⟩ = some (.int .i64 100) ∧ W.cell? ⟨gh, 1, none⟩ = some (.int .i64 100) ∧ W.cell? ⟨gh, 2, none⟩ = some (.int .i64 100) ∧ W.cell? ⟨gh, 3, none⟩ = some (.int .i64 100) ∧ W.cell? ⟨gc, 0, none⟩ = some (.int .i64 (q0 : Int)) ∧ W.cell? ⟨gc, 1, none⟩ = some (.int .i64 (q1 : Int)) ∧ W.cell? ⟨gc, 2, none⟩ = some (.int .i64 (q2 : Int)) ∧ W.cell? ⟨gc, k, none⟩ = some (.int .i64 (j : Int))) (by kernel_rfl) ?_ (fun hHeld => ?_)
            · exact S12.out
            refine rg_take 0 (some 230) _ (by kernel_rfl) (by kernel_rfl) (by kernel_rfl) (fun _ _ _ h => h) (by kernel_rfl) (by kernel_rfl) (by intro w' hSw op_ ho; obtain ⟨s0, s1, s2, s3, s4, s5, s6, s7⟩ := hSw; simp only [List.getElem?_toArray, List.getElem?_cons_zero, Option.some.injEq] at ho; subst ho; go_simp; with_reducible rfl) (by assumption) ?_
            try simp only [Act.put, List.setIfInBounds_toArray, List.set_cons_zero, List.set_cons_succ]
            refine rg_take 1 (some 231) _ (by kernel_rfl) (by kernel_rfl) (by kernel_rfl) (fun _ _ _ h => h) (by kernel_rfl) (by kernel_rfl) (by intro w' hSw op_ ho; obtain ⟨s0, s1, s2, s3, s4, s5, s6, s7⟩ := hSw; simp only [List.getElem?_toArray, List.getElem?_cons_succ, List.getElem?_cons_zero, Option.some.injEq] at ho; subst ho; go_simp; with_reducible rfl) (by assumption) ?_
            try simp only [Act.put, List.setIfInBounds_toArray, List.set_cons_zero, List.set_cons_succ]
            refine rg_one 2 (by kernel_rfl) (by kernel_rfl) (fun op_ ho K hK => ?_)
            simp only [List.getElem?_toArray, List.getElem?_cons_succ, List.getElem?_cons_zero, Option.some.injEq] at ho
            subst ho
            go_simp
            go_at_call 13
            refine (HRZ.out _ (by first | exact .inl rfl | exact .inr rfl)).mono ?_
            rintro e w13 ⟨rfl, k13⟩
            have K13 := Lib.hid k13
            have S13 := Lib.hid (HCS.out _ k13.has)
            clear k13
            go_wp2_with fail
            refine hK.out _ _ (by first | exact hHeld | exact S13.out | exact S14.out | exact S15.out) (fun hHeld => ?_)
            clear hK
            try simp only [Act.put, List.setIfInBounds_toArray, List.set_cons_zero, List.set_cons_succ]
            refine rg_take 3 (some 233) _ (by kernel_rfl) (by kernel_rfl) (by kernel_rfl) (fun _ _ _ h => h) (by kernel_rfl) (by kernel_rfl) (by intro w' hSw op_ ho; obtain ⟨s0, s1, s2, s3, s4, s5, s6, s7⟩ := hSw; simp only [List.getElem?_toArray, List.getElem?_cons_succ, List.getElem?_cons_zero, Option.some.injEq] at ho; subst ho; go_simp; with_reducible rfl) (by assumption) ?_
            try simp only [Act.put, List.setIfInBounds_toArray, List.set_cons_zero, List.set_cons_succ]
            refine rg_take 4 (some 234) _ (by kernel_rfl) (by kernel_rfl) (by kernel_rfl) (fun _ _ _ h => h) (by kernel_rfl) (by kernel_rfl) (by intro w' hSw op_ ho; obtain ⟨s0, s1, s2, s3, s4, s5, s6, s7⟩ := hSw; simp only [List.getElem?_toArray, List.getElem?_cons_succ, List.getElem?_cons_zero, Option.some.injEq] at ho; subst ho; go_simp; with_reducible rfl) (by assumption) ?_
            try simp only [Act.put, List.setIfInBounds_toArray, List.set_cons_zero, List.set_cons_succ]
            refine rg_take 5 (some 235) _ (by kernel_rfl) (by kernel_rfl) (by kernel_rfl) (fun _ _ _ h => h) (by kernel_rfl) (by kernel_rfl) (by intro w' hSw op_ ho; obtain ⟨s0, s1, s2, s3, s4, s5, s6, s7⟩ := hSw; simp only [List.getElem?_toArray, List.getElem?_cons_succ, List.getElem?_cons_zero, Option.some.injEq] at ho; subst ho; go_simp; with_reducible rfl) (by assumption) ?_
            try simp only [Act.put, List.setIfInBounds_toArray, List.set_cons_zero, List.set_cons_succ]
            refine rg_take 7 (some 237) _ (by kernel_rfl) (by kernel_rfl) (by kernel_rfl) (fun _ _ _ h => h) (by kernel_rfl) (by kernel_rfl) (by intro w' hSw op_ ho; obtain ⟨s0, s1, s2, s3, s4, s5, s6, s7⟩ := hSw; simp only [List.getElem?_toArray, List.getElem?_cons_succ, List.getElem?_cons_zero, Option.some.injEq] at ho; subst ho; go_simp; with_reducible rfl) (by assumption) ?_
            try simp only [Act.put, List.setIfInBounds_toArray, List.set_cons_zero, List.set_cons_succ]
            refine rg_take 11 (some 241) _ (by kernel_rfl) (by kernel_rfl) (by kernel_rfl) (fun _ _ _ h => h) (by kernel_rfl) (by kernel_rfl) (by intro w' hSw op_ ho; obtain ⟨s0, s1, s2, s3, s4, s5, s6, s7⟩ := hSw; simp only [List.getElem?_toArray, List.getElem?_cons_succ, List.getElem?_cons_zero, Option.some.injEq] at ho; subst ho; go_simp; with_reducible rfl) (by assumption) ?_
            try simp only [Act.put, List.setIfInBounds_toArray, List.set_cons_zero, List.set_cons_succ]
            refine rg_one 6 (by kernel_rfl) (by kernel_rfl) (fun op_ ho K hK => ?_)
            simp only [List.getElem?_toArray, List.getElem?_cons_succ, List.getElem?_cons_zero, Option.some.injEq] at ho
            subst ho
            go_simp
            go_at_call 24
            refine (HSP.out _ K13.out).mono ?_
            rintro e w14 ⟨g14, c14, rfl, k14, ha14, t1, t2, t3, t4⟩
            have K14 := Lib.hid k14
            have S14 := Lib.hid (HCS.out _ k14.has)
            clear k14
            go_wp2_with fail
            refine hK.out _ _ (by first | exact hHeld | exact S13.out | exact S14.out | exact S15.out) (fun hHeld => ?_)
            clear hK
            try simp only [Act.put, List.setIfInBounds_toArray, List.set_cons_zero, List.set_cons_succ]
            refine rg_take 8 (some 238) _ (by kernel_rfl) (by kernel_rfl) (by kernel_rfl) (fun _ _ _ h => h) (by kernel_rfl) (by kernel_rfl) (by intro w' hSw op_ ho; obtain ⟨s0, s1, s2, s3, s4, s5, s6, s7⟩ := hSw; simp only [List.getElem?_toArray, List.getElem?_cons_succ, List.getElem?_cons_zero, Option.some.injEq] at ho; subst ho; go_simp; with_reducible rfl) (by assumption) ?_
            try simp only [Act.put, List.setIfInBounds_toArray, List.set_cons_zero, List.set_cons_succ]
            refine rg_take 9 (some 239) _ (by kernel_rfl) (by kernel_rfl) (by kernel_rfl) (fun _ _ _ h => h) (by kernel_rfl) (by kernel_rfl) (by intro w' hSw op_ ho; obtain ⟨s0, s1, s2, s3, s4, s5, s6, s7⟩ := hSw; simp only [List.getElem?_toArray, List.getElem?_cons_succ, List.getElem?_cons_zero, Option.some.injEq] at ho; subst ho; go_simp; with_reducible rfl) (by assumption) ?_
            try simp only [Act.put, List.setIfInBounds_toArray, List.set_cons_zero, List.set_cons_succ]
            refine rg_one 10 (by kernel_rfl) (by kernel_rfl) (fun op_ ho K hK => ?_)
            simp only [List.getElem?_toArray, List.getElem?_cons_succ, List.getElem?_cons_zero, Option.some.injEq] at ho
            subst ho
            go_simp
            go_wp2_with fail
            refine hK.out _ _ (by first | exact hHeld | exact S13.out | exact S14.out | exact S15.out) (fun hHeld => ?_)
            clear hK
            try simp only [Act.put, List.setIfInBounds_toArray, List.set_cons_zero, List.set_cons_succ]
            refine rg_take 12 (some 242) _ (by kernel_rfl) (by kernel_rfl) (by kernel_rfl) (fun _ _ _ h => h) (by kernel_rfl) (by kernel_rfl) (by intro w' hSw op_ ho; obtain ⟨s0, s1, s2, s3, s4, s5, s6, s7⟩ := hSw; simp only [List.getElem?_toArray, List.getElem?_cons_succ, List.getElem?_cons_zero, Option.some.injEq] at ho; subst ho; go_simp; with_reducible rfl) (by assumption) ?_
            try simp only [Act.put, List.setIfInBounds_toArray, List.set_cons_zero, List.set_cons_succ]
            refine rg_take 13 (some 243) _ (by kernel_rfl) (by kernel_rfl) (by kernel_rfl) (fun _ _ _ h => h) (by kernel_rfl) (by kernel_rfl) (by intro w' hSw op_ ho; obtain ⟨s0, s1, s2, s3, s4, s5, s6, s7⟩ := hSw; simp only [List.getElem?_toArray, List.getElem?_cons_succ, List.getElem?_cons_zero, Option.some.injEq] at ho; subst ho; go_simp; with_reducible rfl) (by assumption) ?_
            try simp only [Act.put, List.setIfInBounds_toArray, List.set_cons_zero, List.set_cons_succ]
            refine rg_take 14 (some 244) _ (by kernel_rfl) (by kernel_rfl) (by kernel_rfl) (fun _ _ _ h => h) (by kernel_rfl) (by kernel_rfl) (by intro w' hSw op_ ho; obtain ⟨s0, s1, s2, s3, s4, s5, s6, s7⟩ := hSw; simp only [List.getElem?_toArray, List.getElem?_cons_succ, List.getElem?_cons_zero, Option.some.injEq] at ho; subst ho; go_simp; with_reducible rfl) (by assumption) ?_
            try simp only [Act.put, List.setIfInBounds_toArray, List.set_cons_zero, List.set_cons_succ]
            refine rg_take 15 (some 245) _ (by kernel_rfl) (by kernel_rfl) (by kernel_rfl) (fun _ _ _ h => h) (by kernel_rfl) (by kernel_rfl) (by intro w' hSw op_ ho; obtain ⟨s0, s1, s2, s3, s4, s5, s6, s7⟩ := hSw; simp only [List.getElem?_toArray, List.getElem?_cons_succ, List.getElem?_cons_zero, Option.some.injEq] at ho; subst ho; go_simp; with_reducible rfl) (by assumption) ?_
            try simp only [Act.put, List.setIfInBounds_toArray, List.set_cons_zero, List.set_cons_succ]
            refine rg_take 18 (some 248) _ (by kernel_rfl) (by kernel_rfl) (by kernel_rfl) (fun _ _ _ h => h) (by kernel_rfl) (by kernel_rfl) (by intro w' hSw op_ ho; obtain ⟨s0, s1, s2, s3, s4, s5, s6, s7⟩ := hSw; simp only [List.getElem?_toArray, List.getElem?_cons_succ, List.getElem?_cons_zero, Option.some.injEq] at ho; subst ho; go_simp; with_reducible rfl) (by assumption) ?_
            try simp only [Act.put, List.setIfInBounds_toArray, List.set_cons_zero, List.set_cons_succ]
            refine rg_take 19 (some 249) _ (by kernel_rfl) (by kernel_rfl) (by kernel_rfl) (fun _ _ _ h => h) (by kernel_rfl) (by kernel_rfl) (by intro w' hSw op_ ho; obtain ⟨s0, s1, s2, s3, s4, s5, s6, s7⟩ := hSw; simp only [List.getElem?_toArray, List.getElem?_cons_succ, List.getElem?_cons_zero, Option.some.injEq] at ho; subst ho; go_simp; with_reducible rfl) (by assumption) ?_
            try simp only [Act.put, List.setIfInBounds_toArray, List.set_cons_zero, List.set_cons_succ]
            refine rg_take 20 (some 250) _ (by kernel_rfl) (by kernel_rfl) (by kernel_rfl) (fun _ _ _ h => h) (by kernel_rfl) (by kernel_rfl) (by intro w' hSw op_ ho; obtain ⟨s0, s1, s2, s3, s4, s5, s6, s7⟩ := hSw; simp only [List.getElem?_toArray, List.getElem?_cons_succ, List.getElem?_cons_zero, Option.some.injEq] at ho; subst ho; go_simp; with_reducible rfl) (by assumption) ?_
            try simp only [Act.put, List.setIfInBounds_toArray, List.set_cons_zero, List.set_cons_succ]
            refine rg_take 21 (some 251) _ (by kernel_rfl) (by kernel_rfl) (by kernel_rfl) (fun _ _ _ h => h) (by kernel_rfl) (by kernel_rfl) (by intro w' hSw op_ ho; obtain ⟨s0, s1, s2, s3, s4, s5, s6, s7⟩ := hSw; simp only [List.getElem?_toArray, List.getElem?_cons_succ, List.getElem?_cons_zero, Option.some.injEq] at ho; subst ho; go_simp; with_reducible rfl) (by assumption) ?_
            try simp only [Act.put, List.setIfInBounds_toArray, List.set_cons_zero, List.set_cons_succ]
            refine rg_take 22 (some 252) _ (by kernel_rfl) (by kernel_rfl) (by kernel_rfl) (fun _ _ _ h => h) (by kernel_rfl) (by kernel_rfl) (by intro w' hSw op_ ho; obtain ⟨s0, s1, s2, s3, s4, s5, s6, s7⟩ := hSw; simp only [List.getElem?_toArray, List.getElem?_cons_succ, List.getElem?_cons_zero, Option.some.injEq] at ho; subst ho; go_simp; with_reducible rfl) (by assumption) ?_
            try simp only [Act.put, List.setIfInBounds_toArray, List.set_cons_zero, List.set_cons_succ]
            refine rg_take 23 (some 253) _ (by kernel_rfl) (by kernel_rfl) (by kernel_rfl) (fun _ _ _ h => h) (by kernel_rfl) (by kernel_rfl) (by intro w' hSw op_ ho; obtain ⟨s0, s1, s2, s3, s4, s5, s6, s7⟩ := hSw; simp only [List.getElem?_toArray, List.getElem?_cons_succ, List.getElem?_cons_zero, Option.some.injEq] at ho; subst ho; go_simp; with_reducible rfl) (by assumption) ?_
            try simp only [Act.put, List.setIfInBounds_toArray, List.set_cons_zero, List.set_cons_succ]
            refine rg_take 24 (some 254) _ (by kernel_rfl) (by kernel_rfl) (by kernel_rfl) (fun _ _ _ h => h) (by kernel_rfl) (by kernel_rfl) (by intro w' hSw op_ ho; obtain ⟨s0, s1, s2, s3, s4, s5, s6, s7⟩ := hSw; simp only [List.getElem?_toArray, List.getElem?_cons_succ, List.getElem?_cons_zero, Option.some.injEq] at ho; subst ho; go_simp; with_reducible rfl) (by assumption) ?_
            try simp only [Act.put, List.setIfInBounds_toArray, List.set_cons_zero, List.set_cons_succ]
            refine rg_take 25 (some 255) _ (by kernel_rfl) (by kernel_rfl) (by kernel_rfl) (fun _ _ _ h => h) (by kernel_rfl) (by kernel_rfl) (by intro w' hSw op_ ho; obtain ⟨s0, s1, s2, s3, s4, s5, s6, s7⟩ := hSw; simp only [List.getElem?_toArray, List.getElem?_cons_succ, List.getElem?_cons_zero, Option.some.injEq] at ho; subst ho; go_simp; with_reducible rfl) (by assumption) ?_
            try simp only [Act.put, List.setIfInBounds_toArray, List.set_cons_zero, List.set_cons_succ]
            refine rg_take 26 (some 256) _ (by kernel_rfl) (by kernel_rfl) (by kernel_rfl) (fun _ _ _ h => h) (by kernel_rfl) (by kernel_rfl) (by intro w' hSw op_ ho; obtain ⟨s0, s1, s2, s3, s4, s5, s6, s7⟩ := hSw; simp only [List.getElem?_toArray, List.getElem?_cons_succ, List.getElem?_cons_zero, Option.some.injEq] at ho; subst ho; go_simp; with_reducible rfl) (by assumption) ?_
            try simp only [Act.put, List.setIfInBounds_toArray, List.set_cons_zero, List.set_cons_succ]
            refine rg_take 27 (some 257) _ (by kernel_rfl) (by kernel_rfl) (by kernel_rfl) (fun _ _ _ h => h) (by kernel_rfl) (by kernel_rfl) (by intro w' hSw op_ ho; obtain ⟨s0, s1, s2, s3, s4, s5, s6, s7⟩ := hSw; simp only [List.getElem?_toArray, List.getElem?_cons_succ, List.getElem?_cons_zero, Option.some.injEq] at ho; subst ho; go_simp; with_reducible rfl) (by assumption) ?_
            try simp only [Act.put, List.setIfInBounds_toArray, List.set_cons_zero, List.set_cons_succ]
            refine rg_take 28 (some 258) _ (by kernel_rfl) (by kernel_rfl) (by kernel_rfl) (fun _ _ _ h => h) (by kernel_rfl) (by kernel_rfl) (by intro w' hSw op_ ho; obtain ⟨s0, s1, s2, s3, s4, s5, s6, s7⟩ := hSw; simp only [List.getElem?_toArray, List.getElem?_cons_succ, List.getElem?_cons_zero, Option.some.injEq] at ho; subst ho; go_simp; with_reducible rfl) (by assumption) ?_
            try simp only [Act.put, List.setIfInBounds_toArray, List.set_cons_zero, List.set_cons_succ]
            refine rg_take 29 (some 259) _ (by kernel_rfl) (by kernel_rfl) (by kernel_rfl) (fun _ _ _ h => h) (by kernel_rfl) (by kernel_rfl) (by intro w' hSw op_ ho; obtain ⟨s0, s1, s2, s3, s4, s5, s6, s7⟩ := hSw; simp only [List.getElem?_toArray, List.getElem?_cons_succ, List.getElem?_cons_zero, Option.some.injEq] at ho; subst ho; go_simp; with_reducible rfl) (by assumption) ?_
            try simp only [Act.put, List.setIfInBounds_toArray, List.set_cons_zero, List.set_cons_succ]
            refine rg_one 16 (by kernel_rfl) (by kernel_rfl) (fun op_ ho K hK => ?_)
            simp only [List.getElem?_toArray, List.getElem?_cons_succ, List.getElem?_cons_zero, Option.some.injEq] at ho
            subst ho
            go_simp
            go_at_call 11
            refine (HCL.out _ K14.out).mono ?_
            rintro e w15 ⟨rfl, b15, k15⟩
            have K15 := Lib.hid b15
            have S15 := Lib.hid (HCS.out _ k15)
            clear b15 k15
            go_wp2_with fail
            refine hK.out _ _ (by first | exact hHeld | exact S13.out | exact S14.out | exact S15.out) (fun hHeld => ?_)
            clear hK
            try simp only [Act.put, List.setIfInBounds_toArray, List.set_cons_zero, List.set_cons_succ]
            refine rg_take 17 (some 247) _ (by kernel_rfl) (by kernel_rfl) (by kernel_rfl) (fun _ _ _ h => h) (by kernel_rfl) (by kernel_rfl) (by intro w' hSw op_ ho; obtain ⟨s0, s1, s2, s3, s4, s5, s6, s7⟩ := hSw; simp only [List.getElem?_toArray, List.getElem?_cons_succ, List.getElem?_cons_zero, Option.some.injEq] at ho; subst ho; go_simp; with_reducible rfl) (by assumption) ?_
            try simp only [Act.put, List.setIfInBounds_toArray, List.set_cons_zero, List.set_cons_succ]
            refine rg_take 30 (some 260) _ (by kernel_rfl) (by kernel_rfl) (by kernel_rfl) (fun _ _ _ h => h) (by kernel_rfl) (by kernel_rfl) (by intro w' hSw op_ ho; obtain ⟨s0, s1, s2, s3, s4, s5, s6, s7⟩ := hSw; simp only [List.getElem?_toArray, List.getElem?_cons_succ, List.getElem?_cons_zero, Option.some.injEq] at ho; subst ho; go_simp; with_reducible rfl) (by assumption) ?_
            try simp only [Act.put, List.setIfInBounds_toArray, List.set_cons_zero, List.set_cons_succ]
            refine rg_take 31 (some 261) _ (by kernel_rfl) (by kernel_rfl) (by kernel_rfl) (fun _ _ _ h => h) (by kernel_rfl) (by kernel_rfl) (by intro w' hSw op_ ho; obtain ⟨s0, s1, s2, s3, s4, s5, s6, s7⟩ := hSw; simp only [List.getElem?_toArray, List.getElem?_cons_succ, List.getElem?_cons_zero, Option.some.injEq] at ho; subst ho; go_simp; with_reducible rfl) (by assumption) ?_
            try simp only [Act.put, List.setIfInBounds_toArray, List.set_cons_zero, List.set_cons_succ]
            refine rg_take 32 (some 6) _ (by kernel_rfl) (by kernel_rfl) (by kernel_rfl) (fun _ _ _ h => h) (by kernel_rfl) (by kernel_rfl) (by intro w' hSw op_ ho; obtain ⟨s0, s1, s2, s3, s4, s5, s6, s7⟩ := hSw; simp only [List.getElem?_toArray, List.getElem?_cons_succ, List.getElem?_cons_zero, Option.some.injEq] at ho; subst ho; go_simp; with_reducible rfl) (by assumption) ?_
            try simp only [Act.put, List.setIfInBounds_toArray, List.set_cons_zero, List.set_cons_succ]
            refine wpAnyH_done (by kernel_rfl) ?_ _
            clear hHeld
            go_wp2_with fail
            go_ret
            exact ⟨rfl, K15.out⟩
end Go.Proofs.YtfikkjdkgigikaaDoor
