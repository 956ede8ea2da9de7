/- The program's park by contracts: what machines have together, what is live. Conditions: all machines are good; the sentinels lie where the program's text lays them. -/
import Derived.Test.YtaenpajmgenjhaaDoorPpA
import Derived.Test.YtaenpajmgenjhaaDoorSum
namespace Go.Proofs.YtaenpajmgenjhaaDoor
open Go Go.RowKit Go.Shelf

theorem addV_assoc (x y z : V4) : addV (addV x y) z = addV x (addV y z) := by unfold addV; simp only [V4.mk.injEq]; omega
theorem addV_zero (x : V4) : addV x ⟨0, 0, 0, 0⟩ = x := by unfold addV; cases x; simp
theorem zero_addV (x : V4) : addV ⟨0, 0, 0, 0⟩ x = x := by unfold addV; cases x; simp
theorem addR_good {x y : V4} (hx : goodV x = true) (hy : goodV y = true) : addR x y = if goodV (addV x y) then (addV x y, 0) else (⟨0, 0, 0, 0⟩, 4) := by rw [add_yes hx hy]; rfl
/-- What Sum makes of what good machines have. -/
theorem sumGo_good : ∀ (L : List Mc) (t : V4) (i : Nat), goodV t = true → (∀ m ∈ L, goodV m.has = true) →
    (goodV (addV t (sumV L)) = true → sumGo (L.map (·.has)) t i = (addV t (sumV L), 0, 0)) ∧ (goodV (addV t (sumV L)) = false → 0 < (sumGo (L.map (·.has)) t i).2.1 ∧ (sumGo (L.map (·.has)) t i).2.1 ≤ 14 ∧ (sumGo (L.map (·.has)) t i).1 = ⟨0, 0, 0, 0⟩)
  | [], t, i, ht, _ => by
    rw [sumV_nil, addV_zero, ht]
    exact ⟨fun _ => rfl, fun h => by cases h⟩
  | m :: L, t, i, ht, h => by
    have hm := h m (List.mem_cons_self ..)
    have hL := fun x hx => h x (List.mem_cons_of_mem _ hx)
    rw [sumV_cons, ← addV_assoc]
    have ha := addR_good ht hm
    cases hg : goodV (addV t m.has) with
    | true =>
      rw [hg, if_pos rfl] at ha
      have e : sumGo ((m :: L).map (·.has)) t i = sumGo (L.map (·.has)) (addV t m.has) (i + 1) := by
        rw [List.map_cons, sumGo_ok (by rw [ha]), ha]
      rw [e]
      exact sumGo_good L (addV t m.has) (i + 1) hg hL
    | false =>
      rw [hg, if_neg (by simp)] at ha
      have e : sumGo ((m :: L).map (·.has)) t i = (⟨0, 0, 0, 0⟩, 4, i) := by
        rw [List.map_cons, sumGo_err (by rw [ha]; decide), ha]
      rw [e]
      refine ⟨fun h2 => ?_, fun _ => ⟨by show 0 < 4; decide, by show 4 ≤ 14; decide, rfl⟩⟩
      have b := goodV_of h2
      have pa := sum_part L (fun m => m.has.a) (fun m hm => (goodV_of (hL m hm)).1.1) fun _ => true
      have pb := sum_part L (fun m => m.has.b) (fun m hm => (goodV_of (hL m hm)).2.1.1) fun _ => true
      have pc := sum_part L (fun m => m.has.c) (fun m hm => (goodV_of (hL m hm)).2.2.1.1) fun _ => true
      have pd := sum_part L (fun m => m.has.d) (fun m hm => (goodV_of (hL m hm)).2.2.2.1) fun _ => true
      have g1 := goodV_of ht
      have g2 := goodV_of hm
      exfalso
      have : goodV (addV t m.has) = true := goodV_mk (by unfold addV sumV at b; unfold addV; simp only at b ⊢; omega)
      rw [this] at hg; cases hg
theorem sumR_good (L : List Mc) (h : ∀ m ∈ L, goodV m.has = true) :
    (goodV (sumV L) = true → sumR (L.map (·.has)) = (sumV L, 0, 0)) ∧ (goodV (sumV L) = false → 0 < (sumR (L.map (·.has))).2.1 ∧ (sumR (L.map (·.has))).2.1 ≤ 14 ∧ (sumR (L.map (·.has))).1 = ⟨0, 0, 0, 0⟩) := by
  have := sumGo_good L ⟨0, 0, 0, 0⟩ 0 (by decide) h
  rw [zero_addV] at this
  exact this
/-- A vector's four cells. -/
def encV4 : EncK V4 4 where
  enc x := [.int .i64 x.a, .int .i64 x.b, .int .i64 x.c, .int .i64 x.d]
  len _ := rfl
  one x u hu := by simp at hu; rcases hu with rfl | rfl | rfl | rfl <;> rfl
theorem Tryd.infoV4 : (Tryd.prog.info? 28).map (fun i => (i.zero, i.size, i.bytes)) = some (some (.agg #[.int .i64 0, .int .i64 0, .int .i64 0, .int .i64 0]), 4, 32) := by kernel_rfl
theorem OwnE.vrow {w : World} {base c : Nat} {A : Option Addr} {L : List V4} (h : OwnE encV4 28 w base (.slice A L.length c) L) : VRow w w.heap.size A L := fun hn => by
  obtain ⟨g, cap, e, _, _, hg, _, hc⟩ := h.some hn
  simp only [Value.slice.injEq] at e
  obtain ⟨rfl, _, rfl⟩ := e
  refine ⟨_, rfl, hg, fun i z hz => ?_⟩
  rw [Addr.add_lit, Nat.zero_add]
  exact ⟨hc i z hz 0 _ rfl, hc i z hz 1 _ rfl, hc i z hz 2 _ rfl, hc i z hz 3 _ rfl⟩
theorem lies_oneV4 {w : World} {g : Nat} {x : V4} (h : w.heap[g]? = some (.cells #[.int .i64 x.a, .int .i64 x.b, .int .i64 x.c, .int .i64 x.d] 28 (0, 0))) : LiesE encV4 w (.slice (some ⟨g, 0, none⟩) 1 1) [x] :=
  .inr ⟨⟨g, 0, none⟩, 1, rfl, Nat.le_refl _, fun j u hu => by
    rw [Addr.add_lit, Nat.zero_add, cell_of_heap h, ← hu, cellsE_one]
    show (encV4.enc x).toArray[j]? = _
    exact List.getElem?_toArray⟩

/-- How capacity ends. -/
def CapPost (S : V4) (w : World) (e : Ending) (w' : World) : Prop :=
  Below w.heap.size w w' ∧ ((goodV S = true ∧ e = .returned (.tuple #[.agg #[.int .i64 S.a, .int .i64 S.b, .int .i64 S.c, .int .i64 S.d], .nilIface])) ∨
   (goodV S = false ∧ ∃ b, e = .returned (.tuple #[.agg #[.int .i64 0, .int .i64 0, .int .i64 0, .int .i64 0], .iface 97 (.pointer (some ⟨b, 0, none⟩))])))

set_option maxRecDepth 100000 in
set_option maxHeartbeats 1600000 in
theorem capacity_c (s : Nat → Addr) (base : Nat) (v : Value) (L : List Mc) (w : World) (hs : Sent s w) (h : OwnE encMc 45 w base v L) (hg : ∀ m ∈ L, goodV m.has = true) (hn : L.length ≤ 1000000) :
    Calls Tryd.prog 25 #[v] w (CapPost (sumV L) w) := by
  obtain ⟨A, cap, rfl⟩ := h.form
  have OW := Lib.hid h
  have HG := Lib.hid hg
  have HS := Lib.hid hs
  obtain ⟨i0, hi0, hz0, hz1, hz2⟩ := info_parts Tryd.infoV4
  clear h hg hs
  go_enter Tryd.func25, Tryd.ntmps25
  go_wp2_with fail
  go_loopg [4, 6, 9] L.length (fun gk s4 _ s9 wr => ∃ (k : Nat) (B : Option Addr) (c : Nat), s9 = .int .i64 k ∧ k ≤ L.length ∧ L.length - k ≤ gk ∧ s4 = .slice B k c ∧ Aside (OwnE encV4 28 wr (w.heap.size + 1) (.slice B k c) ((L.take k).map (·.has)) ∧ Below (w.heap.size + 1) (w.alloc (.cells #[.int .i64 0, .int .i64 0, .int .i64 0, .int .i64 0] 28)) wr))
  case atStart => exact ⟨0, none, 0, rfl, Nat.zero_le _, Nat.le_refl _, rfl, OwnE.nil .., Below.refl _ _⟩
  case round =>
    obtain ⟨k, B, c, rfl, hk, hgk, rfl, IN⟩ := hrel
    have hb0 : Below w.heap.size w wr := ((Below.refl w.heap.size w).alloc (Nat.le_refl _) _).trans (IN.out.2.mono (by omega))
    have hzr : w.heap.size + 1 ≤ wr.heap.size := by have := IN.out.2.size; simpa using this
    by_cases hlt : k < L.length
    · obtain ⟨x, hx⟩ : ∃ x, L[k]? = some x := ⟨_, List.getElem?_eq_getElem hlt⟩
      have hltz : (k : Int) < (L.length : Int) := by omega
      obtain ⟨ad, g, rfl, hadd, _, hgw, hf, hc⟩ := (OW.out.on hb0).at hx
      have c0 := hc 0 _ rfl
      have c1 := hc 1 _ rfl
      have c2 := hc 2 _ rfl
      have c3 := hc 3 _ rfl
      have c4 := hc 4 _ rfl
      have c5 := hc 5 _ rfl
      have c6 := hc 6 _ rfl
      rw [Nat.add_zero] at c0
      have hkl : ((L.take k).map (·.has)).length = k := by rw [List.length_map, List.length_take]; omega
      have IO := IN.out.1
      have HO : Hid (OwnE encV4 28 wr (w.heap.size + 1) (.slice B k c) ((L.take k).map (·.has))) := IO
      have HX := Lib.hid hx
      obtain ⟨W2, hW2⟩ : ∃ W2, W2 = (wr.alloc (.cells #[.int .i64 x.id, .int .i64 x.cell, .int .i64 x.has.a, .int .i64 x.has.b, .int .i64 x.has.c, .int .i64 x.has.d, .int .i64 x.st] 45)).alloc (.cells #[.int .i64 x.has.a, .int .i64 x.has.b, .int .i64 x.has.c, .int .i64 x.has.d] 28) := ⟨_, rfl⟩
      have hb2 : Below wr.heap.size wr W2 := by rw [hW2]; exact ((Below.refl _ _).alloc (Nat.le_refl _) _).alloc (by simp) _
      have hz2' : W2.heap.size = wr.heap.size + 2 := by rw [hW2]; simp
      have A1 := Lib.hid (HO.out.on hb2)
      have A2 : Hid (LiesE encV4 W2 (.slice (some ⟨wr.heap.size + 1, 0, none⟩) 1 1) [x.has]) := lies_oneV4 (by rw [hW2]; have := heap_alloc_new (wr.alloc (.cells #[.int .i64 x.id, .int .i64 x.cell, .int .i64 x.has.a, .int .i64 x.has.b, .int .i64 x.has.c, .int .i64 x.has.d, .int .i64 x.st] 45)) (.cells #[.int .i64 x.has.a, .int .i64 x.has.b, .int .i64 x.has.c, .int .i64 x.has.d] 28); simpa using this)
      have A3 : Hid (((L.take k).map (·.has)).length + [x.has].length ≤ maxLen) := by simp only [Hid, hkl, List.length_cons, List.length_nil, maxLen]; omega
      have A4 : Hid ((((L.take k).map (·.has)).length + [x.has].length) * 32 ≤ 140737488355328) := by simp only [Hid, hkl, List.length_cons, List.length_nil]; omega
      have A5 : Hid (w.heap.size + 1 ≤ W2.heap.size) := by simp only [Hid]; omega
      have HKL := Lib.hid hkl
      have HB0 := Lib.hid IN.out.2
      have HW2 := Lib.hid hW2
      clear hc IO IN hx hkl hW2
      go_wp2_with (at_builtin; rw [← HW2.out]; refine wpList_append_E rfl _ _ 79 rfl i0 _ 32 Tryd.underlying79 hi0 hz0 hz1 hz2 rfl (by decide) rfl A1.out rfl A2.out A3.out A4.out A5.out ?_; intro v' w' hv hgr hown; obtain ⟨B', c', e'⟩ := hv.form; rw [List.length_append, HKL.out, show [x.has].length = 1 from rfl] at e'; subst e'; have HV := Lib.hid hv; have HGR := Lib.hid hgr; have HOWN := Lib.hid hown; clear hv hgr hown)
      go_roundg (L.length - (k + 1))
      case measure => omega
      case rel =>
        have el : (L.take k).map (·.has) ++ [x.has] = (L.take (k + 1)).map (·.has) := by rw [List.take_add_one, HX.out, Option.toList_some, List.map_append]; rfl
        refine ⟨k + 1, B', c', by go_num, by omega, Nat.le_refl _, rfl, ?_, ?_⟩
        · have := HV.out
          rwa [el] at this
        · refine (HB0.out.trans (hb2.mono hzr)).grown HGR.out (by omega) fun j hj => ?_
          exact (A1.out.lt j hj).1
    · obtain rfl : k = L.length := by omega
      have hltz : ¬ (L.length : Int) < (L.length : Int) := by omega
      have hT : (L.take L.length).map (·.has) = L.map (·.has) := by rw [List.take_length]
      have IO := IN.out.1
      rw [hT] at IO
      have hlm : (L.map (·.has)).length = L.length := List.length_map _
      have hR := sumR_good L HG.out
      have HSUM : Calls Tryd.prog 41 #[.slice B L.length c] wr (SumPost s (sumR (L.map (·.has))) wr) := by
        have k := sum_any s B c (L.map (·.has)) wr (HS.out.below hb0 (Nat.le_refl _)) (OwnE.vrow (by rw [hlm]; exact IO)) (by rw [hlm]; omega)
        rwa [hlm] at k
      have hz0' : Vb wr w.heap.size ⟨0, 0, 0, 0⟩ := (Vb.new w ⟨0, 0, 0, 0⟩).below IN.out.2 (by omega)
      have HR := Lib.hid hR
      have HSM := Lib.hid HSUM
      have HZ := Lib.hid hz0'
      have HB0 := Lib.hid hb0
      clear IN IO hT hlm hR HSUM hz0' hb0
      go_wp2_with fail
      refine HSM.out.mono ?_
      rintro e w2 ⟨hb2, hend⟩
      have Z2 := HZ.out.below hb2 (by omega)
      obtain ⟨r0, r1, r2, r3, rf, rl⟩ := Z2.facts
      have hbw := HB0.out.trans (hb2.mono HB0.out.size)
      cases hgd : goodV (sumV L) with
      | true =>
        have e1 := HR.out.1 hgd
        rw [e1] at hend
        rcases hend with ⟨_, rfl⟩ | ⟨h0, _⟩
        · have HGD := Lib.hid hgd
          clear e1 hb2 Z2 hgd
          go_wp2_with fail
          exact bodyPost_ret (v := .tuple #[.agg #[.int .i64 (sumV L).a, .int .i64 (sumV L).b, .int .i64 (sumV L).c, .int .i64 (sumV L).d], .nilIface]) (by simp [results, Tryd.results25, go_sem, r0, r1, r2, r3]) rfl ⟨by (repeat' (first | (with_reducible exact Below.refl _ _) | (with_reducible refine below_drewN ?_ _) | (with_reducible refine Below.drew ?_) | (with_reducible refine Below.alloc ?_ ?_ _) | (with_reducible refine Below.setCell ?_ ?_ _) | (with_reducible refine Below.trans ?_ (Below.mono (by with_reducible assumption) ?_)) | omega | (simp only at *; omega) | (with_reducible refine Below.size (B := 0) ?_))), .inl ⟨HGD.out, rfl⟩⟩
        · exact absurd h0 (by show ¬ 0 < 0; decide)
      | false =>
        have e1 := HR.out.2 hgd
        rcases hend with ⟨h0, _⟩ | ⟨_, _, _, b, rfl, _⟩
        · omega
        · have HGD := Lib.hid hgd
          clear e1 hb2 Z2 hgd
          go_wp2_with fail
          exact bodyPost_ret (v := .tuple #[.agg #[.int .i64 0, .int .i64 0, .int .i64 0, .int .i64 0], .iface 97 (.pointer (some ⟨b, 0, none⟩))]) (by simp [results, Tryd.results25, go_sem, r0, r1, r2, r3]) rfl ⟨by (repeat' (first | (with_reducible exact Below.refl _ _) | (with_reducible refine below_drewN ?_ _) | (with_reducible refine Below.drew ?_) | (with_reducible refine Below.alloc ?_ ?_ _) | (with_reducible refine Below.setCell ?_ ?_ _) | (with_reducible refine Below.trans ?_ (Below.mono (by with_reducible assumption) ?_)) | omega | (simp only at *; omega) | (with_reducible refine Below.size (B := 0) ?_))), .inr ⟨HGD.out, _, rfl⟩⟩
end Go.Proofs.YtaenpajmgenjhaaDoor
