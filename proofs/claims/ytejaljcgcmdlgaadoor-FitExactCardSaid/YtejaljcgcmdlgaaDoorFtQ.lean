/- The reference's fit by contract: All. Conditions: the spots and the demands lie in memory. -/
import Derived.Test.YtejaljcgcmdlgaaDoorFtZ
namespace Go.Proofs.YtejaljcgcmdlgaaDoor
open Go Go.RowKit

theorem Tryd.infoI16 : (Tryd.prog.info? 3).map (fun i => (i.zero, i.size, i.bytes)) = some (some (.int .i64 0), 1, 8) := by kernel_rfl
/-- Rows of different elements lie apart. -/
theorem own_apart {α β : Type} {n m : Nat} {E : EncK α n} {F : EncK β m} {e f : TypeId} {w : World} {b b' : Nat} {u v : Value} {L : List α} {M : List β} (h : OwnE E e w b u L) (k : OwnE F f w b' v M) (he : e ≠ f) : ∀ g, u.ownBlock = some g → v.ownBlock = some g → False := fun g hu hv => by
  rcases h.2 with ⟨rfl, _⟩ | ⟨g1, c1, r1, rfl, _, h1, _⟩
  · cases hu
  · rcases k.2 with ⟨rfl, _⟩ | ⟨g2, c2, r2, rfl, _, h2, _⟩
    · cases hv
    · cases hu
      cases hv
      rw [h1] at h2
      simp only [Option.some.injEq, Obj.cells.injEq] at h2
      exact he h2.2.1
theorem heap_set4 {w : World} {g k : Nat} (hk : k ≠ g) (o1 o2 o3 o4 : Nat) (a b c d : Value) : ((((w.setCell ⟨g, o1, none⟩ a).setCell ⟨g, o2, none⟩ b).setCell ⟨g, o3, none⟩ c).setCell ⟨g, o4, none⟩ d).heap[k]? = w.heap[k]? := by
  rw [heap_setCell_other _ ⟨g, o4, none⟩ k d hk, heap_setCell_other _ ⟨g, o3, none⟩ k c hk, heap_setCell_other _ ⟨g, o2, none⟩ k b hk, heap_setCell_other _ ⟨g, o1, none⟩ k a hk]
theorem lies_one16 {w : World} {g : Nat} {x : Int} (h : w.heap[g]? = some (.cells #[.int .i64 x] 3 (0, 0))) : LiesE encI w (.slice (some ⟨g, 0, none⟩) 1 1) [x] :=
  .inr ⟨⟨g, 0, none⟩, 1, rfl, Nat.le_refl _, fun j u hu => by
    rw [Addr.add_lit, Nat.zero_add, cell_of_heap h, ← hu, cellsE_one]
    show (encI.enc x).toArray[j]? = _
    exact List.getElem?_toArray⟩
theorem allS_step {m : List Spt} {needs : List V4} {out : List Int} {i : Nat} {x : V4} (hx : needs[i]? = some x) : allS m (needs.drop i) out i = match bestS x m with
    | none => ([], (i : Int))
    | some (a, t) => allS (m.set a (cutS t x)) (needs.drop (i + 1)) (out ++ [t.id]) (i + 1) := by
  have h1 : needs.drop i = x :: needs.drop (i + 1) := by
    obtain ⟨hl, rfl⟩ := List.getElem?_eq_some_iff.1 hx
    exact List.drop_eq_getElem_cons hl
  rw [h1]; rfl

set_option maxRecDepth 100000 in
set_option maxHeartbeats 6400000 in
theorem rall_c (base : Nat) (v : Value) (L : List Spt) (needs : List V4) (An : Option Addr) (cn : Nat) (w : World) (h : OwnE encSpt 34 w base v L) (hN : ReadsE encV16 w An needs) (hn : L.length ≤ 1000000) (hn2 : needs.length ≤ 1000000) :
    Calls Tryd.prog 11 #[v, .slice An needs.length cn] w fun e w' => Below w.heap.size w w' ∧ ∃ v', e = .returned (.tuple #[v', .int .i64 (allS L needs [] 0).2]) ∧ OwnE encI 3 w' w.heap.size v' (allS L needs [] 0).1 := by
  obtain ⟨i0, hi0, hz0, hz1, hz2⟩ := info_parts Tryd.infoRS
  obtain ⟨iI, hiI, hI0, hI1, hI2⟩ := info_parts Tryd.infoI16
  have A1 := Lib.hid (OwnE.none (E := encSpt) (e := 34) w (base := w.heap.size) (Nat.le_refl _))
  have A2 := Lib.hid (h.lies.onB (w' := w.alloc (.cells #[] 34)) ((Below.refl _ _).alloc (Nat.le_refl _) _))
  have A3 : Hid (([] : List Spt).length + L.length ≤ maxLen) := by simp only [Hid, List.length_nil, maxLen]; omega
  have A4 : Hid ((([] : List Spt).length + L.length) * 40 ≤ 140737488355328) := by simp only [Hid, List.length_nil]; omega
  have A5 : Hid (w.heap.size ≤ (w.alloc (.cells #[] 34)).heap.size) := by simp only [Hid, World.size_alloc]; omega
  have HN := Lib.hid hN
  have HII := Lib.hid hiI
  obtain ⟨A0, c0, rfl⟩ := h.form
  clear h hN hiI
  go_enter Tryd.func11, Tryd.ntmps11
  go_upto_region 1 with fail
  go_upto_region 2 with (at_builtin; refine wpList_append_E rfl _ _ 26 rfl i0 _ 40 Tryd.underlying26 hi0 hz0 hz1 hz2 rfl (by decide) rfl A1.out rfl A2.out A3.out A4.out A5.out ?_; intro v1 w1 hv hgr hown)
  rw [List.nil_append] at hv
  have HB1 : Hid (Below w.heap.size w w1) := Lib.hid (((Below.refl _ _).alloc (Nat.le_refl _) _).grown hgr (by simp) (fun k hk => by have e : some w.heap.size = some k := hk; cases e; exact Nat.le_refl _))
  obtain ⟨Am, cap, rfl⟩ := hv.form
  have HV1 : Hid (OwnE encSpt 34 (w1.alloc (.cells #[] 3)) w.heap.size (.slice Am L.length cap) L) := Lib.hid (hv.on ((Below.refl _ _).alloc (Nat.le_refl _) _))
  have HO1 : Hid (OwnE encI 3 (w1.alloc (.cells #[] 3)) w.heap.size (.slice (some ⟨w1.heap.size, 0, none⟩) 0 0) []) := Lib.hid (OwnE.none w1 HB1.out.size)
  clear hv hgr hown A1 A2 A3 A4 A5 hi0 hz0 hz1 hz2
  go_upto_region 4 with fail
  go_loopg [7, 8] needs.length (fun gk s7 s8 wr => ∃ (i : Nat) (m : List Spt) (out : List Int) (Bo : Option Addr) (co : Nat), s8 = .int .i64 i ∧ s7 = .slice Bo i co ∧ i ≤ needs.length ∧ needs.length - i ≤ gk ∧ Aside (m.length = L.length ∧ out.length = i ∧ allS m (needs.drop i) out i = allS L needs [] 0 ∧ OwnE encSpt 34 wr w.heap.size (.slice Am L.length cap) m ∧ OwnE encI 3 wr w.heap.size (.slice Bo i co) out ∧ Below w.heap.size w wr))
  case atStart => exact ⟨0, L, [], _, _, rfl, rfl, Nat.zero_le _, Nat.le_refl _, rfl, rfl, rfl, HV1.out, HO1.out, HB1.out.alloc HB1.out.size _⟩
  case round =>
    obtain ⟨i, m, out, Bo, co, rfl, rfl, hi, hgk, IN⟩ := hrel
    have HML := Lib.hid IN.out.1
    have HOL := Lib.hid IN.out.2.1
    have HAS := Lib.hid IN.out.2.2.1
    have HO := Lib.hid IN.out.2.2.2.1
    have HU := Lib.hid IN.out.2.2.2.2.1
    have HB := Lib.hid IN.out.2.2.2.2.2
    clear IN
    by_cases hlt : i < needs.length
    · obtain ⟨x, hx⟩ : ∃ x, needs[i]? = some x := ⟨_, List.getElem?_eq_getElem hlt⟩
      obtain ⟨ad2, p2, rfl, had2, hg2, hv2⟩ := HN.out i x hx
      have hst := (allS_step (m := m) (out := out) hx).symm.trans HAS.out
      have HST := Lib.hid hst
      have HA2 := Lib.hid had2
      have HC2 := Lib.hid hv2
      have HG2 := Lib.hid hg2
      have hz2 : (i : Int) < (needs.length : Int) := by omega
      have v0 := (HB.out.cell (p := p2) hg2).trans ((congrArg w.cell? (add_zeroE p2).symm).trans (hv2 0 _ rfl))
      have v1 := (HB.out.cell (p := ⟨p2.block, p2.off + 1, none⟩) hg2).trans (hv2 1 _ rfl)
      have v2 := (HB.out.cell (p := ⟨p2.block, p2.off + 2, none⟩) hg2).trans (hv2 2 _ rfl)
      have v3 := (HB.out.cell (p := ⟨p2.block, p2.off + 3, none⟩) hg2).trans (hv2 3 _ rfl)
      have HRA := Lib.hid (rat_c x w.heap.size _ m wr HO.out (by have := HML.out; omega))
      clear hx hg2 hv2 hst
      go_wp2_with fail
      refine HRA.out.mono ?_
      rintro e w2 ⟨rfl, b2⟩
      have HB2 := Lib.hid b2
      clear b2 v0 v1 v2 v3 had2 HRA
      generalize hbe : bestS x m = be at HST
      cases be with
      | none =>
        have HST' : Hid (([], (i : Int)) = allS L needs [] 0) := Lib.hid HST.out
        rw [show placeS none = -1 from rfl]
        clear hbe
        have hb0 : Below w.heap.size w w2 := HB.out.trans (HB2.out.mono HB.out.size)
        have HB0 := Lib.hid hb0
        clear hb0
        go_wp2_with fail
        exact bodyPost_ret (v := .tuple #[.slice none 0 0, .int .i64 (i : Int)]) (by simp [results, Tryd.results11, go_sem]) rfl ⟨HB0.out, _, by rw [← HST'.out], by rw [← HST'.out]; exact OwnE.nil ..⟩
      | some p =>
        obtain ⟨a, t⟩ := p
        have hat := bestS_get hbe
        have HAT := Lib.hid hat
        have hal : (a : Int) < (L.length : Int) := by have := (List.getElem?_eq_some_iff.1 hat).1; have := HML.out; omega
        have han : ¬ ((a : Int) < 0) := by omega
        rw [show placeS (some (a, t)) = (a : Int) from rfl]
        have HO2 := Lib.hid (HO.out.on HB2.out)
        obtain ⟨ad, ga, rfl, hadd, hsp, _⟩ := own_spt HO2.out hat
        have HADD := Lib.hid (hadd a (by have := HML.out; omega))
        have HS := Lib.hid hsp
        have HB02 : Hid (Below w.heap.size w w2) := Lib.hid (HB.out.trans (HB2.out.mono HB.out.size))
        clear hbe hat hadd hsp
        go_upto_region 9 with fail
        refine wp_reg (opsOf Tryd.f11 9) (by kernel_rfl) ?_
        refine all_r9 _ _ _ _ _ _ _ _ _ _ _ _ _ _ _ _ _ _ _ _ _ _ _ _ _ _ _ _ _ _ _ _ _ _ _ _ _ _ _ _ _ _ _ _ _ _ _ _ _ _ w.heap.size ad ad2 p2 L.length cap needs.length cn ga a i t x _ w2 HADD.out hal HA2.out hz2 HS.out (fun r u hu => (HB02.out.cell (p := p2.add r) (by rw [block_add16]; exact HG2.out)).trans (HC2.out r u hu)) HG2.out (own_low HO2.out HAT.out HADD.out) HB02.out.size ?_
        intro _ _ _ _ _ _ _ _ _ _ _ _ _ _ _ _ wa ba
        obtain ⟨w3, hw3⟩ : ∃ w3, w3 = ((((wa.setCell ⟨ga, a * 5 + 1, none⟩ (.int .i64 (remS t x).a)).setCell ⟨ga, a * 5 + 1 + 1, none⟩ (.int .i64 (remS t x).b)).setCell ⟨ga, a * 5 + 1 + 2, none⟩ (.int .i64 (remS t x).c)).setCell ⟨ga, a * 5 + 1 + 3, none⟩ (.int .i64 (remS t x).d)) := ⟨_, rfl⟩
        rw [← hw3]
        have hO3 : OwnE encSpt 34 w3 w.heap.size (.slice (some ad) L.length cap) (m.set a (cutS t x)) := by rw [hw3]; exact own_cut' (HO2.out.on ba) HAT.out HADD.out HML.out (remS t x)
        have hUa : OwnE encI 3 wa w.heap.size (.slice Bo i co) out := (HU.out.on HB2.out).on ba
        have hU3 : OwnE encI 3 w3 w.heap.size (.slice Bo i co) out := hUa.same fun k hk => by
          rw [hw3]
          refine heap_set4 (fun e => ?_) _ _ _ _ _ _ _ _
          subst e
          obtain ⟨rfl, _⟩ := own_block HO2.out HAT.out HADD.out
          exact own_apart hUa (HO2.out.on ba) (by decide) k hk rfl
        have hB3 : Below w.heap.size w w3 := by rw [hw3]; exact below_set4 (HB02.out.trans (ba.mono HB02.out.size)) (own_low HO2.out HAT.out HADD.out) _ _ _ _
        have hci : w3.cell? ⟨ga, a * 5, none⟩ = some (.int .i64 t.id) := by
          have hlen := (List.getElem?_eq_some_iff.1 HAT.out).1
          obtain ⟨ad', ga', e, h1, h2, _⟩ := own_spt hO3 (List.getElem?_set_self hlen)
          cases e
          have e2 := (h1 a (by rw [List.length_set]; exact hlen)).symm.trans HADD.out
          simp only [Addr.mk.injEq, and_true] at e2
          rw [← e2]
          exact h2.1
        have had := HADD.out
        have A1 : Hid (OwnE encI 3 (w3.alloc (.cells #[.int .i64 t.id] 3)) w.heap.size (.slice Bo i co) out) := Lib.hid (hU3.on ((Below.refl _ _).alloc (Nat.le_refl _) _))
        have A2 : Hid (LiesE encI (w3.alloc (.cells #[.int .i64 t.id] 3)) (.slice (some ⟨w3.heap.size, 0, none⟩) 1 1) [t.id]) := lies_one16 (heap_alloc_new w3 _)
        have A3 : Hid (out.length + [t.id].length ≤ maxLen) := by have := HOL.out; simp only [Hid, List.length_cons, List.length_nil, maxLen]; omega
        have A4 : Hid ((out.length + [t.id].length) * 8 ≤ 140737488355328) := by have := HOL.out; simp only [Hid, List.length_cons, List.length_nil]; omega
        have A5 : Hid (w.heap.size ≤ (w3.alloc (.cells #[.int .i64 t.id] 3)).heap.size) := by have := hB3.size; simp only [Hid, World.size_alloc]; omega
        have HO3 : Hid (OwnE encSpt 34 (w3.alloc (.cells #[.int .i64 t.id] 3)) w.heap.size (.slice (some ad) L.length cap) (m.set a (cutS t x))) := Lib.hid (hO3.on ((Below.refl _ _).alloc (Nat.le_refl _) _))
        have HB3 : Hid (Below w.heap.size w (w3.alloc (.cells #[.int .i64 t.id] 3))) := Lib.hid (hB3.alloc hB3.size _)
        clear hw3 hO3 hUa hU3 hB3 ba
        go_wp2_with (at_builtin; refine wpList_append_E rfl _ _ 24 rfl iI _ 8 Tryd.underlying24 HII.out hI0 hI1 hI2 rfl (by decide) rfl A1.out rfl A2.out A3.out A4.out A5.out ?_; intro v' w' hv hgr hown; obtain ⟨B', c', e'⟩ := hv.form; rw [List.length_append, HOL.out, show [t.id].length = 1 from rfl] at e'; subst e'; have HV := Lib.hid hv; have HGR := Lib.hid hgr; clear hv hgr hown)
        go_roundg (needs.length - (i + 1))
        case measure => omega
        case rel =>
          refine ⟨i + 1, m.set a (cutS t x), out ++ [t.id], B', c', by go_num, rfl, by omega, Nat.le_refl _, by rw [List.length_set]; exact HML.out, by rw [List.length_append, HOL.out]; rfl, HST.out, ?_, HV.out, HB3.out.grown HGR.out (HB3.out.size) fun j hj => (A1.out.lt j hj).1⟩
          exact HO3.out.same fun k hk => HGR.out.block k (HO3.out.lt k hk).2 fun e => own_apart A1.out HO3.out (by decide) k e.symm hk
    · obtain rfl : i = needs.length := by omega
      have he : (out, (-1 : Int)) = allS L needs [] 0 := by have := HAS.out; rw [List.drop_eq_nil_of_le (Nat.le_refl _)] at this; exact this
      have HE := Lib.hid he
      have hz1 : ¬ (needs.length : Int) < (needs.length : Int) := by omega
      clear he
      go_wp2_with fail
      exact bodyPost_ret (v := .tuple #[.slice Bo needs.length co, .int .i64 (-1)]) (by simp [results, Tryd.results11, go_sem]) rfl ⟨HB.out, _, by rw [← HE.out], by rw [← HE.out]; exact HU.out⟩
end Go.Proofs.YtejaljcgcmdlgaaDoor
