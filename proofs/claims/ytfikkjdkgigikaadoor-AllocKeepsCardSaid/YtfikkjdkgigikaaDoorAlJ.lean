/- The program's book of envelopes by contracts: Fall. Conditions: the book lies in memory as its maps have it; the sentinels lie where the program's text lays them. -/
import Derived.Test.YtfikkjdkgigikaaDoorAlF
import Derived.Test.YtfikkjdkgigikaaDoorAlI
import Derived.Test.YtfikkjdkgigikaaDoorAlR
namespace Go.Proofs.YtfikkjdkgigikaaDoor
open Go Go.RowKit Go.Maps Go.Sort

/-- What is left behind the first j tasks of a list. -/
def goneG (G : AG) (L : List Tk) (j : Nat) : AG := ⟨G.sets, G.tasks.filter fun x => !decide (x.tk ∈ L.take j)⟩
theorem gone_zero (G : AG) (L : List Tk) : goneG G L 0 = G := by
  unfold goneG
  have : (G.tasks.filter fun x => !decide (x.tk ∈ L.take 0)) = G.tasks := List.filter_eq_self.2 fun x _ => by simp
  rw [this]
theorem gone_succ {G : AG} {L : List Tk} {j : Nat} {t : Tk} (h : L[j]? = some t) : takeG (goneG G L j) t = goneG G L (j + 1) := by
  unfold goneG takeG
  congr 1
  simp only [List.filter_filter]
  refine List.filter_congr fun x _ => ?_
  rw [List.take_add_one, h, Option.toList_some]
  by_cases h1 : x.tk ∈ L.take j <;> by_cases h2 : x.tk = t <;> simp [h1, h2]
theorem gone_good {G : AG} (h : GA G) (L : List Tk) (j : Nat) : GA (goneG G L j) := h.less _
theorem gone_tk {G : AG} (h : GA G) {L : List Tk} (hn : L.Nodup) (hm : ∀ t ∈ L, ∃ x ∈ G.tasks, x.tk = t) {j : Nat} {t : Tk} (hj : L[j]? = some t) : ∃ x, tkA (goneG G L j) t = some x := by
  obtain ⟨x, hx, hxt⟩ := hm t (List.mem_of_getElem? hj)
  refine ⟨x, (tk_iff (gone_good h L j)).2 ⟨List.mem_filter.2 ⟨hx, ?_⟩, hxt⟩⟩
  rw [hxt]
  have hni : t ∉ L.take j := fun hm => by
    obtain ⟨i, hi, he⟩ := List.mem_take_iff_getElem.1 hm
    obtain ⟨hjl, hje⟩ := List.getElem?_eq_some_iff.1 hj
    exact List.pairwise_iff_getElem.1 hn i j (by omega) hjl (by omega) (he.trans hje.symm)
  simpa using hni
theorem inside_mem {G : AG} {id pos : Int} {t : Tk} : t ∈ insideA G id pos ↔ ∃ x ∈ G.tasks, inE id pos x = true ∧ x.tk = t := by
  unfold insideA
  rw [(sortT_spec _).1.mem_iff, List.mem_map]
  constructor
  · rintro ⟨x, hx, rfl⟩
    obtain ⟨h1, h2⟩ := List.mem_filter.1 hx
    exact ⟨x, h1, h2, rfl⟩
  · rintro ⟨x, h1, h2, rfl⟩
    exact ⟨x, List.mem_filter.2 ⟨h1, h2⟩, rfl⟩
theorem inside_nodup {G : AG} (h : GA G) (id pos : Int) : (insideA G id pos).Nodup := by
  unfold insideA
  rw [(sortT_spec _).1.nodup_iff]
  exact List.pairwise_map.2 (h.tks.filter _)
theorem gone_all {G : AG} (h : GA G) (id pos : Int) : goneG G (insideA G id pos) (insideA G id pos).length = ⟨G.sets, G.tasks.filter fun x => !inE id pos x⟩ := by
  unfold goneG
  congr 1
  refine List.filter_congr fun x hx => ?_
  rw [List.take_length]
  cases hi : inE id pos x with
  | true =>
    have : x.tk ∈ insideA G id pos := inside_mem.2 ⟨x, hx, hi, rfl⟩
    simp [this]
  | false =>
    have : x.tk ∉ insideA G id pos := fun hm => by
      obtain ⟨y, hy, hyi, hyt⟩ := inside_mem.1 hm
      have e1 : tkA G x.tk = some x := (tk_iff h).2 ⟨hx, rfl⟩
      have e2 : tkA G x.tk = some y := (tk_iff h).2 ⟨hy, hyt⟩
      rw [e1] at e2
      obtain rfl := Option.some.inj e2
      rw [hi] at hyi; cases hyi
    simp [this]
theorem turnG_gone (G : AG) (id pos : Int) (b : Bool) : turnG ⟨G.sets, G.tasks.filter fun x => !inE id pos x⟩ id pos b = turnG G id pos b := by
  unfold turnG
  congr 1
  simp only [List.filter_filter, Bool.and_self]
section
variable {w : World} {P : Nat → Prop} {q b1 b2 : Nat} {T1 : List (Int × Option (Nat × Nat))} {T2 : List (Tk × SeatR)} {bl : Int → Nat} {G : AG}
set_option maxRecDepth 100000 in
set_option maxHeartbeats 3200000 in
/-- Book.Fall: there is no such envelope that is up. -/
theorem afall_no (s : Nat → Addr) (h : AlP w P q b1 b2 T1 T2 bl G) (hs : SentP s P w) {id pos : Int} (hid : i64 id) (hn : 0 < (turnA G id pos false).2) :
    Calls Tryd.prog 16 #[.pointer (some ⟨q, 0, none⟩), .int .i64 id, .int .i64 pos] w fun e w' => e = .returned (.tuple #[.slice none 0 0, errV s (turnA G id pos false).2]) ∧ Below w.heap.size w w' := by
  rcases Nat.eq_zero_or_pos (findE G id pos) with h0 | h0
  · obtain ⟨sA, k, e, rfl, hk⟩ := findE_some h0
    rw [turnA_is e hk] at hn ⊢
    cases hu : sA.up (k : Int) with
    | true => rw [hu, if_neg (by decide)] at hn; simp at hn
    | false =>
      rw [if_pos rfl, errA s 13 (by omega)]
      have HF := Lib.hid (afind_ok h e hk hid)
      obtain ⟨c0, _, _, _, _, cf⟩ := h.cells e hk
      rw [hu] at c0
      have e12 := hs.here.cell 12 (by omega)
      simp only [gnum, List.getD_cons_zero, List.getD_cons_succ] at e12
      clear h hs e hk h0 hn
      go_enter Tryd.func16, Tryd.ntmps16
      go_wp2_with fail
      refine HF.out.mono ?_
      rintro e w1 ⟨rfl, rfl⟩
      go_wp2_with fail
      go_quiet (fail)
      go_wp2_with fail
      exact bodyPost_ret (v := .tuple #[.slice none 0 0, .iface 161 (.pointer (some (s 12)))]) (by simp [results, Tryd.results16, go_sem]) rfl ⟨rfl, by (repeat' (first | (with_reducible exact Below.refl _ _) | (with_reducible refine below_drewN ?_ _) | (with_reducible refine Below.drew ?_) | (with_reducible refine Below.alloc ?_ ?_ _) | (with_reducible refine Below.setCell ?_ ?_ _) | (with_reducible refine Below.trans ?_ (Below.mono (by with_reducible assumption) ?_)) | omega | (simp only [World.size_alloc, World.size_setCell, World.size_drew, Go.Proofs.YtfikkjdkgigikaaDoor.World.size_drewN] at *; omega) | (with_reducible refine Below.size (B := 0) ?_)))⟩
  · have HF := Lib.hid (afind_no s h hs.here h0 hid)
    rw [turnA_no h0]
    obtain ⟨E, hE⟩ : ∃ E, findE G id pos = E + 1 := ⟨findE G id pos - 1, by omega⟩
    rw [hE] at HF ⊢
    rw [errA s (E + 1) (by omega)] at HF ⊢
    obtain ⟨x, hx⟩ : ∃ x, x = s (E + 1 - 1) := ⟨_, rfl⟩
    rw [← hx] at HF ⊢
    clear h hs h0 hE hn hx
    go_enter Tryd.func16, Tryd.ntmps16
    go_wp2_with fail
    refine HF.out.mono ?_
    rintro e w1 ⟨rfl, hb⟩
    go_wp2_with fail
    exact bodyPost_ret (v := .tuple #[.slice none 0 0, .iface 161 (.pointer (some x))]) (by simp [results, Tryd.results16, go_sem]) rfl ⟨rfl, hb⟩
set_option maxRecDepth 100000 in
set_option maxHeartbeats 3200000 in
/-- Book.Fall: the envelope is emptied, and down. -/
theorem afall_ok (s : Nat → Addr) (h : AlP w P q b1 b2 T1 T2 bl G) (hs : SentP s P w) {id : Int} (hid : i64 id) {sA : SetA} {k : Nat} (e : setA G id = some sA) (hk : k < sA.n) (hu : sA.up (k : Int) = true) (hlen : G.tasks.length ≤ 100000) (hok : ∀ x ∈ G.tasks, okT x.tk) :
    Calls Tryd.prog 16 #[.pointer (some ⟨q, 0, none⟩), .int .i64 id, .int .i64 (k : Int)] w fun e w' => ∃ v, e = .returned (.tuple #[v, .nilIface]) ∧ AlW w' P q (turnG G id (k : Int) false) ∧ ChP P w w' ∧ OwnE encTk 32 w' w.heap.size v (insideA G id (k : Int)) := by
  have HF := Lib.hid (afind_ok h e hk hid)
  obtain ⟨c0, _, _, _, _, cf⟩ := h.cells e hk
  rw [hu] at c0
  have HI := Lib.hid (ainside_c h id (k : Int) hlen)
  obtain ⟨L, hL⟩ : ∃ L, insideA G id (k : Int) = L := ⟨_, rfl⟩
  have HG := Lib.hid h.good
  have HH := Lib.hid h
  have hnd : L.Nodup := by rw [← hL]; exact inside_nodup h.good _ _
  have hmm : ∀ t ∈ L, ∃ x ∈ G.tasks, x.tk = t := fun t ht => by
    rw [← hL] at ht
    obtain ⟨x, h1, _, h2⟩ := inside_mem.1 ht
    exact ⟨x, h1, h2⟩
  have HTK : Hid (∀ (j : Nat) (t : Tk), L[j]? = some t → ∃ x, tkA (goneG G L j) t = some x) := Lib.hid fun j t hj => gone_tk h.good hnd hmm hj
  have HOT : Hid (∀ t ∈ L, okT t) := Lib.hid fun t ht => by obtain ⟨x, hx, rfl⟩ := hmm t ht; exact hok x hx
  have HLL : Hid (L.length ≤ 100000) := Lib.hid (by
    rw [← hL]; unfold insideA
    rw [sortT_len, List.length_map]
    exact Nat.le_trans (List.length_filter_le _ _) hlen)
  have HEND : Hid (∀ W T2', AlP W P q b1 b2 T1 T2' bl (goneG G L L.length) → W.cell? ⟨bl id, k * 5, none⟩ = some (.bool true) ∧ (∀ j, W.frozen? ⟨bl id, j, none⟩ = false) ∧ AlP (W.setCell ⟨bl id, k * 5, none⟩ (.bool false)) P q b1 b2 T1 T2' bl (turnG G id k false)) := Lib.hid fun W T2' hW => by
    have e0 : goneG G L L.length = ⟨G.sets, G.tasks.filter fun x => !inE id (k : Int) x⟩ := by rw [← hL]; exact gone_all h.good id k
    rw [e0] at hW
    have e1 : setA ⟨G.sets, G.tasks.filter fun x => !inE id (k : Int) x⟩ id = some sA := e
    obtain ⟨d0, _, _, _, _, df⟩ := hW.cells e1 hk
    rw [hu] at d0
    refine ⟨d0, df, ?_⟩
    have := hW.turned (b := false) e1 hk (by rw [hu]; rfl) (fun x hx => by simpa using (List.mem_filter.1 hx).2)
    rwa [turnG_gone] at this
  have HS := Lib.hid hs
  have HPR := Lib.hid (h.pr _ _ e)
  have HOLD := Lib.hid h.old
  have HD := Lib.hid hid
  rw [hL] at HI ⊢
  obtain ⟨gE, hgE⟩ : ∃ gE, bl id = gE := ⟨_, rfl⟩
  rw [hgE] at HF c0 cf HEND HPR
  clear h hs e hk hlen hok hL hnd hmm hid hgE hu
  go_enter Tryd.func16, Tryd.ntmps16
  go_wp2_with fail
  refine HF.out.mono ?_
  rintro e w1 ⟨rfl, rfl⟩
  go_wp2_with fail
  refine HI.out.mono ?_
  rintro e w2 ⟨v, rfl, hv, b2'⟩
  obtain ⟨A, c, hvf⟩ := hv.form
  subst hvf
  have HV := Lib.hid hv
  have H2 := Lib.hid (HH.out.on b2')
  have HB2 := Lib.hid b2'
  obtain ⟨N, hN⟩ : ∃ N, L.length = N := ⟨_, rfl⟩
  have HN := Lib.hid hN
  have hN3 : N ≤ 100000 := by have := HLL.out; omega
  rw [hN]
  clear hv b2' hN HI HF
  go_wp2_with fail
  go_loopw [37] (fun I wr => ∃ j : Nat, j ≤ N ∧ I = .int .i64 (j : Int) ∧ (∃ T2', AlP wr P q b1 b2 T1 T2' bl (goneG G L j)) ∧ ChP P w1 wr ∧ OwnE encTk 32 wr w1.heap.size (.slice A N c) L) (fun I _ => N - natOf I)
  case atStart => exact ⟨0, Nat.zero_le _, rfl, ⟨T2, by rw [gone_zero]; exact H2.out⟩, ChP.of_below HB2.out, by have := HV.out; rwa [HN.out] at this⟩
  case round =>
    obtain ⟨j, hj, rfl, ⟨T2', ha⟩, hc, ho⟩ := hrel
    clear c0 cf HV H2 HB2
    by_cases hjn : j < N
    · obtain ⟨t, ht⟩ : ∃ t, L[j]? = some t := ⟨_, List.getElem?_eq_getElem (by rw [HN.out]; exact hjn)⟩
      obtain ⟨ad, g, hAd, hadd, hg1, hg2, hf, hcc⟩ := ho.at ht
      subst hAd
      have d0 := hcc 0 _ rfl
      have d1 := hcc 1 _ rfl
      rw [Nat.add_zero] at d0
      obtain ⟨x, hx⟩ := HTK.out j t ht
      have j0 : (0 : Int) ≤ (j : Int) := by omega
      have j1 : (j : Int) < (N : Int) := by omega
      have hw1 : wrap64 ((j : Int) + 1) = ((j + 1 : Nat) : Int) := by unfold wrap64; omega
      have HT := Lib.hid (fun (W : World) (hb : Below wr.heap.size wr W) => atake_ok s (ha.on hb) ((HS.out.chp hc fun _ h => .inl h).on hb) (HOT.out t (List.mem_of_getElem? ht)) hx)
      have HO := Lib.hid ho; have HC := Lib.hid hc
      have HGS := Lib.hid (gone_succ (G := G) ht)
      clear ho hc ha ht hx hcc hf hg1 hg2
      go_wp2_with fail
      refine (HT.out _ ((Below.refl _ _).alloc (Nat.le_refl _) _)).mono ?_
      rintro e w5 ⟨rfl, ha5, hc5⟩
      have HA5 := Lib.hid ha5; have HC5 := Lib.hid hc5
      rw [errA0]
      clear ha5 hc5 d0 d1
      go_wp2_with fail
      go_roundw
      case rel =>
        have hcw : ChP P wr w5 := ((ChP.refl P wr).alloc _).trans HC5.out fun i hi => .inl hi
        refine ⟨j + 1, hjn, by rw [← hw1]; first | rfl | (congr 1; omega), ⟨_, by rw [← HGS.out]; exact HA5.out⟩, HC.out.trans hcw fun _ h => .inl h, ?_⟩
        refine HO.out.same fun i hi => ?_
        obtain ⟨k1, k2⟩ := HO.out.lt i hi
        exact hcw.block i k2 fun hp => by have := HOLD.out i hp; omega
      case measure => simp [natOf]; omega
    · obtain rfl : j = N := by omega
      rw [← HN.out] at ha
      obtain ⟨d0, df, hfin⟩ := HEND.out _ _ ha
      have HO := Lib.hid ho; have HC := Lib.hid hc; have HFI := Lib.hid hfin
      clear ho hc ha hfin
      go_wp2_with fail
      refine bodyPost_ret (v := .tuple #[.slice A j c, .nilIface]) (by simp [results, Tryd.results16, go_sem]) rfl ?_
      refine ⟨_, rfl, HFI.out.any, HC.out.setCell (.inl HPR.out) _, HO.out.same fun i hi => ?_⟩
      obtain ⟨k1, _⟩ := HO.out.lt i hi
      exact heap_setCell_other _ _ _ _ fun e => by have := HOLD.out gE HPR.out; have e' : i = gE := e; omega
end
/-- .. of no book. -/
theorem afall_nil (s : Nat → Addr) (w : World) (hs : Sent s w) (id pos : Int) :
    Calls Tryd.prog 16 #[.pointer none, .int .i64 id, .int .i64 pos] w fun e w' => e = .returned (.tuple #[.slice none 0 0, errV s 2]) ∧ Below w.heap.size w w' := by
  have HF := Lib.hid (afind_nil s w hs id pos)
  rw [errA s 2 (by omega)] at HF ⊢
  obtain ⟨x, hx⟩ : ∃ x, x = s (2 - 1) := ⟨_, rfl⟩
  rw [← hx] at HF ⊢
  clear hs hx
  go_enter Tryd.func16, Tryd.ntmps16
  go_wp2_with fail
  refine HF.out.mono ?_
  rintro e w1 ⟨rfl, hb⟩
  go_wp2_with fail
  exact bodyPost_ret (v := .tuple #[.slice none 0 0, .iface 161 (.pointer (some x))]) (by simp [results, Tryd.results16, go_sem]) rfl ⟨rfl, hb⟩
end Go.Proofs.YtfikkjdkgigikaaDoor
