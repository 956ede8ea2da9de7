/- The program's park by contracts: what is live, Of, Drop, Set. Conditions: the park is one that the calls have made; the sentinels lie where the program's text lays them. -/
import Derived.Test.YtaenpajmgenjhaaDoorPpB
namespace Go.Proofs.YtaenpajmgenjhaaDoor
open Go Go.RowKit Go.Shelf

/-- The predicate of Live: is it not up? -/
theorem upred_c (x : Mc) (W : World) :
    Calls Tryd.prog 31 #[.agg (encMc.enc x).toArray] W fun e w' => e = .returned (.bool (x.st != 0)) ∧ Below W.heap.size W w' := by
  show Calls Tryd.prog 31 #[.agg #[.int .i64 x.id, .int .i64 x.cell, .int .i64 x.has.a, .int .i64 x.has.b, .int .i64 x.has.c, .int .i64 x.has.d, .int .i64 x.st]] W _
  go_enter Tryd.func31, Tryd.ntmps31
  go_wp2_with fail
  go_ret
  exact ⟨rfl, by (repeat' (first | (with_reducible exact Below.refl _ _) | (with_reducible refine below_drewN ?_ _) | (with_reducible refine Below.drew ?_) | (with_reducible refine Below.alloc ?_ ?_ _) | (with_reducible refine Below.setCell ?_ ?_ _) | (with_reducible refine Below.trans ?_ (Below.mono (by with_reducible assumption) ?_)) | omega | (simp only [World.size_alloc] at *; omega) | (with_reducible refine Below.size (B := 0) ?_)))⟩
theorem egU : ∀ args w, (callFunc 31 args).run Tryd.prog w = .ok (.enter 31 args) w := enters_of Tryd.func31 (by kernel_rfl) rfl
theorem inP_up (P : List Mc) (c : Int) : sumV ((inP P c).filter fun x => !(x.st != 0)) = liveP P c false := by
  unfold liveP inP
  rw [List.filter_filter]
  congr 2
  funext x
  unfold selM
  cases h1 : (x.cell == c) <;> simp [bne]
theorem live_good {P : List Mc} (hS : GS P) (hG : GP P) (c : Int) : goodV (liveP P c false) = true := by
  have h := hS.part hG.good (fun m => m.st == 0) c
  have e : liveP (P.filter fun m => m.st == 0) c true = liveP P c false := by
    unfold liveP
    rw [List.filter_filter]
    congr 2
    funext x
    unfold selM
    cases h1 : (x.cell == c) <;> simp
  rwa [e] at h

set_option maxRecDepth 100000 in
set_option maxHeartbeats 1600000 in
theorem live_any (s : Nat → Addr) (p : Value) (P : List Mc) (c : Int) (w : World) (hs : Sent s w) (hG : ∀ m ∈ P, goodV m.has = true) (hg : goodV (liveP P c false) = true) (hn : P.length ≤ 1000000)
    (hL : ∀ W, Below w.heap.size w W → Calls Tryd.prog 19 #[p, .int .i64 c] W fun e w' => ∃ v', e = .returned v' ∧ OwnE encMc 45 w' W.heap.size v' (inP P c) ∧ Below W.heap.size W w') :
    Calls Tryd.prog 17 #[p, .int .i64 c] w fun e w' => e = .returned (.agg #[.int .i64 (liveP P c false).a, .int .i64 (liveP P c false).b, .int .i64 (liveP P c false).c, .int .i64 (liveP P c false).d]) ∧ Below w.heap.size w w' := by
  obtain ⟨W1, hW1⟩ : ∃ W1, W1 = w.alloc (.cells #[.int .i64 0, .int .i64 0, .int .i64 0, .int .i64 0] 28) := ⟨_, rfl⟩
  have hb1 : Below w.heap.size w W1 := by rw [hW1]; exact (Below.refl _ _).alloc (Nat.le_refl _) _
  have hz1 : W1.heap.size = w.heap.size + 1 := by rw [hW1]; simp
  have Z1 : Vb W1 w.heap.size ⟨0, 0, 0, 0⟩ := by rw [hW1]; exact Vb.new w ⟨0, 0, 0, 0⟩
  have HL := Lib.hid (hL W1 hb1)
  have HW1 := Lib.hid hW1
  have HB1 := Lib.hid hb1
  have HZ1 := Lib.hid Z1
  have HS := Lib.hid hs
  have HG := Lib.hid hG
  have HGD := Lib.hid hg
  clear hL hW1 hb1 Z1 hs hG hg
  go_enter Tryd.func17, Tryd.ntmps17
  go_wp2_with fail
  rw [← HW1.out]
  refine HL.out.mono ?_
  rintro e w2 ⟨v2, rfl, hv2, hb2⟩
  have hlen : (inP P c).length ≤ 1000000 := Nat.le_trans (List.length_filter_le _ _) hn
  have HD := Lib.hid (deleteFunc_Mc W1.heap.size v2 (inP P c) w2 (fun x => x.st != 0) 31 #[] egU (fun W x _ _ => upred_c x W) hv2 hlen)
  have HV2 := Lib.hid hv2
  have HB2 := Lib.hid hb2
  clear hv2 hb2 hlen
  go_wp2_with fail
  refine HD.out.mono ?_
  rintro e w3 ⟨v3, rfl, hv3, hg3, _⟩
  have hb3 : Below W1.heap.size W1 w3 := HB2.out.grown hg3 HB2.out.size (fun k hk => (HV2.out.lt k hk).1)
  have hb03 : Below w.heap.size w w3 := HB1.out.trans (hb3.mono (by omega))
  have HC := Lib.hid (capacity_c s W1.heap.size v3 _ w3 (HS.out.below hb03 (Nat.le_refl _)) hv3 (fun m hm => HG.out m (List.mem_filter.1 (List.mem_filter.1 hm).1).1) (Nat.le_trans (List.length_filter_le _ _) (Nat.le_trans (List.length_filter_le _ _) hn)))
  rw [inP_up] at HC
  have HB3 := Lib.hid hb3
  have HB03 := Lib.hid hb03
  clear hv3 hg3 hb3 hb03
  go_wp2_with fail
  refine HC.out.mono ?_
  rintro e w4 ⟨hb4, hend⟩
  rcases hend with ⟨_, rfl⟩ | ⟨hf, _⟩
  · have hb04 := HB03.out.trans (hb4.mono HB03.out.size)
    have Z4 : Vb w4 w.heap.size ⟨0, 0, 0, 0⟩ := HZ1.out.below (HB3.out.trans (hb4.mono HB3.out.size)) (by omega)
    obtain ⟨r0, r1, r2, r3, rf, rl⟩ := Z4.facts
    clear Z4 hb4
    go_wp2_with fail
    exact bodyPost_ret (v := .agg #[.int .i64 (liveP P c false).a, .int .i64 (liveP P c false).b, .int .i64 (liveP P c false).c, .int .i64 (liveP P c false).d]) (by simp [results, Tryd.results17, go_sem, r0, r1, r2, r3, rl]) rfl ⟨rfl, by (repeat' (first | (with_reducible exact Below.refl _ _) | (with_reducible refine below_drewN ?_ _) | (with_reducible refine Below.drew ?_) | (with_reducible refine Below.alloc ?_ ?_ _) | (with_reducible refine Below.setCell ?_ ?_ _) | (with_reducible refine Below.trans ?_ (Below.mono (by with_reducible assumption) ?_)) | omega | (simp only at *; omega) | (with_reducible refine Below.size (B := 0) ?_)))⟩
  · rw [HGD.out] at hf; cases hf
theorem live_c (s : Nat → Addr) (q R : Nat) (P : List Mc) (c : Int) (w : World) (hs : Sent s w) (h : PPk w q R P) (hG : GP P) (hS : GS P) :
    Calls Tryd.prog 17 #[.pointer (some ⟨q, 0, none⟩), .int .i64 c] w fun e w' => e = .returned (.agg #[.int .i64 (liveP P c false).a, .int .i64 (liveP P c false).b, .int .i64 (liveP P c false).c, .int .i64 (liveP P c false).d]) ∧ Below w.heap.size w w' :=
  live_any s _ P c w hs hG.good (live_good hS hG c) (by have := hG.len; omega) fun W hb => list_c q R P c W (h.on hb) (by have := hG.len; omega)
theorem live_nil (s : Nat → Addr) (c : Int) (w : World) (hs : Sent s w) :
    Calls Tryd.prog 17 #[.pointer none, .int .i64 c] w fun e w' => e = .returned (.agg #[.int .i64 0, .int .i64 0, .int .i64 0, .int .i64 0]) ∧ Below w.heap.size w w' :=
  live_any s _ [] c w hs (fun m hm => by cases hm) rfl (by simp) fun W _ => list_nil c W
end Go.Proofs.YtaenpajmgenjhaaDoor
