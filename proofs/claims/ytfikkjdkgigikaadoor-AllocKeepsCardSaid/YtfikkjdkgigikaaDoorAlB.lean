/- The program's book of envelopes by contracts: find, and the small methods by it. Conditions: the book lies in memory as its maps have it; the sentinels lie where the program's text lays them. -/
import Derived.Test.YtfikkjdkgigikaaDoorAlA
import Derived.Laws.Cover3
namespace Go.Proofs.YtfikkjdkgigikaaDoor
open Go Go.RowKit Go.Maps

/-- The sentinels lie where they lie as long as only blocks of P turn. -/
def SentP (s : Nat → Addr) (P : Nat → Prop) (w : World) : Prop := ∀ W, ChP P w W → Sent s W
theorem SentP.here {s : Nat → Addr} {P : Nat → Prop} {w : World} (h : SentP s P w) : Sent s w := h w (ChP.refl _ _)
theorem SentP.chp {s : Nat → Addr} {P Q : Nat → Prop} {w w' : World} (h : SentP s P w) (hc : ChP P w w') (hQ : ∀ i, Q i → P i ∨ w.heap.size ≤ i) : SentP s Q w' := fun W hW => h W (hc.trans hW hQ)
theorem SentP.on {s : Nat → Addr} {P : Nat → Prop} {w w' : World} (h : SentP s P w) (hb : Below w.heap.size w w') : SentP s P w' := h.chp (ChP.of_below hb) fun _ h => .inl h
theorem SentP.of {s : Nat → Addr} {P : Nat → Prop} {w0 w : World} (h : Sent s w0) (hb : Below w0.heap.size w0 w) (hP : ∀ k, P k → w0.heap.size ≤ k) : SentP s P w := fun _ hW => h.below (hb.trans (hW.below hP hb.size)) (Nat.le_refl _)
theorem errA (s : Nat → Addr) (k : Nat) (h : 0 < k) : errV s k = .iface 161 (.pointer (some (s (k - 1)))) := by unfold errV; rw [if_neg (by omega)]
theorem errA0 (s : Nat → Addr) : errV s 0 = .nilIface := rfl
theorem eqlS (W : World) (A : Option Addr) (l c : Nat) : (binOp .eql 81 (.slice A l c) (.slice none 0 0)).run Tryd.prog W = .ok (.bool A.isNone) W := by
  simp [binOp, run_equal_slice_nil W 81 _ A l c Tryd.underlying81]
theorem neqS (W : World) (A : Option Addr) (l c : Nat) : (binOp .neq 81 (.slice A l c) (.slice none 0 0)).run Tryd.prog W = .ok (.bool (!A.isNone)) W := by
  simp only [binOp]
  simp [run_equal_slice_nil W 81 _ A l c Tryd.underlying81]
theorem fieldB0 (a0 a1 : Value) (W : World) : (Instr.field 77 (.agg #[a0, a1]) 0).run Tryd.prog W = .ok a0 W := by kernel_rfl
theorem fieldB1 (a0 a1 : Value) (W : World) : (Instr.field 77 (.agg #[a0, a1]) 1).run Tryd.prog W = .ok a1 W := by kernel_rfl
section
variable {w : World} {P : Nat → Prop} {q b1 b2 : Nat} {T1 : List (Int × Option (Nat × Nat))} {T2 : List (Tk × SeatR)} {bl : Int → Nat} {G : AG}

set_option maxRecDepth 100000 in
/-- An envelope is found. -/
theorem afind_ok (h : AlP w P q b1 b2 T1 T2 bl G) {id : Int} {sA : SetA} (e : setA G id = some sA) {k : Nat} (hk : k < sA.n) (hid : i64 id) :
    Calls Tryd.prog 33 #[.pointer (some ⟨q, 0, none⟩), .int .i64 id, .int .i64 (k : Int)] w fun e w' => e = .returned (.tuple #[.pointer (some ⟨bl id, k * 5, none⟩), .nilIface]) ∧ w' = w := by
  have c0 := cell_of_heap h.box 0
  have hE0 := eqlS
  obtain ⟨ad, had⟩ : ∃ ad : Addr, (⟨bl id, 0, none⟩ : Addr) = ad := ⟨_, rfl⟩
  have hadd : ad.add (k * 5) = ⟨bl id, k * 5, none⟩ := by rw [← had, Addr.add_lit, Nat.zero_add]
  have hv : slV ((look T1 id).getD none) = .slice (some ad) sA.n sA.n := by rw [h.hit e]; simp [slV, had]
  have HM := Lib.hid h.m1
  have k0 : (0 : Int) ≤ (k : Int) := by omega
  have k1 : (k : Int) < (sA.n : Int) := by omega
  clear h e had
  go_enter Tryd.func33, Tryd.ntmps33
  go_wp2_with (at_lookup; refine wpList_lookG _ kitI rfl _ _ 74 rfl 81 Tryd.underlying74 slV none (Tryd.zeroSl _) b1 T1 rfl HM.out id rfl hid _ hv ?_)
  refine bodyPost_ret (v := .tuple #[.pointer (some ⟨bl id, k * 5, none⟩), .nilIface]) (by simp [results, Tryd.results33, go_sem]) rfl ?_
  exact ⟨rfl, rfl⟩
/-- What find answers where there is none: its error. -/
def findE (G : AG) (id pos : Int) : Nat := match setA G id with
  | none => 5
  | some s => if pos < 0 ∨ (s.n : Int) ≤ pos then 1 else 0
set_option maxRecDepth 100000 in
/-- None is found. -/
theorem afind_no (s : Nat → Addr) (h : AlP w P q b1 b2 T1 T2 bl G) (hs : Sent s w) {id pos : Int} (he : 0 < findE G id pos) (hid : i64 id) :
    Calls Tryd.prog 33 #[.pointer (some ⟨q, 0, none⟩), .int .i64 id, .int .i64 pos] w fun e w' => e = .returned (.tuple #[.pointer none, errV s (findE G id pos)]) ∧ Below w.heap.size w w' := by
  have c0 := cell_of_heap h.box 0
  have hE0 := eqlS
  have e0 := hs.cell 0 (by omega)
  have e4 := hs.cell 4 (by omega)
  simp only [gnum, List.getD_cons_zero, List.getD_cons_succ] at e0 e4
  have HM := Lib.hid h.m1
  cases e : setA G id with
  | none =>
    have hE : findE G id pos = 5 := by unfold findE; rw [e]
    rw [hE]
    have hv : slV ((look T1 id).getD none) = .slice none 0 0 := by rw [h.miss e]; rfl
    clear h hs e hE he
    go_enter Tryd.func33, Tryd.ntmps33
    go_wp2_with (at_lookup; refine wpList_lookG _ kitI rfl _ _ 74 rfl 81 Tryd.underlying74 slV none (Tryd.zeroSl _) b1 T1 rfl HM.out id rfl hid _ hv ?_)
    go_quiet (fail)
    go_wp2_with fail
    refine bodyPost_ret (v := .tuple #[.pointer none, .iface 161 (.pointer (some (s 4)))]) (by simp [results, Tryd.results33, go_sem]) rfl ?_
    exact ⟨rfl, by (repeat' (first | (with_reducible exact Below.refl _ _) | (with_reducible refine below_drewN ?_ _) | (with_reducible refine Below.drew ?_) | (with_reducible refine Below.alloc ?_ ?_ _) | (with_reducible refine Below.setCell ?_ ?_ _) | (with_reducible refine Below.trans ?_ (Below.mono (by with_reducible assumption) ?_)) | omega | (simp only [World.size_alloc, World.size_setCell, World.size_drew, Go.Proofs.YtfikkjdkgigikaaDoor.World.size_drewN] at *; omega) | (with_reducible refine Below.size (B := 0) ?_)))⟩
  | some sA =>
    have hE : findE G id pos = 1 := by unfold findE at he ⊢; rw [e] at he ⊢; simp only at he ⊢; split <;> simp_all
    have hb : pos < 0 ∨ (sA.n : Int) ≤ pos := by unfold findE at he; rw [e] at he; simp only at he; split at he <;> simp_all
    rw [hE]
    have hv : slV ((look T1 id).getD none) = .slice (some ⟨bl id, 0, none⟩) sA.n sA.n := by rw [h.hit e]; simp [slV]
    clear h hs e hE he
    by_cases hp : pos < 0
    · clear hb
      go_enter Tryd.func33, Tryd.ntmps33
      go_wp2_with (at_lookup; refine wpList_lookG _ kitI rfl _ _ 74 rfl 81 Tryd.underlying74 slV none (Tryd.zeroSl _) b1 T1 rfl HM.out id rfl hid _ hv ?_)
      go_quiet (fail)
      go_wp2_with fail
      refine bodyPost_ret (v := .tuple #[.pointer none, .iface 161 (.pointer (some (s 0)))]) (by simp [results, Tryd.results33, go_sem]) rfl ?_
      exact ⟨rfl, by (repeat' (first | (with_reducible exact Below.refl _ _) | (with_reducible refine below_drewN ?_ _) | (with_reducible refine Below.drew ?_) | (with_reducible refine Below.alloc ?_ ?_ _) | (with_reducible refine Below.setCell ?_ ?_ _) | (with_reducible refine Below.trans ?_ (Below.mono (by with_reducible assumption) ?_)) | omega | (simp only [World.size_alloc, World.size_setCell, World.size_drew, Go.Proofs.YtfikkjdkgigikaaDoor.World.size_drewN] at *; omega) | (with_reducible refine Below.size (B := 0) ?_)))⟩
    · have hq : (sA.n : Int) ≤ pos := by omega
      clear hb
      go_enter Tryd.func33, Tryd.ntmps33
      go_wp2_with (at_lookup; refine wpList_lookG _ kitI rfl _ _ 74 rfl 81 Tryd.underlying74 slV none (Tryd.zeroSl _) b1 T1 rfl HM.out id rfl hid _ hv ?_)
      go_quiet (fail)
      go_wp2_with fail
      refine bodyPost_ret (v := .tuple #[.pointer none, .iface 161 (.pointer (some (s 0)))]) (by simp [results, Tryd.results33, go_sem]) rfl ?_
      exact ⟨rfl, by (repeat' (first | (with_reducible exact Below.refl _ _) | (with_reducible refine below_drewN ?_ _) | (with_reducible refine Below.drew ?_) | (with_reducible refine Below.alloc ?_ ?_ _) | (with_reducible refine Below.setCell ?_ ?_ _) | (with_reducible refine Below.trans ?_ (Below.mono (by with_reducible assumption) ?_)) | omega | (simp only [World.size_alloc, World.size_setCell, World.size_drew, Go.Proofs.YtfikkjdkgigikaaDoor.World.size_drewN] at *; omega) | (with_reducible refine Below.size (B := 0) ?_)))⟩
end
/-- .. of no book. -/
theorem afind_nil (s : Nat → Addr) (w : World) (hs : Sent s w) (id pos : Int) :
    Calls Tryd.prog 33 #[.pointer none, .int .i64 id, .int .i64 pos] w fun e w' => e = .returned (.tuple #[.pointer none, errV s 2]) ∧ Below w.heap.size w w' := by
  have e1 := hs.cell 1 (by omega)
  simp only [gnum, List.getD_cons_zero, List.getD_cons_succ] at e1
  clear hs
  go_enter Tryd.func33, Tryd.ntmps33
  go_wp2
  go_quiet (fail)
  go_wp2_with fail
  refine bodyPost_ret (v := .tuple #[.pointer none, .iface 161 (.pointer (some (s 1)))]) (by simp [results, Tryd.results33, go_sem]) rfl ?_
  exact ⟨rfl, by (repeat' (first | (with_reducible exact Below.refl _ _) | (with_reducible refine below_drewN ?_ _) | (with_reducible refine Below.drew ?_) | (with_reducible refine Below.alloc ?_ ?_ _) | (with_reducible refine Below.setCell ?_ ?_ _) | (with_reducible refine Below.trans ?_ (Below.mono (by with_reducible assumption) ?_)) | omega | (simp only [World.size_alloc, World.size_setCell, World.size_drew, Go.Proofs.YtfikkjdkgigikaaDoor.World.size_drewN] at *; omega) | (with_reducible refine Below.size (B := 0) ?_)))⟩
end Go.Proofs.YtfikkjdkgigikaaDoor
