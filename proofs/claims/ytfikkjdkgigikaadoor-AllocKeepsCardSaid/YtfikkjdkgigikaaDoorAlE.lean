/- The program's book of envelopes by contracts: Raise, Take. Conditions: the book lies in memory as its maps have it; the sentinels lie where the program's text lays them. -/
import Derived.Test.YtfikkjdkgigikaaDoorAlD
namespace Go.Proofs.YtfikkjdkgigikaaDoor
open Go Go.RowKit Go.Maps

theorem findE_some {G : AG} {id pos : Int} (h : findE G id pos = 0) : ∃ (s : SetA) (k : Nat), setA G id = some s ∧ pos = (k : Int) ∧ k < s.n := by
  unfold findE at h
  cases e : setA G id with
  | none => rw [e] at h; simp at h
  | some s =>
    rw [e] at h
    simp only at h
    split at h
    · cases h
    · exact ⟨s, pos.toNat, rfl, by omega, by omega⟩
theorem turnA_no {G : AG} {id pos : Int} {b : Bool} (h : 0 < findE G id pos) : turnA G id pos b = (G, findE G id pos) := by
  unfold turnA; unfold findE at h ⊢
  cases e : setA G id with
  | none => rfl
  | some s =>
    rw [e] at h
    simp only at h ⊢
    split at h
    · rename_i k; rw [if_pos k, if_pos k]
    · omega
theorem turnA_is {G : AG} {id : Int} {b : Bool} {s : SetA} {k : Nat} (e : setA G id = some s) (hk : k < s.n) : turnA G id (k : Int) b = if s.up (k : Int) = b then (G, 13) else (turnG G id k b, 0) := by
  unfold turnA; rw [e]; simp only
  rw [if_neg (by omega)]
section
variable {w : World} {P : Nat → Prop} {q b1 b2 : Nat} {T1 : List (Int × Option (Nat × Nat))} {T2 : List (Tk × SeatR)} {bl : Int → Nat} {G : AG}
theorem AlP.none_in (h : GA G) {id : Int} {s : SetA} {k : Int} (e : setA G id = some s) (hu : s.up k = false) : ∀ x ∈ G.tasks, inE id k x = false := fun x hx => by
  obtain ⟨_, z, hz, _, _, h4⟩ := h.task x hx
  cases hi : inE id k x with
  | false => rfl
  | true =>
    simp only [inE, Bool.and_eq_true, decide_eq_true_eq] at hi
    rw [hi.1, e] at hz
    obtain rfl := Option.some.inj hz
    rw [hi.2, hu] at h4; cases h4
set_option maxRecDepth 100000 in
set_option maxHeartbeats 1600000 in
/-- Book.Raise. -/
theorem araise_c (s : Nat → Addr) (h : AlP w P q b1 b2 T1 T2 bl G) (hs : SentP s P w) {id pos : Int} (hid : i64 id) :
    Calls Tryd.prog 13 #[.pointer (some ⟨q, 0, none⟩), .int .i64 id, .int .i64 pos] w fun e w' => e = .returned (errV s (turnA G id pos true).2) ∧ AlP w' P q b1 b2 T1 T2 bl (turnA G id pos true).1 ∧ ChP P w w' := by
  rcases Nat.eq_zero_or_pos (findE G id pos) with h0 | h0
  · obtain ⟨sA, k, e, rfl, hk⟩ := findE_some h0
    rw [turnA_is e hk]
    have HF := Lib.hid (afind_ok h e hk hid)
    obtain ⟨c0, _, _, _, _, cf⟩ := h.cells e hk
    have e12 := hs.here.cell 12 (by omega)
    simp only [gnum, List.getD_cons_zero, List.getD_cons_succ] at e12
    have H := Lib.hid h
    cases hu : sA.up (k : Int) with
    | true =>
      rw [if_pos rfl]
      rw [hu] at c0
      clear h hs e hk h0
      go_enter Tryd.func13, Tryd.ntmps13
      go_wp2_with fail
      refine HF.out.mono ?_
      rintro e w1 ⟨rfl, rfl⟩
      go_wp2_with fail
      go_ret
      exact ⟨rfl, H.out, ChP.refl _ _⟩
    | false =>
      rw [if_neg (by decide)]
      rw [hu] at c0
      have HT := Lib.hid (h.turned (b := true) e hk hu (AlP.none_in h.good e hu))
      have hpr := h.pr id sA e
      clear h hs e hk h0 e12
      go_enter Tryd.func13, Tryd.ntmps13
      go_wp2_with fail
      refine HF.out.mono ?_
      rintro e w1 ⟨rfl, rfl⟩
      go_wp2_with fail
      go_ret
      exact ⟨rfl, HT.out, (ChP.refl _ _).setCell (.inl hpr) _⟩
  · have HF := Lib.hid (afind_no s h hs.here h0 hid)
    rw [turnA_no h0]
    have H := Lib.hid h
    obtain ⟨E, hE⟩ : ∃ E, findE G id pos = E + 1 := ⟨findE G id pos - 1, by omega⟩
    rw [hE] at HF ⊢
    rw [errA s (E + 1) (by omega)] at HF ⊢
    clear h hs h0 hE
    go_enter Tryd.func13, Tryd.ntmps13
    go_wp2_with fail
    refine HF.out.mono ?_
    rintro e w1 ⟨rfl, hb⟩
    go_wp2_with fail
    go_ret
    exact ⟨rfl, H.out.on hb, ChP.of_below hb⟩
end
/-- .. of no book. -/
theorem araise_nil (s : Nat → Addr) (w : World) (hs : Sent s w) (id pos : Int) :
    Calls Tryd.prog 13 #[.pointer none, .int .i64 id, .int .i64 pos] w fun e w' => e = .returned (errV s 2) ∧ Below w.heap.size w w' := by
  have HF := Lib.hid (afind_nil s w hs id pos)
  rw [errA s 2 (by omega)] at HF ⊢
  clear hs
  go_enter Tryd.func13, Tryd.ntmps13
  go_wp2_with fail
  refine HF.out.mono ?_
  rintro e w1 ⟨rfl, hb⟩
  go_wp2_with fail
  go_ret
  exact ⟨rfl, hb⟩
end Go.Proofs.YtfikkjdkgigikaaDoor
