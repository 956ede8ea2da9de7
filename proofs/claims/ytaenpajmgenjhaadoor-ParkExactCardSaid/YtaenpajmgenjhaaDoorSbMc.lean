/- slices.BinarySearchFunc at rows of a struct, by contract. Conditions: the row is one that calls have made; what precedes the target stands ahead of what does not. -/
import Derived.Test.YtaenpajmgenjhaaDoorSlMc
namespace Go.Proofs.YtaenpajmgenjhaaDoor
open Go Go.RowKit Go.Shelf Go.Sort

/-- Where the search ends, and whether it has found. -/
def bsI {α : Type} (cf : α → Int) (L : List α) : Nat := L.countP fun x => decide (cf x < 0)
def bsF {α : Type} (cf : α → Int) (L : List α) : Bool := match L[bsI cf L]? with | some x => cf x == 0 | none => false
theorem bsI_eq {α : Type} {cf : α → Int} : ∀ {L : List α} {i : Nat}, i ≤ L.length → (∀ t x, t < i → L[t]? = some x → cf x < 0) → (∀ t x, i ≤ t → L[t]? = some x → ¬ cf x < 0) → bsI cf L = i
  | [], i, hi, _, _ => by simp at hi; subst hi; rfl
  | y :: L, 0, _, _, h2 => by
    unfold bsI
    rw [List.countP_eq_zero]
    intro x hx
    obtain ⟨t, ht, rfl⟩ := List.getElem_of_mem hx
    have := h2 t _ (Nat.zero_le _) (List.getElem?_eq_getElem ht)
    simpa using this
  | y :: L, i + 1, hi, h1, h2 => by
    have h0 := h1 0 y (Nat.succ_pos _) rfl
    have ih := bsI_eq (cf := cf) (L := L) (i := i) (by simpa using hi) (fun t x ht hx => h1 (t + 1) x (by omega) (by simpa using hx)) (fun t x ht hx => h2 (t + 1) x (by omega) (by simpa using hx))
    unfold bsI at ih ⊢
    rw [List.countP_cons_of_pos (by simpa using h0), ih]

set_option maxRecDepth 100000 in
set_option maxHeartbeats 4000000 in
theorem bsearch_Mc (base : Nat) (v : Value) (L : List Mc) (w : World) (tn : Int) (cf : Mc → Int) (g0 : Nat) (lb : Array Value) (eg : ∀ args w, (callFunc g0 args).run Tryd.prog w = .ok (.enter g0 args) w)
    (hp : ∀ (W : World) (x : Mc), Below w.heap.size w W → Calls Tryd.prog g0 (#[.agg (encMc.enc x).toArray, .int .i64 tn] ++ lb) W fun e w' => e = .returned (.int .i64 (cf x)) ∧ Below W.heap.size W w')
    (hm : ∀ (a b : Nat) (x y : Mc), a ≤ b → L[a]? = some x → L[b]? = some y → cf y < 0 → cf x < 0)
    (h : OwnE encMc 45 w base v L) (hn : L.length ≤ 1000000) :
    Calls Tryd.prog 37 #[v, .int .i64 tn, .func (.func g0) #[] lb] w fun e w' => e = .returned (.tuple #[.int .i64 (bsI cf L : Nat), .bool (bsF cf L)]) ∧ Below w.heap.size w w' := by
  obtain ⟨A, cap, rfl⟩ := h.form
  have OW := Lib.hid h
  have HP : Hid _ := hp
  have HM : Hid _ := hm
  clear hp hm h
  have RI : Hid (∀ i, bsI cf L = i → bsI cf L = i) := fun _ h => h
  obtain ⟨I, hI⟩ : ∃ I, I = bsI cf L := ⟨_, rfl⟩
  obtain ⟨F, hF⟩ : ∃ F, F = bsF cf L := ⟨_, rfl⟩
  rw [← hI, ← hF]
  have HI := Lib.hid hI
  have HF := Lib.hid hF
  clear hI hF RI
  go_enter Tryd.func37, Tryd.ntmps37
  go_wp2
  go_loopg [9, 10, 11] L.length (fun kx s9 s10 _ wr => ∃ lo hi : Nat, s9 = .int .i64 lo ∧ s10 = .int .i64 hi ∧ lo ≤ hi ∧ hi ≤ L.length ∧ hi - lo ≤ kx ∧ Aside (Below w.heap.size w wr ∧ (∀ t x, t < lo → L[t]? = some x → cf x < 0) ∧ (∀ t x, hi ≤ t → L[t]? = some x → ¬ cf x < 0)))
  case atStart => exact ⟨0, L.length, rfl, rfl, Nat.zero_le _, Nat.le_refl _, by omega, Below.refl _ _, fun t x ht => absurd ht (Nat.not_lt_zero _), fun t x ht hx => absurd (List.getElem?_eq_some_iff.1 hx).1 (by omega)⟩
  case round =>
    obtain ⟨lo, hi, rfl, rfl, hlh, hin, hg, IN⟩ := hrel
    by_cases hlt : lo < hi
    · obtain ⟨x, hx⟩ : ∃ x, L[(lo + hi) / 2]? = some x := ⟨_, List.getElem?_eq_getElem (by omega)⟩
      have O1 := Lib.hid (OW.out.on IN.out.1)
      obtain ⟨ad, g, rfl, hadd, _, hgw, hf, hc⟩ := O1.out.at hx
      have c0 := hc 0 _ rfl
      have c1 := hc 1 _ rfl
      have c2 := hc 2 _ rfl
      have c3 := hc 3 _ rfl
      have c4 := hc 4 _ rfl
      have c5 := hc 5 _ rfl
      have c6 := hc 6 _ rfl
      rw [Nat.add_zero] at c0
      have hcall : Calls Tryd.prog g0 (#[.agg #[.int .i64 x.id, .int .i64 x.cell, .int .i64 x.has.a, .int .i64 x.has.b, .int .i64 x.has.c, .int .i64 x.has.d, .int .i64 x.st], .int .i64 tn] ++ lb) wr fun e w' => e = .returned (.int .i64 (cf x)) ∧ Below wr.heap.size wr w' := HP.out wr x IN.out.1
      have HX := Lib.hid hx
      clear hc hx
      by_cases hyx : cf x < 0
      · go_wp2_with (go_at_fn g0; refine hcall.mono ?_; rintro e w' ⟨rfl, hb⟩)
        go_roundg (hi - ((lo + hi) / 2 + 1))
        case measure => omega
        case rel =>
          refine ⟨(lo + hi) / 2 + 1, hi, by rw [show ((lo : Int) + (hi : Int)) / 2 + 1 = (((lo + hi) / 2 + 1 : Nat) : Int) by omega], rfl, by omega, hin, Nat.le_refl _, IN.out.1.trans (hb.mono IN.out.1.size), fun t y ht hy => HM.out t ((lo + hi) / 2) y x (by omega) hy HX.out hyx, IN.out.2.2⟩
      · go_wp2_with (go_at_fn g0; refine hcall.mono ?_; rintro e w' ⟨rfl, hb⟩)
        go_roundg ((lo + hi) / 2 - lo)
        case measure => omega
        case rel =>
          refine ⟨lo, (lo + hi) / 2, rfl, by rw [show ((lo : Int) + (hi : Int)) / 2 = (((lo + hi) / 2 : Nat) : Int) by omega], by omega, by omega, Nat.le_refl _, IN.out.1.trans (hb.mono IN.out.1.size), IN.out.2.1, fun t y ht hy => Int.not_lt.1 fun hlt' => absurd (HM.out ((lo + hi) / 2) t x y ht HX.out hy hlt') (by omega)⟩
    · obtain rfl : hi = lo := by omega
      have ei : I = hi := by rw [HI.out]; exact bsI_eq hin IN.out.2.1 IN.out.2.2
      subst ei
      by_cases hn2 : I < L.length
      · obtain ⟨x, hx⟩ : ∃ x, L[I]? = some x := ⟨_, List.getElem?_eq_getElem (by omega)⟩
        have O1 := Lib.hid (OW.out.on IN.out.1)
        obtain ⟨ad, g, rfl, hadd, _, hgw, hf, hc⟩ := O1.out.at hx
        have c0 := hc 0 _ rfl
        have c1 := hc 1 _ rfl
        have c2 := hc 2 _ rfl
        have c3 := hc 3 _ rfl
        have c4 := hc 4 _ rfl
        have c5 := hc 5 _ rfl
        have c6 := hc 6 _ rfl
        rw [Nat.add_zero] at c0
        have hcall : Calls Tryd.prog g0 (#[.agg #[.int .i64 x.id, .int .i64 x.cell, .int .i64 x.has.a, .int .i64 x.has.b, .int .i64 x.has.c, .int .i64 x.has.d, .int .i64 x.st], .int .i64 tn] ++ lb) wr fun e w' => e = .returned (.int .i64 (cf x)) ∧ Below wr.heap.size wr w' := HP.out wr x IN.out.1
        have hFx : Hid (F = (cf x == 0)) := by rw [HF.out]; unfold bsF; rw [← HI.out, hx]; rfl
        clear hc hx
        by_cases hyx : cf x = 0
        · go_wp2_with (go_at_fn g0; refine hcall.mono ?_; rintro e w' ⟨rfl, hb⟩)
          go_ret2
          exact ⟨by rw [hFx.out]; simp [hyx], IN.out.1.trans (hb.mono IN.out.1.size)⟩
        · go_wp2_with (go_at_fn g0; refine hcall.mono ?_; rintro e w' ⟨rfl, hb⟩)
          go_ret2
          exact ⟨by rw [hFx.out]; simp, IN.out.1.trans (hb.mono IN.out.1.size)⟩
      · have hFx : F = false := by rw [HF.out]; unfold bsF; rw [← HI.out, List.getElem?_eq_none (by omega)]
        subst hFx
        go_wp2
        go_ret2
        exact ⟨by simp, IN.out.1⟩
end Go.Proofs.YtaenpajmgenjhaaDoor
