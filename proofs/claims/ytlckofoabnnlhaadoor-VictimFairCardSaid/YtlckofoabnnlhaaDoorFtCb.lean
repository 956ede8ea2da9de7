/- The program's fit by contract: Best. Conditions: the spots lie in memory. -/
import Derived.Test.YtlckofoabnnlhaaDoorFtB
import Derived.Test.YtlckofoabnnlhaaDoorFtP
namespace Go.Proofs.YtlckofoabnnlhaaDoor
open Go Go.RowKit

set_option maxRecDepth 100000 in
set_option maxHeartbeats 1600000 in
theorem fbest_c (s : Nat → Addr) (A : Option Addr) (c : Nat) (L : List Spt) (x : V4) (w : World) (hs : Sent s w) (hL : LiesE encSpt w (.slice A L.length c) L) (hn : L.length ≤ 1000000) :
    Calls Tryd.prog 30 #[.slice A L.length c, .agg #[.int .i64 x.a, .int .i64 x.b, .int .i64 x.c, .int .i64 x.d]] w fun e w' => e = .returned (.tuple #[.int .i64 (idS (bestS x L)), .bool (bestS x L).isSome]) ∧ Below w.heap.size w w' := by
  have hr := lies_reads (by decide) hL
  have HL := Lib.hid hr
  have HC : Hid (∀ W, Below w.heap.size w W → Calls Tryd.prog 39 #[.slice A L.length c, .agg #[.int .i64 x.a, .int .i64 x.b, .int .i64 x.c, .int .i64 x.d]] W fun e w' => e = .returned (.tuple #[.int .i64 (placeS (bestS x L)), .agg #[.int .i64 (remB x (bestS x L)).a, .int .i64 (remB x (bestS x L)).b, .int .i64 (remB x (bestS x L)).c, .int .i64 (remB x (bestS x L)).d]]) ∧ Below W.heap.size W w') := Lib.hid fun W hb => best_c s A c L x W (hs.below hb (Nat.le_refl _)) (hr.on hb) hn
  have HG : Hid (∀ a t, bestS x L = some (a, t) → L[a]? = some t) := Lib.hid fun a t h => bestS_get h
  have HB1 : Hid (Below w.heap.size w (w.alloc (.cells #[.int .i64 x.a, .int .i64 x.b, .int .i64 x.c, .int .i64 x.d] 24))) := Lib.hid ((Below.refl _ _).alloc (Nat.le_refl _) _)
  clear hr hL hs
  generalize bestS x L = be at *
  go_enter Tryd.func30, Tryd.ntmps30
  go_wp2_with fail
  refine (HC.out _ HB1.out).mono ?_
  rintro e w1 ⟨rfl, b1⟩
  have HB2 : Hid (Below w.heap.size w w1) := Lib.hid (HB1.out.trans (b1.mono HB1.out.size))
  clear b1
  cases be with
  | none =>
    rw [show placeS none = -1 from rfl]
    go_wp2_with fail
    exact bodyPost_ret (v := .tuple #[.int .i64 0, .bool false]) (by simp [results, Tryd.results30, go_sem]) rfl ⟨rfl, HB2.out.alloc HB2.out.size _⟩
  | some q =>
    obtain ⟨a, t⟩ := q
    obtain ⟨ad, p, rfl, hadd, hp, hc⟩ := HL.out a t (HG.out a t rfl)
    have hal : (a : Int) < (L.length : Int) := by have := (List.getElem?_eq_some_iff.1 (HG.out a t rfl)).1; omega
    have han : ¬ ((a : Int) < 0) := by omega
    have v0 := (HB2.out.cell (p := p) hp).trans ((congrArg w.cell? (add_zeroE p).symm).trans (hc 0 _ rfl))
    have hpl : p.block < w1.heap.size := Nat.lt_of_lt_of_le hp HB2.out.size
    rw [show placeS (some (a, t)) = (a : Int) from rfl]
    clear hc hp
    go_wp2_with fail
    exact bodyPost_ret (v := .tuple #[.int .i64 t.id, .bool true]) (by simp [results, Tryd.results30, go_sem]) rfl ⟨rfl, HB2.out.alloc HB2.out.size _⟩
end Go.Proofs.YtlckofoabnnlhaaDoor
