/- The contracts of grant's Unhold and Keys. -/
import Derived.Test.YtpgioihmaodlcaaDoorGrH
import Derived.Test.YtpgioihmaodlcaaDoorKyG
namespace Go.Proofs.YtpgioihmaodlcaaDoor
open Go Go.RowKit Go.Maps Go.Sort

set_option maxRecDepth 100000 in
/-- Book.Unhold. -/
theorem unhold_c (s : Nat → Addr) (q b : Nat) (T : Grs) (k : V4) (v : V4) (w : World) (hs : Sent s w) (hsb : NotSent s b) (h : BookAt w q b T) (hk : okV k) (hn : T.length + 1 < 1000000) :
    Calls Tryd.prog 22 #[.pointer (some ⟨q, 0, none⟩), .agg #[.int .i64 k.a, .int .i64 k.b, .int .i64 k.c, .int .i64 k.d], .agg #[.int .i64 v.a, .int .i64 v.b, .int .i64 v.c, .int .i64 v.d]] w fun e w' => e = .returned (errV s (backErr (acc T k).h v)) ∧ BookAt w' q b (passed T k k.a v) ∧ Chg b b w w' := by
  have HL := Lib.hid (LkS.made w k v h)
  have HP : Hid (∀ W, Below w.heap.size w W → Calls Tryd.prog 18 #[.pointer (some ⟨q, 0, none⟩), .agg #[.int .i64 k.a, .int .i64 k.b, .int .i64 k.c, .int .i64 k.d], .int .i64 k.a, .agg #[.int .i64 v.a, .int .i64 v.b, .int .i64 v.c, .int .i64 v.d]] W fun e w' => e = .returned (errV s (backErr (acc T k).h v)) ∧ BookAt w' q b (passed T k k.a v) ∧ Chg b b w w') :=
    Lib.hid fun W hW => (pass_c s q b T k k.a v W (hs.below hW (Nat.le_refl _)) hsb (h.grow hW) hk hk.1 hn).mono fun _ _ p => ⟨p.1, p.2.1, (Chg.of_below hW).trans p.2.2 (.inl rfl)⟩
  clear h hs hsb hk hn
  go_enter Tryd.func22, Tryd.ntmps22
  obtain ⟨c0, c1, c2, c3⟩ := HL.out.key.cells
  obtain ⟨v0, v1, v2, v3⟩ := vb_cells HL.out.vec
  have HB := Lib.hid HL.out.below
  go_wp2_with fail
  refine (HP.out _ HB.out).mono ?_
  rintro e w1 ⟨rfl, h1, h2⟩
  go_wp2_with fail
  go_ret
  exact ⟨rfl, h1, h2⟩

set_option maxRecDepth 100000 in
/-- Book.Keys. -/
theorem keys_c (q b : Nat) (T : Grs) (w : World) (h : BookAt w q b T) (hf : T.length ≤ 1000000) :
    Calls Tryd.prog 12 #[.pointer (some ⟨q, 0, none⟩)] w fun e w' =>
      ∃ (v : Value) (L : List V4), e = .returned v ∧ L.Perm (T.map (·.1)) ∧ Up4 L ∧ (∀ x ∈ L, okV x) ∧ VOwn 31 w' w.heap.size v L ∧ Below w.heap.size w w' := by
  have HK := Lib.hid (gknown_c q b w h.box)
  have HM := Lib.hid (mkeys_c (some b) w)
  have HS := Lib.hid (sortedKeys_c _ b T w h.map hf)
  clear h hf
  go_enter Tryd.func12, Tryd.ntmps12
  go_wp2_with fail
  refine HK.out.mono ?_
  rintro e w1 ⟨rfl, rfl⟩
  go_wp2_with fail
  refine HM.out.mono ?_
  rintro e w1 ⟨rfl, rfl⟩
  go_wp2_with fail
  refine HS.out.mono ?_
  rintro e w1 ⟨v, L, rfl, h1, h2, h3, h4, h5⟩
  go_wp2_with fail
  go_ret
  exact ⟨v, L, rfl, h1, h2, h3, h4, h5⟩
end Go.Proofs.YtpgioihmaodlcaaDoor
