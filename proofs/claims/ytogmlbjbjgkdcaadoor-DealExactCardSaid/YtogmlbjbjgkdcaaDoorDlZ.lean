/- Deal's law: the document's example. Condition: the sentinels lie where the program's text lays them. -/
import Derived.Test.YtogmlbjbjgkdcaaDoorDlW
import Derived.Test.YtogmlbjbjgkdcaaDoorKd
namespace Go.Proofs.YtogmlbjbjgkdcaaDoor
open Go Go.RowKit

def D1 : Od := ⟨1, 7, true, 5, 2, 0⟩
def D2 : Od := ⟨2, 8, true, 4, 3, 0⟩
def D3 : Od := ⟨3, 9, false, 5, 4, 0⟩
def E1 : RB := ⟨[⟨1, 7, true, 5, 2, 1⟩], 1⟩
def E2 : RB := ⟨[⟨1, 7, true, 5, 2, 1⟩, ⟨2, 8, true, 4, 3, 2⟩], 2⟩
def E3 : RB := ⟨[⟨1, 7, true, 5, 1, 1⟩], 2⟩
def FL : List Fl := [⟨2, 3, 8, 9, 4, 3⟩, ⟨1, 3, 7, 9, 5, 1⟩]
theorem e1_ok : addR13 ⟨[], 0⟩ D1 = (E1, 0) := rfl
theorem e2_ok : addR13 E1 D2 = (E2, 0) := rfl
theorem e3_ok : matchO E2 D3 = (E3, FL, 0, 0) := rfl
theorem ge1 : GB E1 := by have := (GB.empty.add D1).1; rwa [e1_ok] at this
theorem ge2 : GB E2 := by have := (ge1.add D2).1; rwa [e2_ok] at this

set_option maxHeartbeats 3200000 in
set_option maxRecDepth 100000 in
/-- What the law asks of the document's example. -/
theorem awake_c (s : Nat → Addr) (w : World) (hs : Sent s w) : Calls Tryd.prog 6 #[] w fun e w' => e = .returned (.bool true) ∧ Below w.heap.size w w' := by
  have HS := Lib.hid hs; clear hs
  obtain ⟨q, hq⟩ : ∃ q, w.heap.size = q := ⟨_, rfl⟩
  have HQ := Lib.hid hq
  have HN := Lib.hid (new_c w)
  rw [hq] at HN
  clear hq
  go_enter Tryd.func6, Tryd.ntmps6
  go_wp2_with fail
  refine HN.out.mono ?_
  rintro e w1 ⟨rfl, t1, b1⟩
  have K1 : Hid (BkAt w w1 q q ⟨[], 0⟩) := Lib.hid ⟨t1, by rw [HQ.out]; exact b1, Nat.le_of_eq HQ.out⟩
  clear t1 b1
  go_wp2_with fail
  refine (K1.out.add HS.out GB.empty (by decide) D1).mono ?_
  rw [e1_ok]
  rintro e w2 ⟨rfl, R2, t2, g2⟩
  have K2 := Lib.hid t2
  clear K1 t2 g2
  rw [show errV s (E1, 0).2 = .nilIface from rfl]
  go_wp2_with fail
  refine (K2.out.add HS.out ge1 (by decide) D2).mono ?_
  rw [e2_ok]
  rintro e w3 ⟨rfl, R3, t3, g3⟩
  have K3 := Lib.hid t3
  clear K2 t3 g3
  rw [show errV s (E2, 0).2 = .nilIface from rfl]
  go_wp2_with fail
  refine (match_c s w w3 q R3 E2 D3 HS.out K3.out ge2 (by decide)).mono ?_
  rw [e3_ok]
  rintro e w4 ⟨v, rfl, hO, ⟨R4, t4, _⟩, g4⟩
  have K4 := Lib.hid t4
  rw [show errV s ((E3, FL, 0, 0) : RB × List Fl × Nat × Nat).2.2.2 = .nilIface from rfl]
  dsimp only at hO ⊢
  have HWC := Lib.hid (fun W (hW : LiesE encFl W v FL) => worth_c v FL W hW (by decide))
  rw [show wrap64 (worthF FL) = 17 by unfold wrap64 worthF FL; decide] at HWC
  have HLI := Lib.hid hO.lies
  obtain ⟨A, c, rfl⟩ := hO.form
  obtain ⟨ad, g, rfl, a0, hg, gl, gf, c0⟩ := hO.at (i := 0) (x := ⟨2, 3, 8, 9, 4, 3⟩) rfl
  obtain ⟨ad', g', e', a1, _, _, _, c1⟩ := hO.at (i := 1) (x := ⟨1, 3, 7, 9, 5, 1⟩) rfl
  simp only [Option.some.injEq] at e'
  subst e'
  have hgg : g' = g := by
    have h0 := congrArg Addr.block a0
    have h1 := congrArg Addr.block a1
    have k : ∀ j, (ad.add j).block = ad.block := fun j => by unfold Addr.add; split <;> rfl
    rw [k] at h0 h1
    exact h1.symm.trans h0
  subst hgg
  rw [Nat.zero_mul, add_zeroE] at a0
  subst a0
  have x0 := c0 0 _ rfl
  have x1 := c0 1 _ rfl
  have x2 := c0 2 _ rfl
  have x3 := c0 3 _ rfl
  have x4 := c0 4 _ rfl
  have x5 := c0 5 _ rfl
  have y4 := c1 4 _ rfl
  have y5 := c1 5 _ rfl
  clear c0 c1 hO g4 t4
  rw [show FL.length = 2 from rfl]
  go_wp2_with fail
  refine (HWC.out _ HLI.out).mono ?_
  rintro e w5 ⟨rfl, b5⟩
  have K5 := Lib.hid (K4.out.on b5)
  clear b5 K4 HWC
  go_wp2_with fail
  refine K5.out.size.mono ?_
  rintro e w6 ⟨he, rfl⟩
  replace he := he.trans (show _ = Ending.returned (.int .i64 1) from rfl)
  subst he
  go_wp2_with fail
  go_ret
  exact ⟨rfl, K5.out.below⟩
end Go.Proofs.YtogmlbjbjgkdcaaDoor
