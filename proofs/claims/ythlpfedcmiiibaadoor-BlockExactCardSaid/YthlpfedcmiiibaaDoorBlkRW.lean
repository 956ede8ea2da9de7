/- The contract of the reference's Write. Conditions: a disk has at most 12 blocks; integers have 64 bits. -/
import Derived.Test.YthlpfedcmiiibaaDoorBlkR
import Derived.StillTailTactics
namespace Go.Proofs.YthlpfedcmiiibaaDoor
open Go Go.RowKit

/-- What the reference's write makes. -/
structure RS where
  ls : List (List UInt8)
  on : Bool
  fuse : Int
  torn : Nat
  wr : Nat
def RIs (w : World) (q o : Nat) (r : RS) : Prop := RAt w q o r.ls r.on r.fuse r.torn r.wr
def RS.has (r : RS) (i : Int) : Bool := decide (0 ≤ i) && decide (i < (r.ls.length : Int))

set_option maxHeartbeats 1600000 in
set_option maxRecDepth 100000 in
theorem rwrite_bad (q o : Nat) (r : RS) (i : Int) (t : ByteArray) (w : World) (h : RIs w q o r) (ht : t.size ≤ 9223372036854775807) (hl : r.ls.length ≤ 12) (hb : r.has i = false ∨ t.size ≠ 64) :
    Calls Tryd.prog 18 #[.pointer (some ⟨q, 0, none⟩), .int .i64 i, .string t] w fun e w' => e = .returned (.int .i64 1) ∧ w = w' := by
  obtain ⟨v, hp, hcs⟩ := h.cells
  have c0 : w.cell? ⟨q, 0, none⟩ = some v := cell_of_heap hp 0
  obtain ⟨A, cap, rfl⟩ : ∃ A cap, v = .slice A r.ls.length cap := by
    rcases hcs with ⟨rfl, h2⟩ | ⟨cap, rfl, _⟩
    · exact ⟨none, 0, by rw [h2]; rfl⟩
    · exact ⟨_, cap, rfl⟩
  have hlI : (r.ls.length : Int) ≤ 12 := by omega
  have HB : Hid (r.has i = false ∨ t.size ≠ 64) := Lib.hid hb
  clear hb hcs hp h
  by_cases h0 : 0 ≤ i
  · by_cases h1 : i < (r.ls.length : Int)
    · have h64 : ((t.size : Int) == 64) = false := by
        rw [beq_eq_false_iff_ne]; rcases HB.out with hb | hb
        · unfold RS.has at hb; simp [h0] at hb; omega
        · omega
      have h0' : ¬ i < 0 := by omega
      have h1' : ¬ (r.ls.length : Int) ≤ i := by omega
      go_enter Tryd.func18, Tryd.ntmps18
      go_wp2_with fail
      go_ret
      exact ⟨rfl, rfl⟩
    · have h0' : ¬ i < 0 := by omega
      have h1' : (r.ls.length : Int) ≤ i := by omega
      go_enter Tryd.func18, Tryd.ntmps18
      go_wp2_with fail
      go_ret
      exact ⟨rfl, rfl⟩
  · have h0' : i < 0 := by omega
    go_enter Tryd.func18, Tryd.ntmps18
    go_wp2_with fail
    go_ret
    exact ⟨rfl, rfl⟩

set_option maxHeartbeats 1600000 in
set_option maxRecDepth 100000 in
theorem rwrite_off (q o k : Nat) (r : RS) (t : ByteArray) (w : World) (h : RIs w q o r) (ht : t.size = 64) (hl : r.ls.length ≤ 12) (hk : k < r.ls.length) (ho : r.on = false) :
    Calls Tryd.prog 18 #[.pointer (some ⟨q, 0, none⟩), .int .i64 (k : Int), .string t] w fun e w' => e = .returned (.int .i64 14) ∧ w = w' := by
  obtain ⟨v, hp, hcs⟩ := h.cells
  have c0 : w.cell? ⟨q, 0, none⟩ = some v := cell_of_heap hp 0
  have c1 : w.cell? ⟨q, 1, none⟩ = some (.bool r.on) := cell_of_heap hp 1
  rw [ho] at c1
  obtain ⟨A, cap, rfl⟩ : ∃ A cap, v = .slice A r.ls.length cap := by
    rcases hcs with ⟨rfl, h2⟩ | ⟨cap, rfl, _⟩
    · exact ⟨none, 0, by rw [h2]; rfl⟩
    · exact ⟨_, cap, rfl⟩
  have h0 : ¬ (k : Int) < 0 := by omega
  have h1 : ¬ (r.ls.length : Int) ≤ (k : Int) := by omega
  clear hcs hp h
  go_enter Tryd.func18, Tryd.ntmps18
  go_wp2_with fail
  go_ret
  exact ⟨rfl, rfl⟩

set_option maxHeartbeats 1600000 in
set_option maxRecDepth 100000 in
theorem rwrite_tear (q o k : Nat) (r : RS) (t : ByteArray) (b : List UInt8) (w : World) (h : RIs w q o r) (ht : t.size = 64) (hl : r.ls.length ≤ 12) (hk : r.ls[k]? = some b) (hbl : b.length = 64) (ho : r.on = true) (hf : r.fuse = 0) (hto : r.torn ≤ 64) :
    Calls Tryd.prog 18 #[.pointer (some ⟨q, 0, none⟩), .int .i64 (k : Int), .string t] w fun e w' => e = .returned (.int .i64 14) ∧ RIs w' q o ⟨r.ls.set k (t.data.toList.take r.torn ++ b.drop r.torn), false, r.fuse, r.torn, r.wr⟩ ∧ Chg q o w w' := by
  have hkl : k < r.ls.length := (List.getElem?_eq_some_iff.1 hk).1
  obtain ⟨v, hp, hcs⟩ := h.cells
  have c0 : w.cell? ⟨q, 0, none⟩ = some v := cell_of_heap hp 0
  have c1 : w.cell? ⟨q, 1, none⟩ = some (.bool r.on) := cell_of_heap hp 1
  have c2 : w.cell? ⟨q, 2, none⟩ = some (.int .i64 r.fuse) := cell_of_heap hp 2
  have c3 : w.cell? ⟨q, 3, none⟩ = some (.int .i64 (r.torn : Int)) := cell_of_heap hp 3
  have f1 := frozen_of_heap hp 1
  rw [ho] at c1
  rw [hf] at c2
  obtain ⟨cap, rfl, hqo, hc⟩ : ∃ cap, v = .slice (some ⟨o, 0, none⟩) r.ls.length cap ∧ q < o ∧ ∀ j b, r.ls[j]? = some b → w.cell? ⟨o, j, none⟩ = some (.string (strB b)) ∧ w.frozen? ⟨o, j, none⟩ = false := by
    rcases hcs with ⟨rfl, h2⟩ | hx
    · rw [h2] at hkl; exact absurd hkl (Nat.not_lt_zero _)
    · exact hx
  obtain ⟨ck, fk⟩ := hc k b hk
  have h0 : ¬ (k : Int) < 0 := by omega
  have h1 : ¬ (r.ls.length : Int) ≤ (k : Int) := by omega
  have hk0 : (0 : Int) ≤ (k : Int) := by omega
  have hk1 : (k : Int) < (r.ls.length : Int) := by omega
  have ht0 : (0 : Int) ≤ (r.torn : Int) := by omega
  have HBL := Lib.hid hbl
  have hb1 : (r.torn : Int) ≤ (b.length : Int) := by omega
  have hcat : Hid (∀ n, t.extract 0 n ++ (strB b).extract n b.length = strB (t.data.toList.take n ++ b.drop n)) := Lib.hid fun n => by
    have := cat_is t.data.toList b n
    rwa [show strB t.data.toList = t from bytes_ext rfl] at this
  have HF := Lib.hid ((RAt.setL h k (t.data.toList.take r.torn ++ b.drop r.torn) hkl).set1 false)
  clear hc hcs hp h hk
  go_enter Tryd.func18, Tryd.ntmps18
  go_wp2_with fail
  have ht1 : (r.torn : Int) ≤ (t.size : Int) := by omega
  have hq1 : ¬ 9223372036854775807 < min r.torn t.size + (b.length - r.torn) := by omega
  have hq2 : ¬ 9223372036854775807 < r.torn + (b.length - r.torn) := by omega
  have HT := Lib.hid ht; clear ht hbl
  go_still_tail 24, (by kernel_rfl)
  change wpList _ _ _ _ _ w.drew
  go_wp2_with fail
  go_ret
  refine ⟨rfl, ?_, (((Chg.refl q o w).setCell (.inr (.inl rfl)) _).setCell (.inl rfl) _).drew⟩
  rw [hcat.out r.torn]
  exact HF.out.drew

set_option maxHeartbeats 1600000 in
set_option maxRecDepth 100000 in
theorem rwrite_full (q o k : Nat) (r : RS) (t : ByteArray) (w : World) (h : RIs w q o r) (ht : t.size = 64) (hl : r.ls.length ≤ 12) (hkl : k < r.ls.length) (ho : r.on = true) (hf : r.fuse ≠ 0) (h0f : -1 ≤ r.fuse) (h1f : r.fuse ≤ 9223372036854775807) (hw : r.wr ≤ 1000000) :
    Calls Tryd.prog 18 #[.pointer (some ⟨q, 0, none⟩), .int .i64 (k : Int), .string t] w fun e w' => e = .returned (.int .i64 0) ∧ RIs w' q o ⟨r.ls.set k t.data.toList, true, max (r.fuse - 1) (-1), r.torn, r.wr + 1⟩ ∧ Chg q o w w' := by
  obtain ⟨b, hk⟩ : ∃ b, r.ls[k]? = some b := ⟨_, List.getElem?_eq_getElem hkl⟩
  obtain ⟨v, hp, hcs⟩ := h.cells
  have c0 : w.cell? ⟨q, 0, none⟩ = some v := cell_of_heap hp 0
  have c1 : w.cell? ⟨q, 1, none⟩ = some (.bool r.on) := cell_of_heap hp 1
  have c2 : w.cell? ⟨q, 2, none⟩ = some (.int .i64 r.fuse) := cell_of_heap hp 2
  have c4 : w.cell? ⟨q, 4, none⟩ = some (.int .i64 (r.wr : Int)) := cell_of_heap hp 4
  have f2 := frozen_of_heap hp 2
  have f4 := frozen_of_heap hp 4
  rw [ho] at c1
  obtain ⟨cap, rfl, hqo, hc⟩ : ∃ cap, v = .slice (some ⟨o, 0, none⟩) r.ls.length cap ∧ q < o ∧ ∀ j b, r.ls[j]? = some b → w.cell? ⟨o, j, none⟩ = some (.string (strB b)) ∧ w.frozen? ⟨o, j, none⟩ = false := by
    rcases hcs with ⟨rfl, h2⟩ | hx
    · rw [h2] at hkl; exact absurd hkl (Nat.not_lt_zero _)
    · exact hx
  obtain ⟨ck, fk⟩ := hc k b hk
  have hoq : ¬ (o = q) := by omega
  have hqo' : ¬ (q = o) := by omega
  have h0 : ¬ (k : Int) < 0 := by omega
  have h1 : ¬ (r.ls.length : Int) ≤ (k : Int) := by omega
  have hk0 : (0 : Int) ≤ (k : Int) := by omega
  have hk1 : (k : Int) < (r.ls.length : Int) := by omega
  have hf0 : (r.fuse == 0) = false := by rw [beq_eq_false_iff_ne]; exact hf
  have hwx : IntKind.i64.wrap ((r.wr : Int) + 1) = (r.wr : Int) + 1 := IntWalk.i64_in _ (by omega)
  have hfx : IntKind.i64.wrap (r.fuse - 1) = r.fuse - 1 := IntWalk.i64_in _ (by omega)
  have HF : Hid (∀ a : Int, a = max (r.fuse - 1) (-1) → RIs (((w.setCell ⟨o, k, none⟩ (.string t)).setCell ⟨q, 2, none⟩ (.int .i64 a)).setCell ⟨q, 4, none⟩ (.int .i64 ((r.wr : Int) + 1))) q o ⟨r.ls.set k t.data.toList, true, max (r.fuse - 1) (-1), r.torn, r.wr + 1⟩) := Lib.hid (by
    rintro a rfl
    have hx := ((RAt.setL h k t.data.toList hkl).set2 (max (r.fuse - 1) (-1))).set4 (r.wr + 1)
    rw [ho] at hx
    exact hx)
  clear hc hcs hp h hk
  by_cases hneg : r.fuse - 1 < -1
  · go_enter Tryd.func18, Tryd.ntmps18
    go_wp2_with fail
    go_ret
    exact ⟨rfl, HF.out _ (by omega), (((Chg.refl q o w).setCell (.inr (.inl rfl)) _).setCell (.inl rfl) _).setCell (.inl rfl) _⟩
  · go_enter Tryd.func18, Tryd.ntmps18
    go_wp2_with fail
    go_ret
    exact ⟨rfl, HF.out _ (by omega), (((Chg.refl q o w).setCell (.inr (.inl rfl)) _).setCell (.inl rfl) _).setCell (.inl rfl) _⟩
end Go.Proofs.YthlpfedcmiiibaaDoor
