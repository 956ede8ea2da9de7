/- Contracts of the reference of layer 5: numbers as bytes and back, the number of blocks. Conditions: lengths as the callers have them. -/
import Derived.Test.YtbiofjdlfppfoaaDoorFrTn
namespace Go.Proofs.YtbiofjdlfppfoaaDoor
open Go Go.RowKit

theorem leB_snoc : ∀ (j n : Nat), leB (j + 1) n = leB j n ++ [UInt8.ofNat (n / 256 ^ j % 256)]
  | 0, n => by simp [leB]
  | j + 1, n => by
    rw [leB, leB_snoc j (n / 256)]
    rw [leB, Nat.div_div_eq_div_mul, Nat.pow_succ, Nat.mul_comm 256]
    rfl

theorem shr_byte (n j : Nat) : (n : Int) / 2 ^ (8 * j) % 256 = ((UInt8.ofNat (n / 256 ^ j % 256)).toNat : Int) := by
  have e : (2 : Int) ^ (8 * j) = ((256 ^ j : Nat) : Int) := by
    rw [show (256 : Nat) = 2 ^ 8 from rfl, ← Nat.pow_mul]
    simp
  rw [e, ofNat_toNat _ (by omega)]
  rw [← Int.natCast_ediv]
  omega

/-- What a round of the reference's number begins with. -/
def NRel (w : World) (n k : Nat) (l i : Value) (wr : World) : Prop :=
  ∃ (j : Nat) (v : Value), v = l ∧ i = .int .i64 j ∧ j ≤ k ∧ wr.ownsRow w.heap.size 5 1 v j (byteVs (leB j n)) ∧ Below w.heap.size w wr
theorem NRel.start (w : World) (n k : Nat) : NRel w n k (.slice (some ⟨w.heap.size, 0, none⟩) 0 0) (.int .i64 0) (w.alloc (.cells #[] 5)) :=
  ⟨0, _, rfl, rfl, Nat.zero_le _, World.ownsRow_made w #[] 0 (Nat.le_refl _) (by unfold maxLen; omega) (by simp), (Below.refl _ _).alloc (Nat.le_refl _) _⟩
theorem NRel.step {w wr w3 : World} {n k j N : Nat} {v v' : Value} {cs : Array Value} {t : TypeId} (hj : j < k) (hob : ∀ q, v.ownBlock = some q → w.heap.size ≤ q) (hb : Below w.heap.size w wr) (hN : N = j + 1)
    (hown : w3.ownsRow w.heap.size 5 1 v' N (byteVs (leB j n) ++ byteVs [UInt8.ofNat (n / 256 ^ j % 256)])) (hg : (wr.alloc (.cells cs t)).grownBy w3 v.ownBlock) : NRel w n k v' (.int .i64 ((j : Int) + 1)) w3 := by
  subst hN
  rw [byteVs_app, ← leB_snoc] at hown
  exact ⟨j + 1, v', rfl, ret_v (by omega), hj, hown, (hb.alloc hb.size _).grown hg (by rw [World.size_alloc]; have := hb.size; omega) hob⟩

set_option maxHeartbeats 1600000 in
set_option maxRecDepth 100000 in
theorem rnum_c (n k : Nat) (w : World) (hk : k ≤ 4) (hn : n < 4294967296) :
    Calls Tryd.prog 18 #[.int .i64 (n : Int), .int .i64 (k : Int)] w fun e w' => e = .returned (.string (bst (leB k n))) ∧ Below w.heap.size w w' := by
  have HST := Lib.hid (NRel.start w n k)
  go_enter Tryd.func18, Tryd.ntmps18
  go_wp2_with fail
  go_loopw [5, 6] (fun l i wr => NRel w n k l i wr) (fun _ i _ => k - (intOf i).toNat)
  case atStart => exact HST.out
  case round =>
    obtain ⟨j, l, rfl, rfl, hj, hown, hb⟩ := hrel
    clear HST
    obtain ⟨i0, hi, hz0, hz1, hz2⟩ := info_parts Tryd.infoB
    have hob : ∀ q, l.ownBlock = some q → w.heap.size ≤ q := fun q hq => (hown.lt q hq).1
    have HOB := Lib.hid hob; clear hob
    have hsz := hb.size
    by_cases hjk : j < k
    · have ji : (j : Int) < (k : Int) := by omega
      have hv := Lib.hid (shr_byte n j)
      go_wp2_with (first | (at_builtin; refine wpList_append_own_at _ rfl _ _ 40 rfl w.heap.size 5 i0 _ 1 1 Tryd.underlying40 hi hz0 hz1 hz2 rfl (by decide) _ j _ rfl (hown.alloc _) ⟨wr.heap.size, 0, none⟩ 1 1 (byteVs [UInt8.ofNat (n / 256 ^ j % 256)]) rfl rfl ?c1 ?c2 ?c3 ?c4 ?c5 ?_))
      case c1 =>
        intro q u hu
        rw [adr0, World.cell?_alloc_at _ _ _ _ rfl]
        match q, hu with
        | 0, hu => rw [hv.out]; exact hu
      case c2 => intro u hu; simp [byteVs] at hu; subst hu; rfl
      case c3 => unfold maxLen; omega
      case c4 => omega
      case c5 => rw [World.size_alloc]; omega
      intro v' w3 hown' hgrow _ hat
      have hR := Lib.hid (NRel.step hjk HOB.out hb (by omega) hown' hgrow)
      clear hown' hgrow hat hown
      go_wp2_with fail
      go_roundw
      case rel => exact hR.out
      case measure => simp [intOf]; omega
    · obtain rfl : j = k := by omega
      have hcv := conv_own _ _ _ _ _ hown
      have HB := Lib.hid hb
      clear hown hb
      go_wp2_with fail
      go_ret
      exact ⟨rfl, HB.out⟩

set_option maxHeartbeats 1600000 in
theorem rval_c (s : ByteArray) (w : World) (hs : s.size ≤ 4) :
    Calls Tryd.prog 28 #[.string s] w fun e w' => e = .returned (.int .i64 (valB s.data.toList)) ∧ w = w' := by
  go_enter Tryd.func28, Tryd.ntmps28
  go_wp2
  go_loop [3, 4] (fun x i => ∃ j : Nat, j ≤ s.size ∧ i = .int .i64 ((j : Int) - 1) ∧ x = .int .i64 (valB (s.data.toList.drop j))) (fun _ i => (intOf i + 1).toNat)
  case atStart => exact ⟨s.size, Nat.le_refl _, rfl, by rw [List.drop_of_length_le (by simp)]; rfl⟩
  case round =>
    obtain ⟨j, hj, rfl, rfl⟩ := hrel
    by_cases h0 : 0 < j
    · have hd := val_drop s.data.toList (j - 1) (by rw [size_len]; omega)
      rw [show j - 1 + 1 = j by omega] at hd
      have hlt : valB (s.data.toList.drop j) < 16777216 := by
        have := valB_lt (s.data.toList.drop j)
        have h2 : (s.data.toList.drop j).length ≤ 3 := by simp; omega
        have h3 : (256 : Nat) ^ (s.data.toList.drop j).length ≤ 256 ^ 3 := Nat.pow_le_pow_right (by omega) h2
        rw [show (256 : Nat) ^ 3 = 16777216 from rfl] at h3
        omega
      have hc := UInt8.toNat_lt (s.data.toList[j - 1]'(by rw [size_len]; omega))
      have HD := Lib.hid hd; clear hd
      go_wp2
      go_round
      case rel => exact ⟨j - 1, by omega, ret_v (by omega), ret_v (by rw [HD.out]; have : s[j - 1] = (s.data.toList[j - 1]'(by rw [size_len]; omega)) := rfl; rw [this]; unfold wrap64; omega)⟩
      case measure => simp [intOf]; omega
    · go_wp2
      go_ret
      exact ⟨ret_i (by rw [show j = 0 by omega]; rfl), rfl⟩

set_option maxHeartbeats 1600000 in
theorem rsize_c (s : ByteArray) (w : World) (hn : s.size ≤ 1000000) :
    Calls Tryd.prog 12 #[.string s] w fun e w' => e = .returned (.int .i64 (nblk s.size : Nat)) ∧ w = w' := by
  go_enter Tryd.func12, Tryd.ntmps12
  go_wp2
  go_ret
  exact ⟨ret_i (by unfold nblk; omega), rfl⟩
end Go.Proofs.YtbiofjdlfppfoaaDoor
