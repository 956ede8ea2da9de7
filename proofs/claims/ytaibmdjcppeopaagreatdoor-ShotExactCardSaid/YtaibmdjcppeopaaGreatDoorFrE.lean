/- The contract of package frame's Read: it returns what the plain arithmetic says. Conditions: the sentinels lie as the program's text lays them; the row is no longer than memory allows. -/
import Derived.Test.YtaibmdjcppeopaaGreatDoorFrD
namespace Go.Proofs.YtaibmdjcppeopaaGreatDoor
open Go Go.RowKit

theorem seq_bd {b : List UInt8} (h : b.length = 64) : seqOf b < 4294967296 ∧ idxOf b < 65536 ∧ cntOf b < 65536 := by
  have h1 := valB_lt ((b.drop 56).take 4)
  have h2 := valB_lt ((b.drop 60).take 2)
  have h3 := valB_lt ((b.drop 62).take 2)
  rw [show ((b.drop 56).take 4).length = 4 by simp; omega] at h1
  rw [show ((b.drop 60).take 2).length = 2 by simp; omega] at h2
  rw [show ((b.drop 62).take 2).length = 2 by simp; omega] at h3
  exact ⟨h1, h2, h3⟩
/-- A block's trailer is what stands in it. -/
theorem trail_of {b : List UInt8} (h : b.length = 64) : b.drop 56 = trailF (seqOf b) (idxOf b) (cntOf b) := by
  unfold trailF seqOf idxOf cntOf
  rw [le_val_of 4 (by simp; omega), le_val_of 2 (by simp; omega), le_val_of 2 (by simp; omega)]
  rw [show b.drop 62 = (b.drop 56).drop 6 by rw [List.drop_drop], show b.drop 60 = (b.drop 56).drop 4 by rw [List.drop_drop]]
  obtain ⟨t, ht⟩ : ∃ t, b.drop 56 = t := ⟨_, rfl⟩
  have hl : t.length = 8 := by rw [← ht]; simp; omega
  rw [ht, List.append_assoc, show t.drop 6 = (t.drop 4).drop 2 by rw [List.drop_drop], List.take_of_length_le (l := (t.drop 4).drop 2) (by simp; omega), List.take_append_drop, List.take_append_drop]
theorem good_vals {l : List (List UInt8)} {q n j : Nat} {b : List UInt8} (hb : l[j]? = some b) (h64 : b.length = 64) (hq : q < 4294967296) (hj : j < 65536) (hn : n < 65536) : goodAt l q n j = (decide (seqOf b = q) && (decide (idxOf b = j) && decide (cntOf b = n))) := by
  rw [Bool.eq_iff_iff, goodAt_iff]
  simp only [Bool.and_eq_true, decide_eq_true_eq]
  constructor
  · rintro ⟨c, hc, h1, h2⟩
    obtain rfl := Option.some.inj (hb.symm.trans hc)
    exact ⟨trail_seq h2 (by rw [show (256 : Nat) ^ 4 = 4294967296 from rfl]; exact hq), trail_idx h2 (by rw [show (256 : Nat) ^ 2 = 65536 from rfl]; exact hj), trail_cnt h2 (by rw [show (256 : Nat) ^ 2 = 65536 from rfl]; exact hn)⟩
  · rintro ⟨h1, h2, h3⟩
    refine ⟨b, hb, h64, ?_⟩
    rw [trail_of h64, h1, h2, h3]
theorem good_no {l : List (List UInt8)} {q n j : Nat} (h : ∀ b, l[j]? = some b → b.length ≠ 64) : goodAt l q n j = false := by
  unfold goodAt
  cases hb : l[j]? with
  | none => rfl
  | some b => simp [h b hb]

theorem eqT (x0 x1 x2 y0 y1 y2 : Int) (w : World) : (Op.equalIn 10000 91 (.agg #[.int .u32 x0, .int .u32 x1, .int .u32 x2]) (.agg #[.int .u32 y0, .int .u32 y1, .int .u32 y2])).run Tryz.prog w
    = .ok (x0 == y0 && (x1 == y1 && x2 == y2)) w := by
  have hs : Tryz.prog.stoodInHeld 91 = false := by kernel_rfl
  have ht : Tryz.prog.underlying 91 = some (.struct (Tryz.prog.fieldsOf 91)) := by kernel_rfl
  have hf : ∃ fs, Tryz.prog.fieldsOf 91 = fs ∧ Tryz.prog.underlying 91 = some (.struct fs) := ⟨_, rfl, ht⟩
  obtain ⟨fs, h1, h2⟩ := hf
  rw [Tryz.underlying91] at h2
  simp only [Option.some.injEq, TypeDesc.struct.injEq] at h2
  subst h2
  rw [run_equalIn_agg w 9999 91 _ _ ht hs, h1]
  have q0 : ∀ (W : World) (a0 a1 a2 : Value), (part 72 #[a0, a1, a2] 0).run Tryz.prog W = .ok a0 W := fun _ _ _ _ => by kernel_rfl
  have q1 : ∀ (W : World) (a0 a1 a2 : Value), (part 72 #[a0, a1, a2] 1).run Tryz.prog W = .ok a1 W := fun _ _ _ _ => by kernel_rfl
  have q2 : ∀ (W : World) (a0 a1 a2 : Value), (part 72 #[a0, a1, a2] 2).run Tryz.prog W = .ok a2 W := fun _ _ _ _ => by kernel_rfl
  cases e0 : x0 == y0 <;> cases e1 : x1 == y1 <;> cases e2 : x2 == y2 <;>
    simp [Op.eqFields, q0, q1, q2, run_equalIn_int _ _ _ _ _ _ _ Tryz.underlying72, e0, e1, e2]

/-- What unpack returns. -/
theorem unpack_c (P : ByteArray) (w : World) (h56 : 56 ≤ P.size) (hP : P.size ≤ 10000) :
    Calls Tryz.prog 68 #[.string P] w fun e w' => e = .returned (unpV (unpackF P.data.toList)) ∧ Below w.heap.size w w' := by
  obtain ⟨k, hk⟩ : ∃ k, valB (P.data.toList.take 4) = k := ⟨_, rfl⟩
  unfold unpackF
  rw [hk, size_len]
  by_cases hbad : 6000 < k ∨ 56 * nblk k ≠ P.size
  · rw [if_pos hbad]
    exact unpack_len P w h56 hP k hk hbad
  · rw [if_neg hbad]
    obtain ⟨x, hx⟩ : ∃ x, valB ((P.data.toList.drop 4).take 4) = x := ⟨_, rfl⟩
    obtain ⟨c, hc⟩ : ∃ c, crcN ((P.extract 8 (8 + k)).data.toList) = c := ⟨_, rfl⟩
    have hp : Pay P (P.extract 8 (8 + k)) (P.extract (8 + k) P.size) k c x := ⟨h56, hP, by omega, by omega, hk, hx, rfl, rfl, hc⟩
    have e1 : (P.data.toList.drop 8).take k = (P.extract 8 (8 + k)).data.toList := by rw [cut_list, show 8 + k - 8 = k by omega]
    have e2 : P.data.toList.drop (8 + k) = (P.extract (8 + k) P.size).data.toList := by rw [cut_list, List.take_of_length_le (by simp)]
    rw [hx, e1, hc, e2]
    by_cases hcx : c = x
    · subst hcx
      have h := unpack_pad P _ _ k c w hp _ rfl _ rfl
      have hz : (Lib.trimB (P.extract (8 + k) P.size).data.toList 0 = []) ↔ (P.extract (8 + k) P.size).data.toList = List.replicate (P.size - (8 + k)) 0 := by
        rw [trim_zero, size_len, cut_size _ _ _ hp.fits (Nat.le_refl _)]
      refine h.mono fun e w' ⟨he, hb⟩ => ⟨?_, hb⟩
      rw [he]
      by_cases hT : Lib.trimB (P.extract (8 + k) P.size).data.toList 0 = []
      · rw [if_pos hT, if_pos ⟨rfl, hz.1 hT⟩, unpV_some, ← bst_of]
      · rw [if_neg hT, if_neg (fun h => hT (hz.2 h.2)), unpV_none]
    · rw [if_neg (fun h => hcx h.1)]
      exact unpack_crc P _ _ k c x w hp hcx

theorem fault_i (s : Nat → Addr) (x : Int) (i : Nat) (w : World) (hx : x = i) (hs : Sent s w) :
    Calls Tryz.prog 67 #[.int .i64 x] w fun e w' => (∃ ev, e = .returned ev ∧ FaultV s w' opFrame i ev) ∧ Below w.heap.size w w' := by subst hx; exact fault_c s i w hs
theorem trailerOf_no (B c : Nat) (A : Option Addr) (l : List ByteArray) (x : Int) (i : Nat) (w : World) (hx : x = i) (hl : l.length ≤ 9223372036854775807) (h : SRow w B A l) (hB : B ≤ w.heap.size) (hz : ∀ z, l[i]? = some z → z.size ≠ 64) :
    Calls Tryz.prog 65 #[.slice A l.length c, .int .i64 x] w fun e w' => e = .returned (.tuple #[.agg #[.int .u32 0, .int .u32 0, .int .u32 0], .bool false]) ∧ Below w.heap.size w w' := by
  subst hx
  cases hi : l[i]? with
  | none => exact trailerOf_none B c A l i w hl (by simpa using hi)
  | some z => exact trailerOf_bad B c A l i z w hl h hB hi (hz z hi)
theorem trailerOf_yes (B c : Nat) (A : Option Addr) (l : List ByteArray) (x : Int) (i : Nat) (z : ByteArray) (q j n : Nat) (w : World) (hx : x = i) (hl : l.length ≤ 9223372036854775807) (h : SRow w B A l) (hB : B ≤ w.heap.size) (hi : l[i]? = some z) (hz : z.size = 64)
    (hq : seqOf z.data.toList = q) (hj : idxOf z.data.toList = j) (hn : cntOf z.data.toList = n) :
    Calls Tryz.prog 65 #[.slice A l.length c, .int .i64 x] w fun e w' => e = .returned (.tuple #[.agg #[.int .u32 (q : Int), .int .u32 (j : Int), .int .u32 (n : Int)], .bool true]) ∧ Below w.heap.size w w' := by
  subst hx; subst hq; subst hj; subst hn
  exact trailerOf_ok B c A l i z w hl h hB hi hz

/-- What Read returns. -/
def ReadV (s : Nat → Addr) (w : World) (e : Ending) : Except Nat (List UInt8 × Nat × Nat) → Prop
  | .error i => ∃ ev, e = .returned (.tuple #[.string ⟨#[]⟩, .int .i64 0, .int .i64 0, ev]) ∧ FaultV s w opFrame i ev
  | .ok (d, q, n) => e = .returned (.tuple #[.string (bst d), .int .i64 (q : Int), .int .i64 (n : Int), .nilIface])

set_option maxHeartbeats 1600000 in
set_option maxRecDepth 100000 in
/-- The first block is none. -/
theorem read_none (s : Nat → Addr) (B c : Nat) (A : Option Addr) (l : List ByteArray) (w : World) (hs : Sent s w) (hl : l.length ≤ 9223372036854775807) (h : SRow w B A l) (hB : B ≤ w.heap.size) (hz : ∀ z, l[0]? = some z → z.size ≠ 64) :
    Calls Tryz.prog 58 #[.slice A l.length c] w fun e w' => ReadV s w' e (.error 0) ∧ Below w.heap.size w w' := by
  go_enter Tryz.func58, Tryz.ntmps58
  go_wp2_with fail
  refine (trailerOf_no B c A l 0 0 _ rfl hl h hB hz).mono ?_
  rintro e w1 ⟨rfl, b1⟩
  go_wp2_with fail
  refine (fault_i s 0 0 _ rfl (hs.below (B := w.heap.size) (by (repeat' (first | (with_reducible exact Below.refl _ _) | (with_reducible refine below_drewN ?_ _) | (with_reducible refine Below.drew ?_) | (with_reducible refine Below.alloc ?_ ?_ _) | (with_reducible refine Below.setCell ?_ ?_ _) | (with_reducible refine Below.trans ?_ (Below.mono (by with_reducible assumption) ?_)) | omega | (simp only [World.size_alloc, World.size_setCell, World.size_drew, Go.Proofs.YtaibmdjcppeopaaGreatDoor.World.size_drewN] at *; omega) | (with_reducible refine Below.size (B := 0) ?_)))) (Nat.le_refl _))).mono ?_
  rintro e w2 ⟨⟨ev, rfl, hv⟩, b2⟩
  have HV := Lib.hid hv; clear hv
  go_wp2_with fail
  refine bodyPost_ret (v := .tuple #[.string ⟨#[]⟩, .int .i64 0, .int .i64 0, ev]) (by simp [results, Tryz.results58, go_sem]) rfl ⟨⟨ev, rfl, HV.out⟩, by (repeat' (first | (with_reducible exact Below.refl _ _) | (with_reducible refine below_drewN ?_ _) | (with_reducible refine Below.drew ?_) | (with_reducible refine Below.alloc ?_ ?_ _) | (with_reducible refine Below.setCell ?_ ?_ _) | (with_reducible refine Below.trans ?_ (Below.mono (by with_reducible assumption) ?_)) | omega | (simp only [World.size_alloc] at *; omega) | (with_reducible refine Below.size (B := 0) ?_)))⟩

theorem begB_no {q i n : Nat} (h : q < 1 ∨ 2147483647 < q ∨ i ≠ 0 ∨ n < 1 ∨ 108 < n) : begB q i n = false := by unfold begB; rw [decide_eq_false]; exact fun k => k h
theorem begB_yes {q i n : Nat} (h : ¬ (q < 1 ∨ 2147483647 < q ∨ i ≠ 0 ∨ n < 1 ∨ 108 < n)) : begB q i n = true := by unfold begB; rw [decide_eq_true]; exact h

set_option maxHeartbeats 1600000 in
set_option maxRecDepth 100000 in
/-- The first block is no frame's first. -/
theorem read_begins (s : Nat → Addr) (B c : Nat) (A : Option Addr) (l : List ByteArray) (z : ByteArray) (q j n : Nat) (w : World) (hs : Sent s w) (hl : l.length ≤ 9223372036854775807) (h : SRow w B A l) (hB : B ≤ w.heap.size) (hi : l[0]? = some z) (hz : z.size = 64)
    (hq : seqOf z.data.toList = q) (hj : idxOf z.data.toList = j) (hn : cntOf z.data.toList = n) (hbad : q < 1 ∨ 2147483647 < q ∨ j ≠ 0 ∨ n < 1 ∨ 108 < n) :
    Calls Tryz.prog 58 #[.slice A l.length c] w fun e w' => ReadV s w' e (.error 0) ∧ Below w.heap.size w w' := by
  obtain ⟨q4, j4, n4⟩ := seq_bd (b := z.data.toList) (by rw [size_len]; exact hz)
  rw [hq] at q4
  rw [hj] at j4
  rw [hn] at n4
  have HT := Lib.hid (trailerOf_yes B c A l 0 0 z q j n w rfl hl h hB hi hz hq hj hn)
  have hbg := Lib.hid (begB_no hbad)
  clear hq hj hn hbad hi
  go_enter Tryz.func58, Tryz.ntmps58
  go_wp2_with fail
  refine (HT.out).mono ?_
  rintro e w1 ⟨rfl, b1⟩
  go_wp2_with fail
  refine (begins_c q j n _ (by omega) (by omega) (by omega)).mono ?_
  rw [hbg.out]
  rintro e w1' ⟨rfl, b1'⟩
  go_wp2_with fail
  refine (fault_i s 0 0 _ rfl (hs.below (B := w.heap.size) (by (repeat' (first | (with_reducible exact Below.refl _ _) | (with_reducible refine below_drewN ?_ _) | (with_reducible refine Below.drew ?_) | (with_reducible refine Below.alloc ?_ ?_ _) | (with_reducible refine Below.setCell ?_ ?_ _) | (with_reducible refine Below.trans ?_ (Below.mono (by with_reducible assumption) ?_)) | omega | (simp only [World.size_alloc] at *; omega) | (with_reducible refine Below.size (B := 0) ?_)))) (Nat.le_refl _))).mono ?_
  rintro e w2 ⟨⟨ev, rfl, hv⟩, b2⟩
  have HV := Lib.hid hv; clear hv
  go_wp2_with fail
  refine bodyPost_ret (v := .tuple #[.string ⟨#[]⟩, .int .i64 0, .int .i64 0, ev]) (by simp [results, Tryz.results58, go_sem]) rfl ⟨⟨ev, rfl, HV.out⟩, by (repeat' (first | (with_reducible exact Below.refl _ _) | (with_reducible refine below_drewN ?_ _) | (with_reducible refine Below.drew ?_) | (with_reducible refine Below.alloc ?_ ?_ _) | (with_reducible refine Below.setCell ?_ ?_ _) | (with_reducible refine Below.trans ?_ (Below.mono (by with_reducible assumption) ?_)) | omega | (simp only [World.size_alloc] at *; omega) | (with_reducible refine Below.size (B := 0) ?_)))⟩
end Go.Proofs.YtaibmdjcppeopaaGreatDoor
