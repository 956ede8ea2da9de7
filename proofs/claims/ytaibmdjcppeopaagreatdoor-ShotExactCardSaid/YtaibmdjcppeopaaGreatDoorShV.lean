/- The contract of the law package's own function that tells which error it is. Condition: the fourteen sentinels lie where the program's text lays them. -/
import Derived.Test.YtaibmdjcppeopaaGreatDoorErrs
import Derived.LoopTactic
import Derived.Lib.Hide
import Derived.Test.YtaibmdjcppeopaaGreatDoorLgRd
import Derived.Test.YtaibmdjcppeopaaGreatDoorShM
import Derived.Test.YtaibmdjcppeopaaGreatDoorLgV
import Derived.Deep.RegionHeld3
import Derived.Deep.DeepCutAuto
import Derived.Deep.CutBlock
import Derived.Deep.QuietTactic
namespace Go.Proofs.YtaibmdjcppeopaaGreatDoor
open Go Go.RowKit Go.Extern.Stop Go.Stop Go.Extern

/-- The row of the fourteen sentinels. -/
def sentRow (s : Nat → Addr) : Array Value := #[.iface 157 (.pointer (some (s 0))), .iface 157 (.pointer (some (s 1))), .iface 157 (.pointer (some (s 2))), .iface 157 (.pointer (some (s 3))), .iface 157 (.pointer (some (s 4))), .iface 157 (.pointer (some (s 5))), .iface 157 (.pointer (some (s 6))), .iface 157 (.pointer (some (s 7))), .iface 157 (.pointer (some (s 8))), .iface 157 (.pointer (some (s 9))), .iface 157 (.pointer (some (s 10))), .iface 157 (.pointer (some (s 11))), .iface 157 (.pointer (some (s 12))), .iface 157 (.pointer (some (s 13)))]


theorem sentRow_at (s : Nat → Addr) (j : Nat) (hj : j < 14) : (sentRow s)[j]? = some (.iface 157 (.pointer (some (s j)))) := by
  match j, hj with
  | 0, _ => rfl
  | 1, _ => rfl
  | 2, _ => rfl
  | 3, _ => rfl
  | 4, _ => rfl
  | 5, _ => rfl
  | 6, _ => rfl
  | 7, _ => rfl
  | 8, _ => rfl
  | 9, _ => rfl
  | 10, _ => rfl
  | 11, _ => rfl
  | 12, _ => rfl
  | 13, _ => rfl

/-- What a round of the search begins with: the counter at most k, the row in its block. -/
def KRel (s : Nat → Addr) (w : World) (k : Nat) (i : Value) (wr : World) : Prop :=
  ∃ j : Nat, j ≤ k ∧ i = .int .i64 j ∧ Sent s wr ∧ Below w.heap.size w wr ∧ (∀ n, n < 14 → wr.cell? ⟨w.heap.size, n, none⟩ = some (.iface 157 (.pointer (some (s n)))))

theorem KRel.start (s : Nat → Addr) (w : World) (k : Nat) (hs : Sent s w) : KRel s w k (.int .i64 0) (w.alloc (.cells (sentRow s) 59)) := by
  have hb : Below w.heap.size w (w.alloc (.cells (sentRow s) 59)) := (Below.refl _ _).alloc (Nat.le_refl _) _
  refine ⟨0, Nat.zero_le _, rfl, hs.below hb (Nat.le_refl _), hb, fun n hn => ?_⟩
  rw [World.cell?_alloc_at _ _ _ _ rfl]
  exact sentRow_at s n hn

/-- A value that errors.Is tells from each sentinel but the one of the place k. -/
def Tells (s : Nat → Addr) (k : Nat) (v : Value) (w : World) : Prop :=
  ∀ W : World, Below w.heap.size w W → ∀ j, j < 14 → Calls Tryz.prog 28 #[v, .iface 157 (.pointer (some (s j)))] W fun e w' => e = .returned (.bool (decide (k = j))) ∧ W = w'

set_option maxRecDepth 100000 in
set_option maxHeartbeats 800000 in
theorem kind_of (s : Nat → Addr) (k : Nat) (T : TypeId) (a : Addr) (w : World) (hs : Sent s w) (hk : k < 14) (ht : Tells s k (.iface T (.pointer (some a))) w) :
    Calls Tryz.prog 8 #[.iface T (.pointer (some a))] w fun e w' => e = .returned (.int .i64 (k + 1 : Nat)) ∧ Below w.heap.size w w' := by
  have e0 := hs.cell 0 (by omega)
  have e1 := hs.cell 1 (by omega)
  have e2 := hs.cell 2 (by omega)
  have e3 := hs.cell 3 (by omega)
  have e4 := hs.cell 4 (by omega)
  have e5 := hs.cell 5 (by omega)
  have e6 := hs.cell 6 (by omega)
  have e7 := hs.cell 7 (by omega)
  have e8 := hs.cell 8 (by omega)
  have e9 := hs.cell 9 (by omega)
  have e10 := hs.cell 10 (by omega)
  have e11 := hs.cell 11 (by omega)
  have e12 := hs.cell 12 (by omega)
  have e13 := hs.cell 13 (by omega)
  simp only [gnum, List.getD_cons_zero, List.getD_cons_succ] at e0 e1 e2 e3 e4 e5 e6 e7 e8 e9 e10 e11 e12 e13
  have hst := KRel.start s w k hs
  go_enter Tryz.func8, Tryz.ntmps8
  go_wp2
  clear hs e0 e1 e2 e3 e4 e5 e6 e7 e8 e9 e10 e11 e12 e13
  go_loopw [4] (fun i wr => KRel s w k i wr) (fun i _ => 14 - (intOf i).toNat)
  case atStart => exact hst
  case round =>
    obtain ⟨j, hj, rfl, hsr, hbr, hcr⟩ := hrel
    have hcj := hcr j (by omega)
    have hlt : decide ((j : Int) < 14) = true := by simp; omega
    by_cases hkj : k = j
    · subst hkj
      have ht' := ht wr hbr k hk
      simp only [decide_true] at ht'
      clear hst hcr
      have HT := Lib.hid ht'; clear ht' ht
      go_wp2_with (go_at_call 28; refine (HT.out).mono ?_; rintro e w' ⟨rfl, rfl⟩)
      go_ret
      exact ⟨rfl, hbr⟩
    · have ht' := ht wr hbr j (by omega)
      rw [decide_eq_false hkj] at ht'
      clear hst
      have HT := Lib.hid ht'; clear ht' ht
      have HC := Lib.hid hcr; clear hcr
      go_wp2_with (go_at_call 28; refine (HT.out).mono ?_; rintro e w' ⟨rfl, rfl⟩)
      go_roundw
      case rel => exact ⟨j + 1, by omega, by go_num, hsr, hbr, HC.out⟩
      case measure => simp [intOf]; omega

theorem tells_sent (s : Nat → Addr) (k : Nat) (w : World) (hs : Sent s w) (hk : k < 14) : Tells s k (.iface 157 (.pointer (some (s k)))) w :=
  fun W hb j hj => is_sent s k j W (hs.below hb (Nat.le_refl _)) hk hj

theorem tells_fault (s : Nat → Addr) (k b o : Nat) (w : World) (hs : Sent s w) (hk : k < 14) (h1 : w.cell? ⟨b, o + 2, none⟩ = some (.iface 157 (.pointer (some (s k))))) :
    Tells s k (.iface 127 (.pointer (some ⟨b, o, none⟩))) w :=
  fun W hb j hj => is_fault s k j b o W (hs.below hb (Nat.le_refl _)) hk hj ((hb.cell (p := ⟨b, o + 2, none⟩) (lt_of_cell h1)).trans h1)

theorem kind_nil (w : World) : Calls Tryz.prog 8 #[.nilIface] w fun e w' => e = .returned (.int .i64 0) ∧ Below w.heap.size w w' := by
  go_enter Tryz.func8, Tryz.ntmps8
  go_wp2
  go_ret
  exact ⟨rfl, Below.refl _ _⟩

/-- An error that is none, or bears the sentinel of the place k - 1, itself or by a Fault. -/
def ErrIs (s : Nat → Addr) (k : Nat) (v : Value) (w : World) : Prop :=
  (k = 0 ∧ v = .nilIface) ∨ (0 < k ∧ k ≤ 14 ∧ ((v = .iface 157 (.pointer (some (s (k - 1))))) ∨ ∃ b o, v = .iface 127 (.pointer (some ⟨b, o, none⟩)) ∧ w.cell? ⟨b, o + 2, none⟩ = some (.iface 157 (.pointer (some (s (k - 1)))))))

theorem kind_any (s : Nat → Addr) (k : Nat) (v : Value) (w : World) (hs : Sent s w) (hv : ErrIs s k v w) :
    Calls Tryz.prog 8 #[v] w fun e w' => e = .returned (.int .i64 k) ∧ Below w.heap.size w w' := by
  rcases hv with ⟨rfl, rfl⟩ | ⟨h0, h14, rfl | ⟨b, o, rfl, h1⟩⟩
  · exact kind_nil w
  · have h := kind_of s (k - 1) _ _ w hs (by omega) (tells_sent s (k - 1) w hs (by omega))
    rw [show k - 1 + 1 = k from by omega] at h
    exact h
  · have h := kind_of s (k - 1) _ _ w hs (by omega) (tells_fault s (k - 1) b o w hs (by omega) h1)
    rw [show k - 1 + 1 = k from by omega] at h
    exact h

theorem errV_is (s : Nat → Addr) (k : Nat) (w : World) (hk : k ≤ 14) : ErrIs s k (errV s k) w := by
  unfold ErrIs errV
  by_cases h : k = 0
  · left; exact ⟨h, by rw [if_pos h]⟩
  · right; exact ⟨by omega, hk, .inl (by rw [if_neg h])⟩

theorem kind_errV (s : Nat → Addr) (k : Nat) (w : World) (hs : Sent s w) (hk : k ≤ 14) :
    Calls Tryz.prog 8 #[errV s k] w fun e w' => e = .returned (.int .i64 k) ∧ Below w.heap.size w w' :=
  kind_any s k _ w hs (errV_is s k w hk)
end Go.Proofs.YtaibmdjcppeopaaGreatDoor

/- The law's own joining of texts. No conditions but that they lie in memory. -/
namespace Go.Proofs.YtaibmdjcppeopaaGreatDoor
open Go Go.RowKit

set_option maxHeartbeats 1600000 in
set_option maxRecDepth 100000 in
/-- Texts, one behind the other. -/
theorem joined_le (v : Value) (F : List (List UInt8)) (w : World) (h : Reads w v F) (h64 : ∀ x ∈ F, x.length ≤ 64) (hl : F.length ≤ 10000) :
    Calls Tryz.prog 16 #[v] w fun e w' => e = .returned (.string (bst F.flatten)) ∧ w' = w := by
  obtain ⟨A, c, rfl, _, hX⟩ := h
  have HX := Lib.hid hX; have H64 := Lib.hid h64
  clear hX h64
  go_enter Tryz.func16, Tryz.ntmps16
  go_wp2_with fail
  go_loopw [3, 4] (fun x i wr => ∃ j : Nat, i = .int .i64 (j : Int) ∧ x = .string (bst (F.take j).flatten) ∧ j ≤ F.length ∧ wr = w) (fun _ i _ => F.length - (intOf i).toNat)
  case atStart => exact ⟨0, rfl, rfl, Nat.zero_le _, rfl⟩
  case round =>
    obtain ⟨j, rfl, rfl, hj, rfl⟩ := hrel
    by_cases hjl : j < F.length
    · have hx : F[j]? = some F[j] := List.getElem?_eq_getElem hjl
      obtain ⟨a, ha, _, ca⟩ := (HX.out).cell (i := j) (z := bst F[j]) (by rw [List.getElem?_map, hx]; rfl)
      subst ha
      have j0 : (0 : Int) ≤ (j : Int) := by omega
      have j1 : (j : Int) < (F.length : Int) := by omega
      have hlen : (F.take j).flatten.length ≤ 64 * j := by
        have h1 : ∀ x ∈ F.take j, x.length ≤ 64 := fun x hx => H64.out x (List.mem_of_mem_take hx)
        have h2 : ∀ (G : List (List UInt8)), (∀ x ∈ G, x.length ≤ 64) → G.flatten.length ≤ 64 * G.length := fun G => by
          induction G with
          | nil => intro _; simp
          | cons y G ih =>
            intro hG
            have h3 := ih fun x hx => hG x (by simp [hx])
            have h4 := hG y (by simp)
            rw [List.flatten_cons, List.length_append, List.length_cons]
            omega
        have h3 := h2 _ h1
        rw [List.length_take] at h3
        omega
      have hfj : F[j].length ≤ 64 := H64.out _ (List.getElem_mem hjl)
      obtain ⟨X, hX⟩ : ∃ X, bst (F.take j).flatten = X := ⟨_, rfl⟩
      obtain ⟨Y, hY⟩ : ∃ Y, bst F[j] = Y := ⟨_, rfl⟩
      have hXY : X ++ Y = bst (F.take (j + 1)).flatten := by
        have e : (F.take (j + 1)).flatten = (F.take j).flatten ++ F[j] := by
          rw [List.take_add_one, hx, List.flatten_append]
          show _ ++ [F[j]].flatten = _
          rw [List.flatten_cons, List.flatten_nil, List.append_nil]
        rw [← hX, ← hY, bst_cat, e]
      have hXs : X.size ≤ 64 * j := by rw [← hX, bst_size]; exact hlen
      have hYs : Y.size ≤ 64 := by rw [← hY, bst_size]; exact hfj
      have hsz : ¬ 9223372036854775807 < X.size + Y.size := by omega
      have HXY := Lib.hid hXY
      rw [hY] at ca
      rw [hX]
      clear hX hY hXY hlen hfj hx
      go_wp2_with fail
      go_roundw
      case rel => exact ⟨j + 1, ret_v (by omega), val_str HXY.out, hjl, by first | rfl | trivial⟩
      case measure => simp [intOf]; omega
    · have e : F.take j = F := List.take_of_length_le (by omega)
      have hge : ¬ ((j : Int) < (F.length : Int)) := by omega
      rw [e]
      go_wp2_with fail
      go_ret
      exact ⟨rfl, rfl⟩
end Go.Proofs.YtaibmdjcppeopaaGreatDoor

/- The law's own comparison of two rows of texts. No conditions but that they lie in memory. -/
namespace Go.Proofs.YtaibmdjcppeopaaGreatDoor
open Go Go.RowKit

/-- What a round of the comparing begins with. -/
def SaRel (w : World) (X Y : List (List UInt8)) (x : Value) (wr : World) : Prop := ∃ j : Nat, x = .int .i64 (j : Int) ∧ j ≤ X.length ∧ X.take j = Y.take j ∧ Same w wr

set_option maxHeartbeats 1600000 in
set_option maxRecDepth 100000 in
/-- Are two rows of texts the same? -/
theorem same_c (v1 v2 : Value) (X Y : List (List UInt8)) (w : World) (h1 : Reads w v1 X) (h2 : Reads w v2 Y) (hl : X.length ≤ 100000) (hl2 : Y.length ≤ 9223372036854775807) :
    Calls Tryz.prog 12 #[v1, v2] w fun e w' => e = .returned (.bool (decide (X = Y))) ∧ Same w w' := by
  obtain ⟨A, c, rfl, _, hX⟩ := h1
  obtain ⟨A', c', rfl, _, hY⟩ := h2
  have HX := Lib.hid hX; have HY := Lib.hid hY
  clear hX hY
  by_cases hlen : X.length = Y.length
  · have hne : ((X.length : Int) != (Y.length : Int)) = false := by rw [bne_eq_false_iff_eq, hlen]
    have HST : Hid (SaRel w X Y (.int .i64 0) w) := Lib.hid ⟨0, rfl, Nat.zero_le _, rfl, Same.refl w⟩
    have HL := Lib.hid hlen; clear hlen
    go_enter Tryz.func12, Tryz.ntmps12
    go_wp2_with fail
    go_loopw [5] (fun x wr => SaRel w X Y x wr) (fun x _ => X.length - (intOf x).toNat)
    case atStart => exact HST.out
    case round =>
      obtain ⟨j, rfl, hj, ht, hs⟩ := hrel
      clear HST
      by_cases hjn : j < X.length
      · have hjy : j < Y.length := by rw [← HL.out]; exact hjn
        have hx : X[j]? = some X[j] := List.getElem?_eq_getElem hjn
        have hy : Y[j]? = some Y[j] := List.getElem?_eq_getElem hjy
        obtain ⟨a, ha, _, ca⟩ := (HX.out.same hs).cell (i := j) (z := bst X[j]) (by rw [List.getElem?_map, hx]; rfl)
        obtain ⟨a', ha', _, ca'⟩ := (HY.out.same hs).cell (i := j) (z := bst Y[j]) (by rw [List.getElem?_map, hy]; rfl)
        subst ha; subst ha'
        have j0 : (0 : Int) ≤ (j : Int) := by omega
        have j1 : (j : Int) < (X.length : Int) := by omega
        have j2 : (j : Int) < (Y.length : Int) := by omega
        obtain ⟨P, hP⟩ : ∃ P, bst X[j] = P := ⟨_, rfl⟩
        obtain ⟨Q, hQ⟩ : ∃ Q, bst Y[j] = Q := ⟨_, rfl⟩
        rw [hP] at ca
        rw [hQ] at ca'
        have hxy : (P = Q) ↔ X[j] = Y[j] := by rw [← hP, ← hQ]; exact ⟨bst_inj, fun h => by rw [h]⟩
        by_cases he : X[j] = Y[j]
        · have hb : (P.toList == Q.toList) = true := by rw [str_beqK, decide_eq_true (hxy.2 he)]
          have HN : Hid (∀ W, Same wr W → SaRel w X Y (.int .i64 ((j : Int) + 1)) W) := Lib.hid fun W hW => ⟨j + 1, ret_v (by omega), hjn, by rw [List.take_add_one, List.take_add_one, hx, hy, ht, he], hs.trans hW⟩
          clear hx hy hP hQ hxy he ht hs
          go_wp2_with fail
          go_region
          all_goals go_wp2_with fail
          all_goals go_roundw
          all_goals first
            | (simp [intOf]; omega)
            | (refine HN.out _ ?_; first | exact Same.drewN _ _ | exact Same.refl _ | exact ⟨rfl, rfl, rfl, rfl, fun _ => rfl⟩)
        · have hb : (P.toList == Q.toList) = false := by rw [str_beqK, decide_eq_false (fun h => he (hxy.1 h))]
          have HN : Hid (decide (X = Y) = false) := Lib.hid (decide_eq_false fun h => he (by subst h; rfl))
          have HS := Lib.hid hs
          clear hx hy hP hQ hxy he ht hs
          go_wp2_with fail
          go_region
          all_goals go_wp2_with fail
          all_goals go_ret
          all_goals exact ⟨by rw [HN.out]; rfl, HS.out.trans ⟨rfl, rfl, rfl, rfl, fun _ => rfl⟩⟩
      · have heq : X = Y := by
          rw [List.take_of_length_le (by omega), List.take_of_length_le (by rw [← HL.out]; omega)] at ht
          exact ht
        have HN : Hid (decide (X = Y) = true) := Lib.hid (decide_eq_true heq)
        have HS := Lib.hid hs
        have hge : ¬ ((j : Int) < (X.length : Int)) := by omega
        clear heq ht hs
        go_wp2_with fail
        go_ret
        exact ⟨by rw [HN.out]; rfl, HS.out⟩
  · have hne : ((X.length : Int) != (Y.length : Int)) = true := by rw [bne_iff_ne]; omega
    have HN : Hid (decide (X = Y) = false) := Lib.hid (decide_eq_false fun h => hlen (by rw [h]))
    clear hlen
    go_enter Tryz.func12, Tryz.ntmps12
    go_wp2_with fail
    go_ret
    exact ⟨by rw [HN.out]; rfl, Same.refl _⟩
end Go.Proofs.YtaibmdjcppeopaaGreatDoor

/- A store in memory, and its small methods. Conditions: the sentinels lie as the program's text lays them; the store lies in memory (StoMem). -/
namespace Go.Proofs.YtaibmdjcppeopaaGreatDoor
open Go Go.RowKit

/-- The cells of a store. -/
def stoV (p q z : Nat) (T : ByteArray) (nx : Nat) (fell : Bool) : Array Value := #[.pointer (some ⟨p, 0, none⟩), .int .i64 (z : Int), .string T, .int .i64 (nx : Int), .pointer (some ⟨q, 0, none⟩), .bool fell]
/-- A store in memory: u its own block, q its log's, p its disk's, g that of the disk's bytes. -/
structure StoMem (w : World) (B u q p g cap : Nat) (d : DS) (z m N : Nat) (T : ByteArray) (nx : Nat) (v : Value) (rs : List (List UInt8)) (fell lf : Bool) : Prop where
  blk : w.heap[u]? = some (.cells (stoV p q z T nx fell) 54 (0, 0))
  log : LogMem w B q p g cap d (2 * z) m N v rs lf
  lo : B ≤ u
  pu : p < u
  uq : u < q
  apart : ∀ k, v.ownBlock = some k → k ≠ u
/-- The blocks that a call of a store may write. -/
def StoS (u q p g : Nat) (v : Value) : Nat → Prop := fun k => k = u ∨ LogS q p g v k
theorem StoMem.cells {w : World} {B u q p g cap : Nat} {d : DS} {z m N nx : Nat} {T : ByteArray} {v : Value} {rs : List (List UInt8)} {fell lf : Bool} (h : StoMem w B u q p g cap d z m N T nx v rs fell lf) :
    w.cell? ⟨u, 0, none⟩ = some (.pointer (some ⟨p, 0, none⟩)) ∧ w.cell? ⟨u, 1, none⟩ = some (.int .i64 (z : Int)) ∧ w.cell? ⟨u, 2, none⟩ = some (.string T) ∧ w.cell? ⟨u, 3, none⟩ = some (.int .i64 (nx : Int)) ∧ w.cell? ⟨u, 4, none⟩ = some (.pointer (some ⟨q, 0, none⟩)) ∧ w.cell? ⟨u, 5, none⟩ = some (.bool fell) :=
  ⟨cell_of_heap h.blk 0, cell_of_heap h.blk 1, cell_of_heap h.blk 2, cell_of_heap h.blk 3, cell_of_heap h.blk 4, cell_of_heap h.blk 5⟩
theorem StoMem.lts {w : World} {B u q p g cap : Nat} {d : DS} {z m N nx : Nat} {T : ByteArray} {v : Value} {rs : List (List UInt8)} {fell lf : Bool} (h : StoMem w B u q p g cap d z m N T nx v rs fell lf) : ∀ k, StoS u q p g v k → B ≤ k ∧ k < w.heap.size := by
  have hl := h.log.lt
  have h1 := h.lo
  have h2 := h.uq
  rintro k (rfl | hk)
  · omega
  · exact h.log.lts k hk
theorem StoMem.kept {w w' : World} {S : Nat → Prop} {B u q p g cap : Nat} {d : DS} {z m N nx : Nat} {T : ByteArray} {v : Value} {rs : List (List UInt8)} {fell lf : Bool} (h : StoMem w B u q p g cap d z m N T nx v rs fell lf) (hc : ChgS S w w') (hS : ∀ k, StoS u q p g v k → ¬ S k) : StoMem w' B u q p g cap d z m N T nx v rs fell lf :=
  ⟨hc.row h.blk (hS u (.inl rfl)), h.log.kept hc fun k hk => hS k (.inr hk), h.lo, h.pu, h.uq, h.apart⟩
theorem StoMem.same {w w' : World} {B u q p g cap : Nat} {d : DS} {z m N nx : Nat} {T : ByteArray} {v : Value} {rs : List (List UInt8)} {fell lf : Bool} (h : StoMem w B u q p g cap d z m N T nx v rs fell lf) (hs : Same w w') : StoMem w' B u q p g cap d z m N T nx v rs fell lf :=
  h.kept (hs.chg fun _ => False) fun _ _ hf => hf
theorem StoMem.below {w w' : World} {B C u q p g cap : Nat} {d : DS} {z m N nx : Nat} {T : ByteArray} {v : Value} {rs : List (List UInt8)} {fell lf : Bool} (h : StoMem w B u q p g cap d z m N T nx v rs fell lf) (hb : Below C w w') (hC : w.heap.size ≤ C) : StoMem w' B u q p g cap d z m N T nx v rs fell lf :=
  h.kept (S := fun k => w.heap.size ≤ k) ⟨hb.os, hb.tape, hb.output, hb.size, fun k hk _ => hb.block k (by omega)⟩ fun k hk hs => by have := (h.lts k hk).2; omega
/-- The log was written, the store's own block was not. -/
theorem StoMem.logged {w w' : World} {B u q p g cap : Nat} {d d' : DS} {z m N N' nx : Nat} {T : ByteArray} {v v' : Value} {rs rs' : List (List UInt8)} {fell lf lf' : Bool} (h : StoMem w B u q p g cap d z m N T nx v rs fell lf) (hc : ChgS (LogS q p g v) w w') (hl : LogMem w' B q p g cap d' (2 * z) m N' v' rs' lf') (hv : ∀ k, v'.ownBlock = some k → v.ownBlock = some k ∨ w.heap.size ≤ k) :
    StoMem w' B u q p g cap d' z m N' T nx v' rs' fell lf' := by
  have h1 := h.log.lt
  have h2 := h.uq
  have h3 := h.pu
  refine ⟨hc.row h.blk ?_, hl, h.lo, h.pu, h.uq, fun k hk => ?_⟩
  · rintro (h | h4 | h | h4)
    · omega
    · omega
    · omega
    · exact h.apart u h4 rfl
  · rcases hv k hk with h4 | h4
    · exact h.apart k h4
    · omega

set_option maxHeartbeats 1600000 in
set_option maxRecDepth 100000 in
theorem seq_c (B u q p g cap : Nat) (d : DS) (z m N nx : Nat) (T : ByteArray) (v : Value) (rs : List (List UInt8)) (fell lf : Bool) (w : World) (h : StoMem w B u q p g cap d z m N T nx v rs fell lf) :
    Calls Tryz.prog 14 #[.pointer (some ⟨u, 0, none⟩)] w fun e w' => e = .returned (.int .i64 ((N + rs.length : Nat) : Int)) ∧ Same w w' := by
  have c4 := h.cells.2.2.2.2.1
  have hsz := h.log.sizes
  have hbs := h.log.base
  have hn := next_c B q p g cap d (2 * z) m N v rs lf w h.log
  have HN := Lib.hid hn
  clear hn h
  go_enter Tryz.func14, Tryz.ntmps14
  go_wp2_with fail
  refine (HN.out).mono ?_
  rintro e w1 ⟨he, h1⟩
  obtain ⟨X, he2, hX⟩ : ∃ X : Int, e = .returned (.int .i64 X) ∧ X = ((N + rs.length : Nat) : Int) + 1 := ⟨_, he, by omega⟩
  subst he2
  clear he
  have HX := Lib.hid hX
  have hXb : 1 ≤ X := by omega
  have hXc : X ≤ 2000000000 := by omega
  clear hX
  go_wp2_with fail
  go_ret
  exact ⟨ret_i (by have := HX.out; omega), h1⟩

set_option maxHeartbeats 1600000 in
set_option maxRecDepth 100000 in
theorem state_c (B u q p g cap : Nat) (d : DS) (z m N nx : Nat) (T : ByteArray) (v : Value) (rs : List (List UInt8)) (fell lf : Bool) (w : World) (h : StoMem w B u q p g cap d z m N T nx v rs fell lf) :
    Calls Tryz.prog 11 #[.pointer (some ⟨u, 0, none⟩)] w fun e w' => e = .returned (.string T) ∧ w = w' := by
  have c2 := h.cells.2.2.1
  clear h
  go_enter Tryz.func11, Tryz.ntmps11
  go_wp2_with fail
  go_ret
  exact ⟨rfl, rfl⟩

set_option maxHeartbeats 1600000 in
set_option maxRecDepth 100000 in
theorem srecs_c (B u q p g cap : Nat) (d : DS) (z m N nx : Nat) (T : ByteArray) (v : Value) (rs : List (List UInt8)) (fell lf : Bool) (w : World) (h : StoMem w B u q p g cap d z m N T nx v rs fell lf) :
    Calls Tryz.prog 13 #[.pointer (some ⟨u, 0, none⟩)] w fun e w' => (∃ v', e = .returned v' ∧ w'.ownsRow w.heap.size 9 1 v' rs.length (strVs rs)) ∧ Below w.heap.size w w' := by
  have c4 := h.cells.2.2.2.2.1
  have hr := records_c B q p g cap d (2 * z) m N v rs lf w h.log
  have HR := Lib.hid hr
  clear hr h
  go_enter Tryz.func13, Tryz.ntmps13
  go_wp2_with fail
  refine (HR.out).mono ?_
  rintro e w1 ⟨⟨v1, rfl, o1⟩, b1⟩
  have O1 := Lib.hid o1
  clear o1
  go_wp2_with fail
  go_ret
  exact ⟨⟨_, rfl, O1.out⟩, b1⟩

set_option maxHeartbeats 1600000 in
set_option maxRecDepth 100000 in
/-- No error: nothing is kept in mind. -/
theorem snote_nil (s : Nat → Addr) (B u q p g cap : Nat) (d : DS) (z m N nx : Nat) (T : ByteArray) (v : Value) (rs : List (List UInt8)) (fell lf : Bool) (w : World) (hs : Sent s w) (h : StoMem w B u q p g cap d z m N T nx v rs fell lf) :
    Calls Tryz.prog 35 #[.pointer (some ⟨u, 0, none⟩), .nilIface] w fun e w' => e = .returned .nilIface ∧ Same w w' := by
  have c5 := h.cells.2.2.2.2.2
  have f5 := frozen_of_heap h.blk 5
  have gD := (sent_err s w hs).2.2.2
  have HS := Lib.hid (Same.set (w := w) (j := 5) (x := .bool fell) h.blk rfl)
  have HN : Hid (∀ W, Calls Tryz.prog 28 #[.nilIface, .iface 157 (.pointer (some (s 13)))] W fun e w' => e = .returned (.bool false) ∧ W = w') := Lib.hid fun W => is_nil _ W
  clear h hs
  cases fell
  · go_enter Tryz.func35, Tryz.ntmps35
    go_wp2_with fail
    refine (HN.out _).mono ?_
    rintro e w1 ⟨rfl, rfl⟩
    go_wp2_with fail
    go_ret
    exact ⟨rfl, HS.out⟩
  · go_enter Tryz.func35, Tryz.ntmps35
    go_wp2_with fail
    go_ret
    exact ⟨rfl, HS.out⟩

set_option maxHeartbeats 1600000 in
set_option maxRecDepth 100000 in
/-- Another error than that of a lost power. -/
theorem snote_other (s : Nat → Addr) (B u q p g cap : Nat) (d : DS) (z m N nx : Nat) (T : ByteArray) (v : Value) (rs : List (List UInt8)) (fell lf : Bool) (k : Nat) (w : World) (hs : Sent s w) (h : StoMem w B u q p g cap d z m N T nx v rs fell lf) (hk : k < 14) (hne : k ≠ 13) :
    Calls Tryz.prog 35 #[.pointer (some ⟨u, 0, none⟩), .iface 157 (.pointer (some (s k)))] w fun e w' => e = .returned (.iface 157 (.pointer (some (s k)))) ∧ Same w w' := by
  have c5 := h.cells.2.2.2.2.2
  have f5 := frozen_of_heap h.blk 5
  have gD := (sent_err s w hs).2.2.2
  have HS := Lib.hid (Same.set (w := w) (j := 5) (x := .bool fell) h.blk rfl)
  have hn := is_sent s k 13 w hs hk (by omega)
  rw [decide_eq_false hne] at hn
  have HN := Lib.hid hn
  clear h hs hn
  cases fell
  · go_enter Tryz.func35, Tryz.ntmps35
    go_wp2_with fail
    refine (HN.out).mono ?_
    rintro e w1 ⟨rfl, rfl⟩
    go_wp2_with fail
    go_ret
    exact ⟨rfl, HS.out⟩
  · go_enter Tryz.func35, Tryz.ntmps35
    go_wp2_with fail
    go_ret
    exact ⟨rfl, HS.out⟩

set_option maxHeartbeats 1600000 in
set_option maxRecDepth 100000 in
/-- The power went. -/
theorem snote_down (s : Nat → Addr) (u p q z nx : Nat) (T : ByteArray) (fell : Bool) (w : World) (hs : Sent s w) (h : w.heap[u]? = some (.cells (stoV p q z T nx fell) 54 (0, 0))) :
    Calls Tryz.prog 35 #[.pointer (some ⟨u, 0, none⟩), .iface 157 (.pointer (some (s 13)))] w fun e w' => e = .returned (.iface 157 (.pointer (some (s 13)))) ∧ ChgS (fun k => k = u) w w' := by
  have c5 : w.cell? ⟨u, 5, none⟩ = some (.bool fell) := cell_of_heap h 5
  have f5 := frozen_of_heap h 5
  have gD := (sent_err s w hs).2.2.2
  have HS : Hid (ChgS (fun k => k = u) w (w.setCell ⟨u, 5, none⟩ (.bool true))) := Lib.hid ((ChgS.refl (fun k => k = u) w).setCell (ad := ⟨u, 5, none⟩) (.inl rfl) _)
  have hn := is_sent s 13 13 w hs (by omega) (by omega)
  rw [decide_eq_true rfl] at hn
  have HN := Lib.hid hn
  clear h hs hn
  cases fell
  · go_enter Tryz.func35, Tryz.ntmps35
    go_wp2_with fail
    refine (HN.out).mono ?_
    rintro e w1 ⟨rfl, rfl⟩
    go_wp2_with fail
    go_ret
    exact ⟨rfl, HS.out⟩
  · go_enter Tryz.func35, Tryz.ntmps35
    go_wp2_with fail
    go_ret
    exact ⟨rfl, HS.out⟩

set_option maxHeartbeats 1600000 in
set_option maxRecDepth 100000 in
/-- The snapshot that the blocks of an area hold. -/
theorem snapOf_c (s : Nat → Addr) (B c : Nat) (A : Option Addr) (zs : List ByteArray) (w : World) (hs : Sent s w) (hl : zs.length ≤ 9223372036854775807) (hc : zs.length ≤ c) (h : SRow w B A zs) (hB : B ≤ w.heap.size) :
    Calls Tryz.prog 41 #[.slice A zs.length c] w fun e w' => e = .returned (.agg #[.string (bst (snapF (rows zs)).2), .int .i64 ((snapF (rows zs)).1 : Int)]) ∧ Below w.heap.size w w' := by
  have HRD : Hid (∀ W, Below w.heap.size w W → Calls Tryz.prog 58 #[.slice A zs.length c] W fun e w' => ReadV s w' e (readF (rows zs)) ∧ Below W.heap.size W w') := Lib.hid fun W hW =>
    read_c s B c A zs W (hs.below hW (Nat.le_refl _)) hl hc (h.below hW hB) (Nat.le_trans hB hW.size)
  have HK : Hid (∀ w3, Below (w.alloc (.cells #[.string ⟨#[]⟩, .int .i64 0] 76)).heap.size (w.alloc (.cells #[.string ⟨#[]⟩, .int .i64 0] 76)) w3 → w3.heap[w.heap.size]? = some (.cells #[.string ⟨#[]⟩, .int .i64 0] 76 (0, 0)) ∧ Below w.heap.size w w3) := Lib.hid fun w3 hb =>
    ⟨(hb.block _ (by rw [World.size_alloc]; omega)).trans (heap_alloc_new w _), ((Below.refl _ w).alloc (Nat.le_refl _) _).trans (hb.mono (by rw [World.size_alloc]; omega))⟩
  clear hs h
  cases hr : readF (rows zs) with
  | error k =>
    rw [hr] at HRD
    rw [snapF_err hr]
    clear hr
    go_enter Tryz.func41, Tryz.ntmps41
    go_wp2_with fail
    refine (HRD.out _ (by (repeat' (first | (with_reducible exact Below.refl _ _) | (with_reducible refine below_drewN ?_ _) | (with_reducible refine Below.drew ?_) | (with_reducible refine Below.alloc ?_ ?_ _) | (with_reducible refine Below.setCell ?_ ?_ _) | (with_reducible refine Below.trans ?_ (Below.mono (by with_reducible assumption) ?_)) | omega | (simp only [World.size_alloc, World.size_setCell, World.size_drew, Go.Proofs.YtaibmdjcppeopaaGreatDoor.World.size_drewN] at *; omega) | (with_reducible refine Below.size (B := 0) ?_))))).mono ?_
    rintro e w3 ⟨⟨ev, he, gf, rfl, _⟩, b3⟩
    subst he
    obtain ⟨hk, hb⟩ := HK.out _ b3
    have c0 : w3.cell? ⟨w.heap.size, 0, none⟩ = some (.string ⟨#[]⟩) := cell_of_heap hk 0
    have c1 : w3.cell? ⟨w.heap.size, 1, none⟩ = some (.int .i64 0) := cell_of_heap hk 1
    have f0 := frozen_of_heap hk 0
    have f1 := frozen_of_heap hk 1
    have HB := Lib.hid hb
    have hsz := hb.size
    clear b3 hb
    go_wp2_with fail
    have e0 : ((w3.setCell ⟨w.heap.size, 0, none⟩ (.string ⟨#[]⟩)).setCell ⟨w.heap.size, 1, none⟩ (.int .i64 0)).cell? ⟨w.heap.size, 0, none⟩ = some (.string ⟨#[]⟩) := cell_of_heap (set_cells (set_cells hk)) 0
    have e1 : ((w3.setCell ⟨w.heap.size, 0, none⟩ (.string ⟨#[]⟩)).setCell ⟨w.heap.size, 1, none⟩ (.int .i64 0)).cell? ⟨w.heap.size, 1, none⟩ = some (.int .i64 0) := cell_of_heap (set_cells (set_cells hk)) 1
    refine bodyPost_ret (v := .agg #[.string ⟨#[]⟩, .int .i64 0]) (by simp [results, Tryz.results41, go_sem, e0, e1]) rfl ⟨rfl, (HB.out.setCell (Nat.le_refl _) _).setCell (Nat.le_refl _) _⟩
  | ok r =>
    obtain ⟨x, q, n⟩ := r
    rw [hr] at HRD
    rw [snapF_ok hr]
    clear hr
    go_enter Tryz.func41, Tryz.ntmps41
    go_wp2_with fail
    refine (HRD.out _ (by (repeat' (first | (with_reducible exact Below.refl _ _) | (with_reducible refine below_drewN ?_ _) | (with_reducible refine Below.drew ?_) | (with_reducible refine Below.alloc ?_ ?_ _) | (with_reducible refine Below.setCell ?_ ?_ _) | (with_reducible refine Below.trans ?_ (Below.mono (by with_reducible assumption) ?_)) | omega | (simp only [World.size_alloc, World.size_setCell, World.size_drew, Go.Proofs.YtaibmdjcppeopaaGreatDoor.World.size_drewN] at *; omega) | (with_reducible refine Below.size (B := 0) ?_))))).mono ?_
    rintro e w3 ⟨he, b3⟩
    have he : e = _ := he
    subst he
    obtain ⟨hk, hb⟩ := HK.out _ b3
    have c0 : w3.cell? ⟨w.heap.size, 0, none⟩ = some (.string ⟨#[]⟩) := cell_of_heap hk 0
    have c1 : w3.cell? ⟨w.heap.size, 1, none⟩ = some (.int .i64 0) := cell_of_heap hk 1
    have f0 := frozen_of_heap hk 0
    have f1 := frozen_of_heap hk 1
    have HB := Lib.hid hb
    clear b3 hb
    go_wp2_with fail
    have e0 : ((w3.setCell ⟨w.heap.size, 0, none⟩ (.string (bst x))).setCell ⟨w.heap.size, 1, none⟩ (.int .i64 (q : Int))).cell? ⟨w.heap.size, 0, none⟩ = some (.string (bst x)) := cell_of_heap (set_cells (set_cells hk)) 0
    have e1 : ((w3.setCell ⟨w.heap.size, 0, none⟩ (.string (bst x))).setCell ⟨w.heap.size, 1, none⟩ (.int .i64 (q : Int))).cell? ⟨w.heap.size, 1, none⟩ = some (.int .i64 (q : Int)) := cell_of_heap (set_cells (set_cells hk)) 1
    refine bodyPost_ret (v := .agg #[.string (bst x), .int .i64 (q : Int)]) (by simp [results, Tryz.results41, go_sem, e0, e1]) rfl ⟨rfl, (HB.out.setCell (Nat.le_refl _) _).setCell (Nat.le_refl _) _⟩
end Go.Proofs.YtaibmdjcppeopaaGreatDoor

/- Contract of a store's load: the state that the two areas tell. Conditions: the sentinels lie as the program's text lays them; the disk lies in memory, there is power. -/
namespace Go.Proofs.YtaibmdjcppeopaaGreatDoor
open Go Go.RowKit

/-- The cells of a store that was made just now. -/
def stoV0 (p z : Nat) : Array Value := #[.pointer (some ⟨p, 0, none⟩), .int .i64 (z : Int), .string ⟨#[]⟩, .int .i64 0, .pointer none, .bool false]
/-- The cells of a store whose areas were read. -/
def stoV1 (p z : Nat) (T : ByteArray) (nx : Nat) : Array Value := #[.pointer (some ⟨p, 0, none⟩), .int .i64 (z : Int), .string T, .int .i64 (nx : Int), .pointer none, .bool false]
/-- What load leaves. -/
def SLoaded (w : World) (u p z N nx : Nat) (T : List UInt8) (e : Ending) (w' : World) : Prop :=
  e = .returned (.tuple #[.int .i64 (N : Int), .nilIface]) ∧ w'.heap[u]? = some (.cells (stoV1 p z (bst T) nx) 54 (0, 0)) ∧ ChgS (fun k => k = u) w w'

theorem SLoaded.drew {w : World} {u p z N nx : Nat} {T : List UInt8} {e : Ending} {w' : World} (h : SLoaded w u p z N nx T e w') : SLoaded w u p z N nx T e w'.drew := ⟨h.1, h.2.1, h.2.2.drew⟩
/-- A fresh variable for a snapshot. -/
def SnB (W : World) (k : Nat) : Prop := W.heap[k]? = some (.cells #[.string ⟨#[]⟩, .int .i64 0] 76 (0, 0))
theorem SnB.new (W : World) : SnB (W.alloc (.cells #[.string ⟨#[]⟩, .int .i64 0] 76)) W.heap.size := heap_alloc_new W _
theorem SnB.new2 (W : World) (o : Obj) : SnB ((W.alloc o).alloc (.cells #[.string ⟨#[]⟩, .int .i64 0] 76)) (W.heap.size + 1) := by
  have h := heap_alloc_new (W.alloc o) (.cells #[.string ⟨#[]⟩, .int .i64 0] 76)
  rw [World.size_alloc] at h
  exact h
theorem SnB.lt {W : World} {k : Nat} (h : SnB W k) : k < W.heap.size := lt_of_block h
theorem SnB.alloc {W : World} {k : Nat} (h : SnB W k) (o : Obj) : SnB (W.alloc o) k := (Below.heap_alloc W o k h.lt).trans h
theorem SnB.on {W w' : World} {k : Nat} (hb : Below W.heap.size W w') (h : SnB W k) : SnB w' k := (hb.block k h.lt).trans h
theorem SnB.facts {W : World} {k : Nat} (h : SnB W k) : W.cell? ⟨k, 0, none⟩ = some (.string ⟨#[]⟩) ∧ W.cell? ⟨k, 1, none⟩ = some (.int .i64 0) ∧ W.frozen? ⟨k, 0, none⟩ = false ∧ W.frozen? ⟨k, 1, none⟩ = false :=
  ⟨cell_of_heap h 0, cell_of_heap h 1, frozen_of_heap h 0, frozen_of_heap h 1⟩
/-- Two snapshots in variables of their own. -/
def Snap2 (w : World) (A B : Nat × List UInt8) (x y : Value) (W : World) : Prop :=
  ∃ k l : Nat, x = .pointer (some ⟨k, 0, none⟩) ∧ y = .pointer (some ⟨l, 0, none⟩) ∧ w.heap.size ≤ k ∧ w.heap.size ≤ l ∧ W.heap[k]? = some (.cells #[.string (bst A.2), .int .i64 (A.1 : Int)] 76 (0, 0)) ∧ W.heap[l]? = some (.cells #[.string (bst B.2), .int .i64 (B.1 : Int)] 76 (0, 0)) ∧ Below w.heap.size w W

/-- A snapshot's variable. -/
def SnF (W : World) (k : Nat) (a b : Value) : Prop := W.heap[k]? = some (.cells #[a, b] 76 (0, 0))
theorem SnF.lt {W : World} {k : Nat} {a b : Value} (h : SnF W k a b) : k < W.heap.size := lt_of_block h
theorem SnF.new (W : World) (a b : Value) : SnF (W.alloc (.cells #[a, b] 76)) W.heap.size a b := heap_alloc_new W _
theorem SnF.new2 (W : World) (o : Obj) (a b : Value) : SnF ((W.alloc o).alloc (.cells #[a, b] 76)) (W.heap.size + 1) a b := by
  have h := heap_alloc_new (W.alloc o) (.cells #[a, b] 76)
  rw [World.size_alloc] at h
  exact h
theorem SnF.newS (W : World) (p q : Addr) (x y a b : Value) : SnF (((W.setCell p x).setCell q y).alloc (.cells #[a, b] 76)) W.heap.size a b := by
  have h := heap_alloc_new ((W.setCell p x).setCell q y) (.cells #[a, b] 76)
  rw [World.size_setCell, World.size_setCell] at h
  exact h
theorem SnF.alloc {W : World} {k : Nat} {a b : Value} (h : SnF W k a b) (o : Obj) : SnF (W.alloc o) k a b := (Below.heap_alloc W o k h.lt).trans h
theorem SnF.set {W : World} {k : Nat} {a b : Value} (h : SnB W k) : SnF ((W.setCell ⟨k, 0, none⟩ a).setCell ⟨k, 1, none⟩ b) k a b := by
  unfold SnF
  rw [set_cells (set_cells h)]; rfl
theorem SnF.other {W : World} {k l : Nat} {a b x y : Value} (h : SnF W k a b) (hne : k ≠ l) : SnF ((W.setCell ⟨l, 0, none⟩ x).setCell ⟨l, 1, none⟩ y) k a b := (Below.heap_setCell _ ⟨l, 1, none⟩ _ k hne).trans ((Below.heap_setCell W ⟨l, 0, none⟩ _ k hne).trans h)
theorem SnB.other {W : World} {k l : Nat} {x y : Value} (h : SnB W k) (hne : k ≠ l) : SnB ((W.setCell ⟨l, 0, none⟩ x).setCell ⟨l, 1, none⟩ y) k := (Below.heap_setCell _ ⟨l, 1, none⟩ _ k hne).trans ((Below.heap_setCell W ⟨l, 0, none⟩ _ k hne).trans h)

set_option maxHeartbeats 6400000 in
set_option maxRecDepth 100000 in
theorem sload_c (s : Nat → Addr) (u p g cap : Nat) (d : DS) (z N nx : Nat) (T : List UInt8) (w : World) (hs : Sent s w) (hblk : w.heap[u]? = some (.cells (stoV0 p z) 54 (0, 0))) (hd : DiskAt w p g cap d) (_hpu : p < u)
    (hz : 0 < z) (hz2 : z ≤ 108) (hfit : 2 * z ≤ d.n) (ho : d.on = true) (ht : Tells7 d z N nx T) :
    Calls Tryz.prog 26 #[.pointer (some ⟨u, 0, none⟩)] w fun e w' => SLoaded w u p z N nx T e w' := by
  have c0 : w.cell? ⟨u, 0, none⟩ = some (.pointer (some ⟨p, 0, none⟩)) := cell_of_heap hblk 0
  have c1 : w.cell? ⟨u, 1, none⟩ = some (.int .i64 (z : Int)) := cell_of_heap hblk 1
  have hul := lt_of_block hblk
  have hCEL := Lib.hid (Cel.mk2 c0 c1)
  have HC1 : Hid (∀ W, Below w.heap.size w W → Cel W u [(0, .pointer (some ⟨p, 0, none⟩)), (1, .int .i64 (z : Int))]) := Lib.hid fun W hW =>
    Cel.mk2 ((hW.cell (p := ⟨u, 0, none⟩) hul).trans c0) ((hW.cell (p := ⟨u, 1, none⟩) hul).trans c1)
  have HRG : Hid (∀ W : World, Same w W → Calls Tryz.prog 40 #[.pointer (some ⟨p, 0, none⟩), .int .i64 0, .int .i64 (2 * (z : Int))] W fun e w' => (∃ v, e = .returned (.tuple #[v, .nilIface]) ∧ w'.ownsRow w.heap.size 9 1 v (2 * z) (strVs (rowsD d 0 (2 * z)))) ∧ Below w.heap.size w w') := Lib.hid fun W hW => by
    have h1 := rget_c s p g cap d 0 (2 * z) 0 (2 * (z : Int)) W (hs.below (hW.below _) (Nat.le_refl _)) (hd.still hW) rfl (by omega) (by omega) ho
    rw [hW.size] at h1
    refine h1.mono ?_
    rintro e w' ⟨hv, hb'⟩
    exact ⟨hv, (hW.below _).trans hb'⟩
  have HSM := Lib.hid (Same.refl w)
  have HS := Lib.hid hs; have HD := Lib.hid hd; have HT := Lib.hid ht; have HB := Lib.hid hblk
  have hwz : IntKind.i64.wrap (2 * (z : Int)) = 2 * (z : Int) := IntWalk.i64_in _ (by omega)
  clear hs hd ht hblk
  go_enter Tryz.func26, Tryz.ntmps26
  go_wp2_with fail
  go_region_held3 (fun W => W.cell? ⟨u, 0, none⟩ = some (.pointer (some ⟨p, 0, none⟩)) ∧ W.cell? ⟨u, 1, none⟩ = some (.int .i64 (z : Int)))
    (exact Cel.two (by (repeat' (first | (with_reducible assumption) | (with_reducible exact Hid.out (by with_reducible assumption)) | (with_reducible refine Cel.drewN ?_ _) | (with_reducible refine Cel.drew ?_)))))
    (first
      | (go_at_call 40; (with_reducible refine (HRG.out _ (by (repeat' (first | (with_reducible assumption) | (with_reducible exact Hid.out (by with_reducible assumption)) | (with_reducible refine Same.thenN ?_ _) | (with_reducible refine Same.thenD ?_) | (with_reducible refine Same.refl _))))).mono ?_); rintro e wr ⟨⟨bl, rfl, hown⟩, hb⟩; have c5 : Cel wr u [(0, .pointer (some ⟨p, 0, none⟩)), (1, .int .i64 (z : Int))] := HC1.out _ hb))
  obtain ⟨gb, c, hbl, hcc, hsr, hlen⟩ := own_srow hown (by omega)
  subst hbl
  have hgb := (hown.lt gb rfl).1
  have hgl := (hown.lt gb rfl).2
  rw [rowsD_len] at hcc
  have hr0 : ((rowsD d 0 (2 * z)).map bst).take z = (rowsD d 0 z).map bst := by
    rw [← List.map_take, show 2 * z = z + z by omega, rowsD_app, List.take_left' (rowsD_len _ _ _)]
  have hr1 : ((rowsD d 0 (2 * z)).map bst).drop z = (rowsD d z z).map bst := by
    rw [← List.map_drop, show 2 * z = z + z by omega, rowsD_app, List.drop_left' (rowsD_len _ _ _), Nat.zero_add]
  have hA := hsr.take z
  have hBz := hsr.at_end (n := z) (by rw [List.length_map, rowsD_len]; omega)
  rw [hr0] at hA
  rw [hr1, Nat.zero_add] at hBz
  obtain ⟨SA, hSA⟩ : ∃ SA, snapF (rowsD d 0 z) = SA := ⟨_, rfl⟩
  obtain ⟨SB, hSB⟩ : ∃ SB, snapF (rowsD d z z) = SB := ⟨_, rfl⟩
  have HA : Hid (∀ W, Below wr.heap.size wr W → Calls Tryz.prog 41 #[.slice (some ⟨gb, 0, none⟩) z c] W fun e w' => e = .returned (.agg #[.string (bst SA.2), .int .i64 (SA.1 : Int)]) ∧ Below W.heap.size W w') := Lib.hid fun W hW => by
    have h := snapOf_c s wr.heap.size c (some ⟨gb, 0, none⟩) ((rowsD d 0 z).map bst) W (HS.out.below (hb.trans (hW.mono hb.size)) (Nat.le_refl _)) (by rw [List.length_map, rowsD_len]; omega) (by rw [List.length_map, rowsD_len]; omega) (hA.below hW (Nat.le_refl _)) hW.size
    rw [List.length_map, rowsD_len, rows_bst, hSA] at h
    exact h
  have HB2 : Hid (∀ W, Below wr.heap.size wr W → Calls Tryz.prog 41 #[.slice (some ⟨gb, z, none⟩) (2 * z - z) (c - z)] W fun e w' => e = .returned (.agg #[.string (bst SB.2), .int .i64 (SB.1 : Int)]) ∧ Below W.heap.size W w') := Lib.hid fun W hW => by
    rw [show 2 * z - z = z by omega]
    have h := snapOf_c s wr.heap.size (c - z) (some ⟨gb, z, none⟩) ((rowsD d z z).map bst) W (HS.out.below (hb.trans (hW.mono hb.size)) (Nat.le_refl _)) (by rw [List.length_map, rowsD_len]; omega) (by rw [List.length_map, rowsD_len]; omega) (hBz.below hW (Nat.le_refl _)) hW.size
    rw [List.length_map, rowsD_len, rows_bst, hSB] at h
    exact h
  have d1 : wr.cell? ⟨u, 1, none⟩ = some (.int .i64 (z : Int)) := (Cel.two c5).2
  have hulr : u < wr.heap.size := Nat.lt_of_lt_of_le hul hb.size
  have HCW : Hid (∀ W, Below wr.heap.size wr W → W.cell? ⟨u, 1, none⟩ = some (.int .i64 (z : Int))) := Lib.hid fun W hW => (hW.cell (p := ⟨u, 1, none⟩) hulr).trans d1
  have HBR := Lib.hid hb
  have z0 : (0 : Int) ≤ (z : Int) := by omega
  have z1 : (z : Int) ≤ 2 * (z : Int) := by omega
  have z2 : (z : Int) ≤ (c : Int) := by omega
  rw [rowsD_len]
  have HSA := Lib.hid hSA; have HSB := Lib.hid hSB
  clear hlen hSA hSB hown hb hsr hA hBz hr0 hr1 c5 hCEL HC1 HRG HSM c0 c1
  go_upto_region 4 with fail
  go_cut [6, 7] (fun x y wx => Snap2 wr SA SB x y wx)
  case first =>
    go_region_held3 (fun W => W.cell? ⟨u, 1, none⟩ = some (.int .i64 (z : Int)))
      (exact HCW.out _ (by (repeat' (first | (with_reducible exact Below.refl _ _) | (with_reducible refine below_drewN ?_ _) | (with_reducible refine Below.drew ?_) | (with_reducible refine Below.alloc ?_ ?_ _) | (with_reducible refine Below.setCell ?_ ?_ _) | (with_reducible refine Below.trans ?_ (Below.mono (by with_reducible assumption) ?_)) | omega | (simp only [World.size_alloc, World.size_setCell, World.size_drew] at *; omega) | (with_reducible refine Below.size (B := 0) ?_)))))
      (first
        | (go_at_call 41; (with_reducible refine (HA.out _ (by (repeat' (first | (with_reducible exact Below.refl _ _) | (with_reducible refine below_drewN ?_ _) | (with_reducible refine Below.drew ?_) | (with_reducible refine Below.alloc ?_ ?_ _) | (with_reducible refine Below.setCell ?_ ?_ _) | (with_reducible refine Below.trans ?_ (Below.mono (by with_reducible assumption) ?_)) | omega | (simp only [World.size_alloc] at *; omega) | (with_reducible refine Below.size (B := 0) ?_))))).mono ?_); rintro e w5 ⟨rfl, b5⟩; have s5 := b5.size; (try simp only [World.size_alloc, World.size_drew] at s5); (first | (have p1 := SnB.on b5 (SnB.alloc (SnB.new _) _); have p2 := SnB.on b5 (SnB.new2 _ _)) | have p1 := SnB.on b5 (SnB.new _) | skip); (first | (have p1l := SnB.lt p1; have q9 := SnB.facts p1; obtain ⟨p1a, p1b, p1c, p1d⟩ := q9) | skip); (first | (have p2l := SnB.lt p2; have q9 := SnB.facts p2; obtain ⟨p2a, p2b, p2c, p2d⟩ := q9) | skip))
        | (go_at_call 41; (with_reducible refine (HB2.out _ (by (repeat' (first | (with_reducible exact Below.refl _ _) | (with_reducible refine below_drewN ?_ _) | (with_reducible refine Below.drew ?_) | (with_reducible refine Below.alloc ?_ ?_ _) | (with_reducible refine Below.setCell ?_ ?_ _) | (with_reducible refine Below.trans ?_ (Below.mono (by with_reducible assumption) ?_)) | omega | (simp only [World.size_alloc, World.size_drew] at *; omega) | (with_reducible refine Below.size (B := 0) ?_))))).mono ?_); rintro e w6 ⟨rfl, b6⟩; have s6 := b6.size; (try simp only [World.size_alloc] at s6); (first | have p1 := SnB.on b6 p1 | have p1 := SnB.on b6 (SnB.alloc p1 _) | have p1 := SnB.on b6 (SnB.alloc (SnB.alloc p1 _) _) | skip); (first | have p2 := SnB.on b6 p2 | have p2 := SnB.on b6 (SnB.alloc p2 _) | have p2 := SnB.on b6 (SnB.alloc (SnB.alloc p2 _) _) | skip); (first | (have r1 := SnB.on b6 (SnB.alloc (SnB.new _) _); have r2 := SnB.on b6 (SnB.new2 _ _)) | have r1 := SnB.on b6 (SnB.new _) | skip); (first | (have p1l := SnB.lt p1; have q9 := SnB.facts p1; obtain ⟨p1a, p1b, p1c, p1d⟩ := q9) | skip); (first | (have p2l := SnB.lt p2; have q9 := SnB.facts p2; obtain ⟨p2a, p2b, p2c, p2d⟩ := q9) | skip); (first | (have r1l := SnB.lt r1; have q9 := SnB.facts r1; obtain ⟨r1a, r1b, r1c, r1d⟩ := q9) | skip); (first | (have r2l := SnB.lt r2; have q9 := SnB.facts r2; obtain ⟨r2a, r2b, r2c, r2d⟩ := q9) | skip)))
    all_goals go_wp2_with fail
    all_goals go_meet
    all_goals refine ⟨_, _, rfl, rfl, ?_, ?_, ?_, ?_, ?_⟩
    all_goals first
      | omega
      | (show SnF _ _ _ _; repeat' (first | (with_reducible assumption) | (with_reducible exact SnF.new _ _ _) | (with_reducible exact SnF.new2 _ _ _ _) | (with_reducible exact SnF.newS _ _ _ _ _ _ _) | (with_reducible refine SnF.alloc ?_ _) | (with_reducible refine SnF.set ?_) | (with_reducible refine SnF.other ?_ ?_) | (with_reducible refine SnB.other ?_ ?_) | (with_reducible refine SnB.alloc ?_ _) | omega))
      | ((repeat' (first | (with_reducible exact Below.refl _ _) | (with_reducible refine below_drewN ?_ _) | (with_reducible refine Below.drew ?_) | (with_reducible refine Below.alloc ?_ ?_ _) | (with_reducible refine Below.setCell ?_ ?_ _) | (with_reducible refine Below.trans ?_ (Below.mono (by with_reducible assumption) ?_)) | omega | (simp only [World.size_alloc, World.size_setCell, World.size_drew] at *; omega) | (with_reducible refine Below.size (B := 0) ?_))))
  case rest =>
    obtain ⟨k, l, rfl, rfl, hk, hl, h6, h7, hbX⟩ := hcut
    have e60 := cell_of_heap h6 0
    have e61 := cell_of_heap h6 1
    have e70 := cell_of_heap h7 0
    have e71 := cell_of_heap h7 1
    have hub : wc.heap[u]? = some (.cells (stoV0 p z) 54 (0, 0)) := (hbX.block u hulr).trans ((HBR.out.block u hul).trans HB.out)
    have c1 : wc.cell? ⟨u, 1, none⟩ = some (.int .i64 (z : Int)) := cell_of_heap hub 1
    have c2 : wc.cell? ⟨u, 2, none⟩ = some (.string ⟨#[]⟩) := cell_of_heap hub 2
    have c3 : wc.cell? ⟨u, 3, none⟩ = some (.int .i64 0) := cell_of_heap hub 3
    have f2 := frozen_of_heap hub 2
    have f3 := frozen_of_heap hub 3
    have hne1 : ¬ k = u := by omega
    have hne2 : ¬ l = u := by omega
    have hne3 : ¬ u = k := by omega
    have hne4 : ¬ u = l := by omega
    have hsel : selF z SA SB = (N, T, nx) := by
      have := HT.out
      unfold Tells7 at this
      rw [HSA.out, HSB.out] at this
      exact this
    have HBX : Hid (Below w.heap.size w wc) := Lib.hid (HBR.out.trans (hbX.mono HBR.out.size))
    have HF : Hid (∀ (W : World) (e : Ending) (x y : Value) (n : Nat), Same wc W → e = .returned (.tuple #[.int .i64 (n : Int), .nilIface]) → x = .string (bst T) → y = .int .i64 (nx : Int) → n = N → SLoaded w u p z N nx T e ((W.setCell ⟨u, 2, none⟩ x).setCell ⟨u, 3, none⟩ y)) := Lib.hid fun W e x y n hW he hx hy hn => by
      subst he; subst hx; subst hy; subst hn
      have hub := (hW.block u).trans hub
      refine ⟨rfl, ?_, ((ChgS.of_below (S := fun k => k = u) (HBX.out.trans (hW.below _))).setCell (ad := ⟨u, 2, none⟩) (.inl rfl) _).setCell (ad := ⟨u, 3, none⟩) (.inl rfl) _⟩
      rw [set_cells (set_cells hub)]; rfl
    have HF0 : Hid (T = [] → nx = 0 → ∀ n : Nat, n = N → SLoaded w u p z N nx T (.returned (.tuple #[.int .i64 (n : Int), .nilIface])) wc) := Lib.hid fun hT hx n hn => by
      subst hT; subst hx; subst hn
      exact ⟨rfl, hub, ChgS.of_below HBX.out⟩
    clear hub hbX HBR HCW HA HB2 HSA HSB HT HB h6 h7 d1
    unfold selF at hsel
    by_cases hlt : SA.1 < SB.1
    · rw [if_pos hlt] at hsel
      simp only [Prod.mk.injEq] at hsel
      obtain ⟨rfl, rfl, rfl⟩ := hsel
      have hlt2 : (SA.1 : Int) < (SB.1 : Int) := by omega
      go_wp2_with fail
      go_ret2
      exact HF.out _ _ _ _ _ (by first | exact Same.refl _ | exact Same.drew _ | exact ⟨rfl, rfl, rfl, rfl, fun _ => rfl⟩) rfl rfl rfl rfl
    · rw [if_neg hlt] at hsel
      have hlt2 : ¬ (SA.1 : Int) < (SB.1 : Int) := by omega
      by_cases h0 : 0 < SA.1
      · rw [if_pos h0] at hsel
        simp only [Prod.mk.injEq] at hsel
        obtain ⟨rfl, rfl, rfl⟩ := hsel
        have h02 : (0 : Int) < (SA.1 : Int) := by omega
        go_wp2_with fail
        go_region
        all_goals go_wp2_with fail
        all_goals go_ret2
        all_goals exact SLoaded.drew (HF.out _ _ _ _ _ (Same.refl _) rfl rfl rfl rfl)
      · rw [if_neg h0] at hsel
        simp only [Prod.mk.injEq] at hsel
        obtain ⟨h1, h2, h3⟩ := hsel
        have h02 : ¬ (0 : Int) < (SA.1 : Int) := by omega
        have HX := Lib.hid (HF0.out h2.symm h3.symm SA.1 h1)
        clear h1 h2 h3
        go_wp2_with fail
        go_ret2
        exact HX.out
end Go.Proofs.YtaibmdjcppeopaaGreatDoor

/- Plain arithmetic of a store that lost its power: what can't be read any more, and what it tells when it is opened again. No program, no conditions. -/
namespace Go.Proofs.YtaibmdjcppeopaaGreatDoor
open Go

/-- A row whose first block has a number below M. -/
def LowR (M : Nat) (l : List (List UInt8)) : Prop := ∀ b, l[0]? = some b → seqOf b < M
/-- A row whose first frame lacks a block. -/
def TrnR (l : List (List UInt8)) : Prop := ∃ nn j, 1 ≤ nn ∧ nn ≤ 108 ∧ j < nn ∧ (∀ b, l[0]? = some b → b.drop 62 = leB 2 nn ∨ b.drop 62 = [0, 0]) ∧ ∀ b, l[j]? = some b → b.drop 62 = [0, 0]
/-- Neither begins with a frame of a number M or above, nor does what a wiping leaves of it. -/
def Dead (M : Nat) (l : List (List UInt8)) : Prop := LowR M l ∨ TrnR l

theorem trail_two {b : List UInt8} {q i n : Nat} (h : b.drop 56 = trailF q i n) : b.drop 62 = leB 2 n := by
  have h1 : b.drop 62 = (b.drop 56).drop 6 := by rw [List.drop_drop]
  rw [h1, h]
  unfold trailF
  exact drop_appF (by rw [List.length_append, leB_len, leB_len])
theorem read_blk {l : List (List UInt8)} {x : List UInt8} {q n : Nat} (h : readF l = .ok (x, q, n)) : 1 ≤ q ∧ q ≤ 2147483647 ∧ 1 ≤ n ∧ n ≤ 108 ∧ ∀ i, i < n → ∃ b, l[i]? = some b ∧ b.length = 64 ∧ b.drop 56 = trailF q i n := by
  obtain ⟨h1, h2, h3, h4, h5⟩ := readF_is h
  have hn := nblk_bd h3
  rw [← h4] at hn
  refine ⟨h1, h2, hn.1, hn.2, fun i hi => ?_⟩
  have hf := framesF_get q x i (by omega)
  rw [← h5, List.getElem?_take_of_lt hi, ← h4] at hf
  exact ⟨_, hf, blkF_len (by rw [payF_len, ← h4]) hi, blkF_drop (by rw [payF_len, ← h4]) hi⟩
theorem two_zero {n : Nat} (h0 : 1 ≤ n) (h1 : n ≤ 108) : leB 2 n ≠ [0, 0] := fun h => by
  have : n = 0 := leB_inj (k := 2) (by rw [show (256 : Nat) ^ 2 = 65536 from rfl]; omega) (by decide) (h.trans (leB_zero 2).symm)
  omega
theorem dead_read {M : Nat} {l : List (List UInt8)} (hd : Dead M l) {x : List UInt8} {q n : Nat} (h : readF l = .ok (x, q, n)) : q < M := by
  obtain ⟨h1, h2, h3, h4, h5⟩ := read_blk h
  obtain ⟨b, hb, _, ht⟩ := h5 0 (by omega)
  rcases hd with hl | ⟨nn, j, n1, n2, hj, hz, hjz⟩
  · have := hl b hb
    rwa [trail_seq ht (by rw [show (256 : Nat) ^ 4 = 4294967296 from rfl]; omega)] at this
  · exfalso
    have e := trail_two ht
    have hnn : n = nn := by
      rcases hz b hb with h | h
      · exact leB_inj (k := 2) (by rw [show (256 : Nat) ^ 2 = 65536 from rfl]; omega) (by rw [show (256 : Nat) ^ 2 = 65536 from rfl]; omega) (e.symm.trans h)
      · exact absurd (e.symm.trans h) (two_zero h3 h4)
    obtain ⟨c, hc, _, hct⟩ := h5 j (by omega)
    exact absurd ((trail_two hct).symm.trans (hjz c hc)) (two_zero h3 h4)
theorem dead_snap {M : Nat} {l : List (List UInt8)} (hd : Dead M l) (hM : 1 ≤ M) : (snapF l).1 < M := by
  rcases snapF_cases l with ⟨x, q, n, h, e, _⟩ | ⟨e, _⟩
  · rw [e]; exact dead_read hd h
  · rw [e]; exact hM
theorem dead_next {b : Nat} {l : List (List UInt8)} (hd : Dead (b + 1) l) : nextF l b = none := by
  unfold nextF
  cases h : readF l with
  | error k => rfl
  | ok r =>
    obtain ⟨x, q, n⟩ := r
    have := dead_read hd h
    exact if_neg (by omega)
theorem seq_zero : seqOf zeroF = 0 := by decide +kernel
theorem dead_zero {M : Nat} {l : List (List UInt8)} (hM : 0 < M) (h : l[0]? = some zeroF) : Dead M l := .inl fun b hb => by
  rw [h] at hb
  rw [← Option.some.inj hb, seq_zero]; exact hM
theorem dead_nil (M : Nat) : Dead M [] := .inl fun b hb => by cases hb
theorem dead_zeros {M k : Nat} (hM : 0 < M) : Dead M (List.replicate k zeroF) := by
  cases k with
  | zero => exact dead_nil M
  | succ k => exact dead_zero hM rfl
theorem low_mono {M M' : Nat} {l : List (List UInt8)} (h : LowR M l) (hM : M ≤ M') : LowR M' l := fun b hb => Nat.lt_of_lt_of_le (h b hb) hM

theorem val_wipe : ∀ (l : List UInt8) (s : Nat), s ≤ l.length → valB (List.replicate s 0 ++ l.drop s) ≤ valB l
  | l, 0, _ => by simp
  | [], s + 1, h => by simp at h
  | x :: l, s + 1, h => by
    have := val_wipe l s (by simpa using h)
    rw [List.replicate_succ, List.cons_append, List.drop_succ_cons, valB, valB]
    have h0 : (0 : UInt8).toNat = 0 := rfl
    omega
theorem wiped_seq {b : List UInt8} {t : Nat} (hb : b.length = 64) (ht : t ≤ 64) : seqOf (List.replicate t 0 ++ b.drop t) ≤ seqOf b := by
  unfold seqOf
  by_cases h : t ≤ 56
  · rw [List.drop_append, List.drop_of_length_le (by simp; omega), List.nil_append, List.length_replicate, List.drop_drop, show t + (56 - t) = 56 by omega]
    exact Nat.le_refl _
  · obtain ⟨s, rfl⟩ : ∃ s, t = 56 + s := ⟨t - 56, by omega⟩
    have e : (List.replicate (56 + s) (0 : UInt8) ++ b.drop (56 + s)).drop 56 = List.replicate s 0 ++ (b.drop 56).drop s := by
      rw [List.drop_append, List.drop_replicate, List.length_replicate, show 56 + s - 56 = s by omega, show 56 - (56 + s) = 0 by omega, List.drop_zero, List.drop_drop]
    rw [e]
    by_cases h4 : s ≤ 4
    · have e2 : (List.replicate s (0 : UInt8) ++ (b.drop 56).drop s).take 4 = List.replicate s 0 ++ ((b.drop 56).take 4).drop s := by
        rw [List.take_append, List.take_of_length_le (by simp; omega), List.length_replicate, List.drop_take]
      rw [e2]
      exact val_wipe _ _ (by simp; omega)
    · rw [List.take_append_of_le_length (by simp; omega), List.take_replicate, val_zeros]
      exact Nat.zero_le _
theorem wiped_two {b : List UInt8} {t : Nat} (hb : b.length = 64) (ht : t ≤ 64) (hz : (b.drop 62).drop 1 = [0]) : (List.replicate t 0 ++ b.drop t).drop 62 = b.drop 62 ∨ (List.replicate t 0 ++ b.drop t).drop 62 = [0, 0] := by
  by_cases h : t ≤ 62
  · left
    rw [List.drop_append, List.drop_of_length_le (by simp; omega), List.nil_append, List.length_replicate, List.drop_drop, show t + (62 - t) = 62 by omega]
  · right
    rw [List.drop_drop] at hz
    obtain rfl | rfl : t = 63 ∨ t = 64 := by omega
    · rw [show List.drop 63 b = [0] from hz]; rfl
    · rw [List.drop_of_length_le (i := 64) (by omega)]; rfl
theorem two_low {n : Nat} (h : n ≤ 108) : (leB 2 n).drop 1 = [0] := by
  show [UInt8.ofNat (n / 256 % 256)] = [0]
  rw [show n / 256 % 256 = 0 by omega]; rfl
/-- The first block is wiped in part. -/
theorem dead_wipe {M t : Nat} {l l' : List (List UInt8)} {b : List UInt8} (hd : Dead M l) (hb : l[0]? = some b) (h64 : b.length = 64) (ht : t ≤ 64) (h0 : l'[0]? = some (List.replicate t 0 ++ b.drop t)) (hs : ∀ i, 0 < i → l'[i]? = l[i]?) : Dead M l' := by
  rcases hd with hl | ⟨nn, j, n1, n2, hj, hz, hjz⟩
  · left
    intro c hc
    rw [h0] at hc
    rw [← Option.some.inj hc]
    exact Nat.lt_of_le_of_lt (wiped_seq h64 ht) (hl b hb)
  · right
    have hb1 : (b.drop 62).drop 1 = [0] := by
      rcases hz b hb with h | h
      · rw [h]; exact two_low n2
      · rw [h]; rfl
    refine ⟨nn, j, n1, n2, hj, fun c hc => ?_, fun c hc => ?_⟩
    · rw [h0] at hc
      rw [← Option.some.inj hc]
      rcases wiped_two h64 ht hb1 with h | h
      · rw [h]; exact hz b hb
      · exact .inr h
    · by_cases hj0 : j = 0
      · subst hj0
        rw [h0] at hc
        rw [← Option.some.inj hc]
        rcases wiped_two h64 ht hb1 with h | h
        · rw [h]; exact hjz b hb
        · exact h
      · rw [hs j (by omega)] at hc
        exact hjz c hc
/-- A frame that is laid over zeros, as far as the block k, which is torn. -/
theorem part_frame {q k t : Nat} {d x : List UInt8} {T : List (List UInt8)} (_h1 : 1 ≤ q) (_h2 : q ≤ 2147483647) (hd : d.length ≤ 6000) (hk : k < nblk d.length) (ht : t ≤ 64) (hx : (framesF q d)[k]? = some x)
    (hlen : nblk d.length ≤ T.length) (hlow : ∀ i, i < k → T[i]? = (framesF q d)[i]?) (hat : T[k]? = some (tornB x t)) (hup : ∀ i, k < i → i < T.length → T[i]? = some zeroF) :
    T = framesF q d ++ List.replicate (T.length - nblk d.length) zeroF ∧ t ≠ 0 ∨ TrnR T := by
  have hn := nblk_bd hd
  have hP := payF_len d
  have hxb := framesF_get q d k hk
  rw [hx] at hxb
  have hxe := Option.some.inj hxb
  have hxl : x.length = 64 := by rw [hxe]; exact blkF_len hP hk
  have hx2 : x.drop 62 = leB 2 (nblk d.length) := by rw [hxe]; exact trail_two (blkF_drop hP hk)
  have h63 : 62 < t → tornB x t = x := fun h => by
    refine split_at 63 (tornB_take hxl (by omega) ht) ?_
    have e : x.drop 63 = [0] := by
      have := two_low hn.2
      rw [← hx2, List.drop_drop] at this
      exact this
    rw [e]
    obtain rfl | rfl : t = 63 ∨ t = 64 := by omega
    · rw [tornB_low hxl (Nat.le_refl _) (by omega)]; rfl
    · unfold tornB; rw [List.take_of_length_le (by omega), Nat.sub_self]; simpa using e
  have hlo : t ≤ 62 → (tornB x t).drop 62 = [0, 0] := fun h => by rw [tornB_low hxl h (by omega)]; rfl
  have hfirst : ∀ b, T[0]? = some b → b.drop 62 = leB 2 (nblk d.length) ∨ b.drop 62 = [0, 0] := fun b hb => by
    by_cases hk0 : k = 0
    · subst hk0
      rw [hat] at hb
      rw [← Option.some.inj hb]
      by_cases h : t ≤ 62
      · exact .inr (hlo h)
      · rw [h63 (by omega)]; exact .inl hx2
    · rw [hlow 0 (by omega), framesF_get q d 0 (by omega)] at hb
      rw [← Option.some.inj hb]
      exact .inl (trail_two (blkF_drop hP (by omega)))
  by_cases he : t ≤ 62
  · right
    refine ⟨nblk d.length, k, hn.1, hn.2, hk, hfirst, fun b hb => ?_⟩
    rw [hat] at hb
    rw [← Option.some.inj hb]; exact hlo he
  · have hwh := h63 (by omega)
    by_cases hl : k + 1 = nblk d.length
    · left
      refine ⟨?_, by omega⟩
      apply List.ext_getElem?
      intro i
      by_cases hi : i < nblk d.length
      · rw [List.getElem?_append_left (by rw [framesF_len]; exact hi)]
        by_cases hik : i = k
        · subst hik; rw [hat, hwh, hx]
        · exact hlow i (by omega)
      · rw [List.getElem?_append_right (by rw [framesF_len]; omega), framesF_len]
        by_cases hiT : i < T.length
        · rw [hup i (by omega) hiT, List.getElem?_replicate_of_lt (by omega)]
        · rw [List.getElem?_eq_none (by omega), List.getElem?_eq_none (by rw [List.length_replicate]; omega)]
    · right
      refine ⟨nblk d.length, k + 1, hn.1, hn.2, by omega, hfirst, fun b hb => ?_⟩
      rw [hup (k + 1) (by omega) (by omega)] at hb
      rw [← Option.some.inj hb]; decide +kernel

/-- The areas of the disk d tell the state T, whose number is N; the area at nx is dead. -/
structure AreaAt (d : DS) (z N nx : Nat) (T : List UInt8) : Prop where
  zpos : 0 < z
  side : nx = 0 ∨ nx = z
  cur : (N = 0 ∧ T = [] ∧ nx = 0 ∧ LowR 1 (rowsD d (z - nx) z)) ∨ (1 ≤ N ∧ ∃ n, readF (rowsD d (z - nx) z) = .ok (T, N, n))
  dead : Dead (max N 1) (rowsD d nx z)
theorem AreaAt.tells {d : DS} {z N nx : Nat} {T : List UInt8} (h : AreaAt d z N nx T) : Tells7 d z N nx T := by
  have hd := dead_snap h.dead (by omega)
  unfold Tells7 selF
  rcases h.cur with ⟨rfl, rfl, rfl, hc⟩ | ⟨h1, n, hr⟩
  · have hc1 := dead_snap (M := 1) (.inl hc) (Nat.le_refl _)
    rw [Nat.sub_zero] at hc1
    have hd0 : (snapF (rowsD d 0 z)).1 < 1 := hd
    have hz := snapF_zero (l := rowsD d 0 z) (by omega)
    rw [if_neg (by omega), if_neg (by omega), show (snapF (rowsD d 0 z)).1 = 0 by omega]
  · have hs := snapF_ok hr
    rw [show max N 1 = N by omega] at hd
    rcases h.side with rfl | rfl
    · rw [Nat.sub_zero] at hs
      rw [hs, if_pos hd]
    · rw [Nat.sub_self] at hs
      rw [hs, if_neg (by show ¬ N < _; omega), if_pos (by show 0 < N; omega)]
theorem AreaAt.low {d : DS} {z N nx : Nat} {T : List UInt8} (h : AreaAt d z N nx T) : LowR (N + 1) (rowsD d (z - nx) z) := by
  rcases h.cur with ⟨rfl, rfl, rfl, hc⟩ | ⟨h1, n, hr⟩
  · exact hc
  · intro b hb
    obtain ⟨h1, h2, h3, _, h5⟩ := read_blk hr
    obtain ⟨c, hc, _, ht⟩ := h5 0 (by omega)
    rw [hb] at hc
    rw [Option.some.inj hc, trail_seq ht (by rw [show (256 : Nat) ^ 4 = 4294967296 from rfl]; omega)]
    omega
theorem AreaAt.same {d e : DS} {z N nx : Nat} {T : List UInt8} (h : AreaAt d z N nx T) (hs : ∀ j, j < 2 * z → e.blk j = d.blk j) : AreaAt e z N nx T := by
  have hx : nx ≤ z := by rcases h.side with h | h <;> omega
  refine ⟨h.zpos, h.side, ?_, ?_⟩
  · rw [rowsD_same (d := d) (e := e) (a := z - nx) fun i hi => hs _ (by omega)]; exact h.cur
  · rw [rowsD_same (d := d) (e := e) (a := nx) fun i hi => hs _ (by omega)]; exact h.dead
/-- A new state in the other area. -/
theorem AreaAt.turn {d e : DS} {z N nx N' : Nat} {T X : List UInt8} (h : AreaAt d z N nx T) (hN : N < N') (hN2 : N' ≤ 2147483647) (hX : X.length ≤ 6000) {k : Nat} (hnew : rowsD e nx z = framesF N' X ++ List.replicate k zeroF) (hold : ∀ i, i < z → e.blk (z - nx + i) = d.blk (z - nx + i)) : AreaAt e z N' (z - nx) X := by
  have hx : z - (z - nx) = nx := by rcases h.side with h | h <;> omega
  refine ⟨h.zpos, by rcases h.side with h | h <;> omega, .inr ⟨by omega, nblk X.length, by rw [hx, hnew]; exact read_frames N' X _ (by omega) hN2 hX⟩, .inl ?_⟩
  rw [rowsD_same (d := d) (e := e) (a := z - nx) hold]
  exact low_mono h.low (by omega)
/-- The dead area was written, and is dead. -/
theorem AreaAt.still {d e : DS} {z N nx : Nat} {T : List UInt8} (h : AreaAt d z N nx T) (hd : Dead (max N 1) (rowsD e nx z)) (hold : ∀ i, i < z → e.blk (z - nx + i) = d.blk (z - nx + i)) : AreaAt e z N nx T :=
  ⟨h.zpos, h.side, by rw [rowsD_same (d := d) (e := e) (a := z - nx) hold]; exact h.cur, hd⟩

/-- What the blocks tell when the store is opened: the state, its number, the records behind it. -/
structure OpenAt (d : DS) (z m N nx : Nat) (T : List UInt8) (rs : List (List UInt8)) : Prop where
  fits : 2 * z + m ≤ d.n
  area : AreaAt d z N nx T
  foll : Follows (rowsD d (2 * z) m) N rs
  tail : Dead (N + rs.length + 1) ((rowsD d (2 * z) m).drop (layR N rs).length)
theorem LogAt.opens {d : DS} {z m N nx : Nat} {T : List UInt8} {rs : List (List UInt8)} (h : LogAt d (2 * z) m N rs) (ha : AreaAt d z N nx T) : OpenAt d z m N nx T rs :=
  ⟨h.fits, ha, h.follows, by rw [h.rows, List.drop_left' rfl]; exact dead_zeros (by omega)⟩
theorem OpenAt.used {d : DS} {z m N nx : Nat} {T : List UInt8} {rs : List (List UInt8)} (h : OpenAt d z m N nx T rs) : (layR N rs).length ≤ m := by
  have := congrArg List.length h.foll.laid
  rw [List.length_take, rowsD_len] at this; omega
/-- The disk is what it was. -/
theorem OpenAt.same {d e : DS} {z m N nx : Nat} {T : List UInt8} {rs : List (List UInt8)} (h : OpenAt d z m N nx T rs) (hn : e.n = d.n) (hs : ∀ j, e.blk j = d.blk j) : OpenAt e z m N nx T rs := by
  refine ⟨by rw [hn]; exact h.fits, h.area.same fun j _ => hs j, ?_, ?_⟩
  · rw [rowsD_same (d := d) (e := e) fun i _ => hs _]; exact h.foll
  · rw [rowsD_same (d := d) (e := e) fun i _ => hs _]; exact h.tail
theorem rows_64 {d : DS} {a m i : Nat} {b : List UInt8} (h : a + m ≤ d.n) (hb : (rowsD d a m)[i]? = some b) : b.length = 64 := by
  have hl := (List.getElem?_eq_some_iff.1 hb).1
  rw [rowsD_len] at hl
  rw [rowsD_get hl] at hb
  rw [← Option.some.inj hb]
  have := DS.blk_len (has_nat (d := d) (i := a + i) (by omega))
  rwa [Int.toNat_natCast] at this
/-- A row of blocks that a wiping was cut short in: its head is zeros, or its first block is wiped in part. -/
theorem cut_dead {d e : DS} {a m k t M : Nat} (hd : Dead M (rowsD d a m)) (hM : 0 < M) (hfit : a + m ≤ d.n) (ht : t ≤ 64) (hak : a ≤ k) (hk : k < a + m) (he : ∀ j, a ≤ j → j < a + m → e.blk j = if j < k then zeroF else if j = k then List.replicate t 0 ++ (d.blk k).drop t else d.blk j) : Dead M (rowsD e a m) := by
  by_cases h0 : a = k
  · subst h0
    have hb : (rowsD d a m)[0]? = some (d.blk a) := by rw [rowsD_get (by omega)]; rfl
    refine dead_wipe hd hb (rows_64 hfit hb) ht ?_ fun i hi => ?_
    · rw [rowsD_get (by omega), Nat.add_zero, he a (by omega) (by omega), if_neg (by omega), if_pos rfl]
    · by_cases him : i < m
      · rw [rowsD_get him, rowsD_get him, he (a + i) (by omega) (by omega), if_neg (by omega), if_neg (by omega)]
      · rw [List.getElem?_eq_none (by rw [rowsD_len]; omega), List.getElem?_eq_none (by rw [rowsD_len]; omega)]
  · refine dead_zero hM ?_
    rw [rowsD_get (by omega), Nat.add_zero, he a (by omega) (by omega), if_pos (by omega)]
/-- The power goes while the blocks behind the records are wiped. -/
theorem OpenAt.cut {d e : DS} {z m N nx k t : Nat} {T : List UInt8} {rs : List (List UInt8)} (h : OpenAt d z m N nx T rs) (hn : e.n = d.n) (ht : t ≤ 64) (hak : 2 * z + (layR N rs).length ≤ k) (hk : k < 2 * z + m)
    (he : ∀ j, e.blk j = if 2 * z + (layR N rs).length ≤ j ∧ j < k then zeroF else if j = k then List.replicate t 0 ++ (d.blk k).drop t else d.blk j) : OpenAt e z m N nx T rs := by
  have hu := h.used
  have hfit := h.fits
  obtain ⟨U, hU⟩ : ∃ U, (layR N rs).length = U := ⟨_, rfl⟩
  have htl := h.tail
  have hfo := h.foll
  rw [hU] at hu hak he htl
  have hdrop : ∀ D : DS, (rowsD D (2 * z) m).drop U = rowsD D (2 * z + U) (m - U) := fun D => by
    conv => lhs; rw [show m = U + (m - U) by omega, rowsD_app, List.drop_left' (rowsD_len _ _ _)]
  have htake : (rowsD e (2 * z) m).take U = (rowsD d (2 * z) m).take U := by
    have ht1 : ∀ D : DS, (rowsD D (2 * z) m).take U = rowsD D (2 * z) U := fun D => by
      conv => lhs; rw [show m = U + (m - U) by omega, rowsD_app, List.take_left' (rowsD_len _ _ _)]
    rw [ht1, ht1, rowsD_same (d := d) (e := e) fun i hi => by rw [he, if_neg (by omega), if_neg (by omega)]]
  rw [hdrop] at htl
  have hdead : Dead (N + rs.length + 1) (rowsD e (2 * z + U) (m - U)) := cut_dead (d := d) htl (by omega) (by omega) ht hak (by omega) fun j h1 h2 => by
    rw [he]
    by_cases h3 : j < k
    · rw [if_pos ⟨h1, h3⟩, if_pos h3]
    · rw [if_neg (by omega), if_neg h3]
  refine ⟨by rw [hn]; exact hfit, h.area.same fun j hj => by rw [he, if_neg (by omega), if_neg (by omega)], ⟨hfo.small, hfo.bound, ?_, ?_⟩, ?_⟩
  · have := hfo.laid
    rw [hU] at this ⊢
    rw [htake]; exact this
  · rw [hU, hdrop]; exact dead_next hdead
  · rw [hU, hdrop]; exact hdead
end Go.Proofs.YtaibmdjcppeopaaGreatDoor

/- Plain arithmetic of a store's calls whatever the fuse: what a Keep or an Add makes of the disk, and what it tells when it is opened again. No program, no conditions. -/
namespace Go.Proofs.YtaibmdjcppeopaaGreatDoor
open Go

theorem LogAt.lowR {d : DS} {a m b : Nat} {rs : List (List UInt8)} (h : LogAt d a m b rs) : LowR (b + rs.length + 2) (rowsD d a m) := fun c hc => by
  rw [h.rows] at hc
  cases rs with
  | nil =>
    simp only [layR, List.nil_append, List.length_nil] at hc
    cases hm : m - 0 with
    | zero => rw [hm] at hc; cases hc
    | succ k =>
      rw [hm] at hc
      have : zeroF = c := Option.some.inj hc
      rw [← this, seq_zero]; omega
  | cons x r =>
    have hb := h.bound
    rw [List.length_cons] at hb ⊢
    have hx : x.length ≤ 6000 := h.small x (by simp)
    have hn := (nblk_bd hx).1
    rw [layR, List.append_assoc, List.getElem?_append_left (by rw [framesF_len]; omega), framesF_get _ _ 0 (by omega)] at hc
    rw [← Option.some.inj hc, trail_seq (blkF_drop (payF_len x) (by omega)) (by rw [show (256 : Nat) ^ 4 = 4294967296 from rfl]; omega)]
    omega
/-- Records that follow a smaller number don't follow this one. -/
theorem dead_foll {d : DS} {a m b : Nat} (hd : Dead (b + 1) (rowsD d a m)) (hb : b ≤ 2147483647) : Follows (rowsD d a m) b [] := follows_none hb (dead_next hd)
/-- How a wiping ends, whatever the fuse. -/
theorem wipe_any {d : DS} {i m : Nat} (hi : i + m ≤ d.n) (ho : d.on = true) (ht : d.torn ≤ 64) :
    (∃ e, d.wipe i m = (0, e) ∧ d.Like e ∧ e.on = true ∧ e.wr ≤ d.wr + m ∧ ∀ j, e.blk j = if i ≤ j ∧ j < i + m then zeroF else d.blk j) ∨
    (∃ e k, d.wipe i m = (14, e) ∧ d.Like e ∧ e.on = false ∧ e.wr ≤ d.wr + m ∧ i ≤ k ∧ k < i + m ∧ ∀ j, e.blk j = if i ≤ j ∧ j < k then zeroF else if j = k then List.replicate d.torn 0 ++ (d.blk k).drop d.torn else d.blk j) := by
  have hwn := (wipe_n hi ho).2
  by_cases hf : d.fuse < 0 ∨ (d.dirty i m : Int) ≤ d.fuse
  · obtain ⟨e, h1, h2, h3, _, _, h6⟩ := wipe_ok m d i hi ho hf
    rw [h1] at hwn
    exact .inl ⟨e, h1, h2, h3, hwn, h6⟩
  · obtain ⟨e, k, h1, h2, h3, _, h5, h6, _, _, h9⟩ := wipe_cut m d i d.fuse.toNat hi ho ht (by omega) (by omega)
    rw [h1] at hwn
    exact .inr ⟨e, k, h1, h2, h3, hwn, h5, h6, h9⟩
theorem puts_any {d : DS} {i : Nat} {l : List (List UInt8)} (hi : i + l.length ≤ d.n) (hs : ∀ s ∈ l, s.length = 64) (ho : d.on = true) (ht : d.torn ≤ 64) :
    (∃ e, d.puts i l = (0, e) ∧ d.Like e ∧ e.on = true ∧ e.wr ≤ d.wr + l.length ∧ ∀ j, e.blk j = if i ≤ j ∧ j < i + l.length then l.getD (j - i) [] else d.blk j) ∨
    (∃ e k, d.puts i l = (14, e) ∧ d.Like e ∧ e.on = false ∧ e.wr ≤ d.wr + l.length ∧ k < l.length ∧ ∀ j, e.blk j = if i ≤ j ∧ j < i + k then l.getD (j - i) [] else if j = i + k then (l.getD k []).take d.torn ++ (d.blk j).drop d.torn else d.blk j) := by
  have hwn := (puts_n hi hs ho).2
  by_cases hf : d.fuse < 0 ∨ (l.length : Int) ≤ d.fuse
  · obtain ⟨e, h1, h2, h3, _, _, h6⟩ := puts_ok l d i hi hs ho hf
    rw [h1] at hwn
    exact .inl ⟨e, h1, h2, h3, hwn, h6⟩
  · obtain ⟨e, h1, h2, h3, _, h6⟩ := puts_cut l d i d.fuse.toNat hi hs ho ht (by omega) (by omega)
    rw [h1] at hwn
    exact .inr ⟨e, d.fuse.toNat, h1, h2, h3, hwn, by omega, h6⟩
theorem zero_drop (t : Nat) : zeroF.drop t = List.replicate (64 - t) 0 := by unfold zeroF; rw [List.drop_replicate]

/-- A Keep, whatever the fuse. -/
theorem keep_any {d : DS} {z m N nx : Nat} {T X : List UInt8} {rs : List (List UInt8)} (ha : AreaAt d z N nx T) (hlog : LogAt d (2 * z) m N rs) (hX : X.length ≤ 6000) (hn : nblk X.length ≤ z) (hq : N + rs.length + 1 ≤ 2147483647) (ho : d.on = true) (ht : d.torn ≤ 64) :
    (∃ e, d.wipe nx z = (14, e) ∧ d.Like e ∧ e.on = false ∧ e.wr ≤ d.wr + 2 * z + m ∧ OpenAt e z m N nx T rs) ∨
    ∃ e1, d.wipe nx z = (0, e1) ∧ e1.on = true ∧ e1.n = d.n ∧ e1.wr ≤ d.wr + z ∧
      ((∃ e, e1.puts nx (framesF (N + rs.length + 1) X) = (14, e) ∧ d.Like e ∧ e.on = false ∧ e.wr ≤ d.wr + 2 * z + m ∧ (OpenAt e z m N nx T rs ∨ OpenAt e z m (N + rs.length + 1) (z - nx) X [])) ∨
      ∃ e2, e1.puts nx (framesF (N + rs.length + 1) X) = (0, e2) ∧ e2.on = true ∧ e2.n = d.n ∧ e2.wr ≤ d.wr + 2 * z ∧
        ((∃ e, e2.wipe (2 * z) m = (14, e) ∧ d.Like e ∧ e.on = false ∧ e.wr ≤ d.wr + 2 * z + m ∧ OpenAt e z m (N + rs.length + 1) (z - nx) X []) ∨
        ∃ e, e2.wipe (2 * z) m = (0, e) ∧ d.Like e ∧ e.on = true ∧ e.wr ≤ d.wr + 2 * z + m ∧ AreaAt e z (N + rs.length + 1) (z - nx) X ∧ LogAt e (2 * z) m (N + rs.length + 1) [])) := by
  have hfit := hlog.fits
  have hside := ha.side
  have hxz : nx + z ≤ d.n := by omega
  have hl : (framesF (N + rs.length + 1) X).length = nblk X.length := framesF_len _ _
  have hnb := nblk_bd hX
  rcases wipe_any hxz ho ht with ⟨e1, a1, a2, a3, a4, a5⟩ | ⟨e, k, a1, a2, a3, a4, a5, a6, a7⟩
  case inr =>
    refine .inl ⟨e, a1, a2, a3, by omega, ?_⟩
    have hA : AreaAt e z N nx T := ha.still (cut_dead (k := k) (t := d.torn) ha.dead (by omega) hxz ht a5 a6 fun j h1 h2 => by
      rw [a7]
      by_cases h3 : j < k
      · rw [if_pos ⟨h1, h3⟩, if_pos h3]
      · rw [if_neg (by omega), if_neg h3]) fun i hi => by rw [a7, if_neg (by omega), if_neg (by omega)]
    exact (hlog.same (e := e) a2.n fun i hi => by rw [a7, if_neg (by omega), if_neg (by omega)]).opens hA
  refine .inr ⟨e1, a1, a3, a2.n, a4, ?_⟩
  rcases puts_any (d := e1) (i := nx) (l := framesF (N + rs.length + 1) X) (by rw [a2.n, hl]; omega) frames_64 a3 (by rw [a2.torn]; exact ht) with ⟨e2, b1, b2, b3, b4, b5⟩ | ⟨e, k, b1, b2, b3, b4, b5, b6⟩
  case inr =>
    rw [hl] at b4 b5
    refine .inl ⟨e, b1, a2.trans b2, b3, by omega, ?_⟩
    have hold : ∀ i, i < z → e.blk (z - nx + i) = d.blk (z - nx + i) := fun i hi => by rw [b6, if_neg (by omega), if_neg (by omega), a5, if_neg (by omega)]
    have hlg : ∀ i, i < m → e.blk (2 * z + i) = d.blk (2 * z + i) := fun i hi => by rw [b6, if_neg (by omega), if_neg (by omega), a5, if_neg (by omega)]
    have hen : e.n = d.n := b2.n.trans a2.n
    have hxk : (framesF (N + rs.length + 1) X)[k]? = some ((framesF (N + rs.length + 1) X).getD k []) := getD_of (by omega)
    rcases part_frame (q := N + rs.length + 1) (k := k) (t := e1.torn) (d := X) (x := (framesF (N + rs.length + 1) X).getD k []) (T := rowsD e nx z) (by omega) hq hX b5 (by rw [a2.torn]; exact ht) hxk (by rw [rowsD_len]; exact hn)
      (fun i hi => by rw [rowsD_get (by omega), b6, if_pos (by omega), show nx + i - nx = i by omega]; exact (getD_of (by omega)).symm)
      (by rw [rowsD_get (by omega), b6, if_neg (by omega), if_pos rfl, a5, if_pos (by omega), zero_drop]; rfl)
      (fun i h1 h2 => by rw [rowsD_len] at h2; rw [rowsD_get h2, b6, if_neg (by omega), if_neg (by omega), a5, if_pos (by omega)]) with ⟨hrow, _⟩ | htrn
    · right
      have hA := ha.turn (N' := N + rs.length + 1) (by omega) hq hX hrow hold
      have hD : Dead (N + rs.length + 1 + 1) (rowsD e (2 * z) m) := .inl (by rw [rowsD_same (d := d) (e := e) hlg]; exact hlog.lowR)
      exact ⟨by rw [hen]; exact hfit, hA, dead_foll hD hq, by simpa [layR] using hD⟩
    · left
      exact (hlog.same (e := e) hen hlg).opens (ha.still (.inr htrn) hold)
  rw [hl] at b4 b5
  refine .inr ⟨e2, b1, b3, b2.n.trans a2.n, by omega, ?_⟩
  have h2n : e2.n = d.n := b2.n.trans a2.n
  have hrow2 : ∀ i, i < z → e2.blk (nx + i) = if i < nblk X.length then (framesF (N + rs.length + 1) X).getD i [] else zeroF := fun i hi => by
    rw [b5]
    by_cases h1 : i < nblk X.length
    · rw [if_pos (by omega), if_pos h1, show nx + i - nx = i by omega]
    · rw [if_neg (by omega), if_neg h1, a5, if_pos (by omega)]
  have hold2 : ∀ i, i < z → e2.blk (z - nx + i) = d.blk (z - nx + i) := fun i hi => by rw [b5, if_neg (by omega), a5, if_neg (by omega)]
  have hlg2 : ∀ i, i < m → e2.blk (2 * z + i) = d.blk (2 * z + i) := fun i hi => by rw [b5, if_neg (by omega), a5, if_neg (by omega)]
  rcases wipe_any (d := e2) (i := 2 * z) (m := m) (by rw [h2n]; exact hfit) b3 (by rw [b2.torn, a2.torn]; exact ht) with ⟨e, c1, c2, c3, c4, c5⟩ | ⟨e, k, c1, c2, c3, c4, c5, c6, c7⟩
  · refine .inr ⟨e, c1, a2.trans (b2.trans c2), c3, by omega, ?_, ?_⟩
    · exact ha.turn (k := z - nblk X.length) (by omega) hq hX (frame_row hn fun i hi => by rw [c5, if_neg (by omega)]; exact hrow2 i hi) fun i hi => by rw [c5, if_neg (by omega)]; exact hold2 i hi
    · refine ⟨by rw [c2.n, h2n]; exact hfit, by simp, by simpa using hq, by simp [layR], rowsD_eq (by simp [layR]) fun i hi => ?_⟩
      rw [c5, if_pos (by omega)]
      simp [layR, hi]
  · refine .inl ⟨e, c1, a2.trans (b2.trans c2), c3, by omega, ?_⟩
    have hA := ha.turn (e := e) (k := z - nblk X.length) (N' := N + rs.length + 1) (by omega) hq hX (frame_row hn fun i hi => by rw [c7, if_neg (by omega), if_neg (by omega)]; exact hrow2 i hi) fun i hi => by rw [c7, if_neg (by omega), if_neg (by omega)]; exact hold2 i hi
    have hD2 : Dead (N + rs.length + 1 + 1) (rowsD e2 (2 * z) m) := .inl (by rw [rowsD_same (d := d) (e := e2) hlg2]; exact hlog.lowR)
    have hD : Dead (N + rs.length + 1 + 1) (rowsD e (2 * z) m) := cut_dead (k := k) (t := e2.torn) hD2 (by omega) (by rw [h2n]; exact hfit) (by rw [b2.torn, a2.torn]; exact ht) c5 c6 fun j h1 h2 => by
      rw [c7]
      by_cases h3 : j < k
      · rw [if_pos ⟨h1, h3⟩, if_pos h3]
      · rw [if_neg (by omega), if_neg h3]
    exact ⟨by rw [c2.n, h2n]; exact hfit, hA, dead_foll hD hq, by simpa [layR] using hD⟩

/-- An Add, whatever the fuse. -/
theorem add_any {d : DS} {z m N nx : Nat} {T X : List UInt8} {rs : List (List UInt8)} (ha : AreaAt d z N nx T) (hlog : LogAt d (2 * z) m N rs) (hX : X.length ≤ 6000) (hr : nblk X.length ≤ m - (layR N rs).length) (hq : N + rs.length + 1 ≤ 2147483647) (ho : d.on = true) (ht : d.torn ≤ 64) :
    (∃ e, d.puts (2 * z + (layR N rs).length) (framesF (N + rs.length + 1) X) = (14, e) ∧ d.Like e ∧ e.on = false ∧ e.wr ≤ d.wr + 108 ∧ (OpenAt e z m N nx T rs ∨ d.torn ≠ 0 ∧ OpenAt e z m N nx T (rs ++ [X]))) ∨
    ∃ e, d.puts (2 * z + (layR N rs).length) (framesF (N + rs.length + 1) X) = (0, e) ∧ d.Like e ∧ e.on = true ∧ e.wr ≤ d.wr + 108 ∧ AreaAt e z N nx T ∧ LogAt e (2 * z) m N (rs ++ [X]) := by
  have hfit := hlog.fits
  have hroom := hlog.room
  have hside := ha.side
  have hl : (framesF (N + rs.length + 1) X).length = nblk X.length := framesF_len _ _
  have hnb := nblk_bd hX
  obtain ⟨U, hU⟩ : ∃ U, (layR N rs).length = U := ⟨_, rfl⟩
  rw [hU] at hr hroom ⊢
  have hlay : (layR N (rs ++ [X])).length = U + nblk X.length := by rw [layR_snoc, List.length_append, framesF_len, hU]
  have hsmall : ∀ x ∈ rs ++ [X], x.length ≤ 6000 := fun x hx => by
    rcases List.mem_append.1 hx with h | h
    · exact hlog.small x h
    · rw [List.mem_singleton.1 h]; exact hX
  have hlow : ∀ i, i < U → (layR N rs)[i]? = some (d.blk (2 * z + i)) := fun i hi => hlog.low (by omega)
  have hup : ∀ i, U ≤ i → i < m → d.blk (2 * z + i) = zeroF := fun i h1 h2 => hlog.up (by omega) h2
  have hbound : N + (rs ++ [X]).length ≤ 2147483647 := by rw [List.length_append, List.length_singleton]; omega
  rcases puts_any (d := d) (i := 2 * z + U) (l := framesF (N + rs.length + 1) X) (by rw [hl]; omega) frames_64 ho ht with ⟨e, b1, b2, b3, b4, b5⟩ | ⟨e, k, b1, b2, b3, b4, b5, b6⟩
  · rw [hl] at b4 b5
    refine .inr ⟨e, b1, b2, b3, by omega, ha.same fun j hj => by rw [b5, if_neg (by omega)], ⟨by rw [b2.n]; exact hfit, hsmall, hbound, by rw [hlay]; omega, rowsD_eq (by rw [List.length_append, List.length_replicate, hlay]; omega) fun i hi => ?_⟩⟩
    rw [layR_snoc, b5]
    by_cases h1 : i < U
    · rw [List.append_assoc, List.getElem?_append_left (by omega), hlow i h1, if_neg (by omega)]
    · by_cases h2 : i < U + nblk X.length
      · rw [List.getElem?_append_left (by rw [List.length_append, framesF_len]; omega), List.getElem?_append_right (by omega), hU, if_pos (by omega), show 2 * z + i - (2 * z + U) = i - U by omega]
        exact getD_of (by omega)
      · rw [List.getElem?_append_right (by rw [List.length_append, framesF_len]; omega), List.getElem?_replicate_of_lt (by rw [List.length_append, framesF_len, hU]; omega), if_neg (by omega), hup i (by omega) hi]
  · rw [hl] at b4 b5
    refine .inl ⟨e, b1, b2, b3, by omega, ?_⟩
    have hA : AreaAt e z N nx T := ha.same fun j hj => by rw [b6, if_neg (by omega), if_neg (by omega)]
    have hxk : (framesF (N + rs.length + 1) X)[k]? = some ((framesF (N + rs.length + 1) X).getD k []) := getD_of (by omega)
    have hsplit : rowsD e (2 * z) m = layR N rs ++ rowsD e (2 * z + U) (m - U) := by
      conv => lhs; rw [show m = U + (m - U) by omega, rowsD_app]
      congr 1
      exact rowsD_eq hU fun i hi => by rw [hlow i hi, b6, if_neg (by omega), if_neg (by omega)]
    rcases part_frame (q := N + rs.length + 1) (k := k) (t := d.torn) (d := X) (x := (framesF (N + rs.length + 1) X).getD k []) (T := rowsD e (2 * z + U) (m - U)) (by omega) hq hX b5 ht hxk (by rw [rowsD_len]; exact hr)
      (fun i hi => by rw [rowsD_get (by omega), b6, if_pos (by omega), show 2 * z + U + i - (2 * z + U) = i by omega]; exact (getD_of (by omega)).symm)
      (by rw [rowsD_get (by omega), b6, if_neg (by omega), if_pos rfl, show 2 * z + U + k = 2 * z + (U + k) by omega, hup (U + k) (by omega) (by omega), zero_drop]; rfl)
      (fun i h1 h2 => by rw [rowsD_len] at h2; rw [rowsD_get h2, b6, if_neg (by omega), if_neg (by omega), show 2 * z + U + i = 2 * z + (U + i) by omega]; exact congrArg some (hup (U + i) (by omega) (by omega))) with ⟨hrow, ht0⟩ | htrn
    · right
      refine ⟨ht0, LogAt.opens ⟨by rw [b2.n]; exact hfit, hsmall, hbound, by rw [hlay]; omega, ?_⟩ hA⟩
      rw [hsplit, hrow, layR_snoc, List.append_assoc, rowsD_len, List.length_append, hU, framesF_len, Nat.sub_sub]
    · left
      have hdrop : (rowsD e (2 * z) m).drop (layR N rs).length = rowsD e (2 * z + U) (m - U) := by rw [hsplit, List.drop_left' rfl]
      exact ⟨by rw [b2.n]; exact hfit, hA, ⟨hlog.small, hlog.bound, by rw [hsplit]; simp, by rw [hdrop]; exact dead_next (.inr htrn)⟩, by rw [hdrop]; exact .inr htrn⟩
end Go.Proofs.YtaibmdjcppeopaaGreatDoor

/- Contracts of a store's Open. Conditions: the sentinels lie as the program's text lays them; the disk lies in memory, there is power; it has seen fewer than a million writes. -/
namespace Go.Proofs.YtaibmdjcppeopaaGreatDoor
open Go Go.RowKit

set_option maxHeartbeats 3200000 in
set_option maxRecDepth 100000 in
/-- The power goes while the blocks behind the records are wiped. -/
theorem open_cut (s : Nat → Addr) (w0 : World) (p g cap : Nat) (d : DS) (a m b : Nat) (rs : List (List UInt8)) (x y z : Int) (w : World) (hs : Sent s w0) (hb : Below w0.heap.size w0 w) (h : DiskAt w p g cap d) (hlo : w0.heap.size ≤ g) (hx : x = (a : Int)) (hy : y = ((a + m : Nat) : Int)) (hz : z = (b : Int))
    (hm0 : 0 < m) (hfit : a + m ≤ d.n) (hbb : b ≤ 1073741824) (ho : d.on = true) (hw : d.wr + m ≤ 1000000) (hfol : Follows (rowsD d a m) b rs) (hr : (d.wipe (a + (layR b rs).length) (m - (layR b rs).length)).1 = 14) :
    Calls Tryz.prog 27 #[.pointer (some ⟨p, 0, none⟩), .int .i64 x, .int .i64 y, .int .i64 z] w fun e w' => e = .returned (.tuple #[.pointer none, errV s 14]) ∧ DiskAt w' p g cap (d.wipe (a + (layR b rs).length) (m - (layR b rs).length)).2 ∧ ChgS (fun k => k = p ∨ k = g) w w' := by
  subst hx; subst hy; subst hz
  obtain ⟨u, hu⟩ : ∃ u, (layR b rs).length = u := ⟨_, rfl⟩
  rw [hu] at hr ⊢
  have hlen := len_c p g cap d w h
  have hn4 := DS.n_le h.ok
  have hisb := isBase_c (b : Int)
  have e1 : (decide ((0 : Int) ≤ (b : Int)) && decide ((b : Int) ≤ 1073741824)) = true := by
    rw [decide_eq_true (by omega), decide_eq_true (by omega)]; rfl
  simp only [e1] at hisb
  have HIS := Lib.hid hisb
  have HLEN := Lib.hid hlen
  have HNEW := Lib.hid (LogMem.new (B := w0.heap.size) h hlo hfit hbb)
  have hbn : Below w.heap.size w (w.alloc (.cells (logV p a m b (.slice none 0 0) 0 false) 80)) := (Below.refl _ _).alloc (Nat.le_refl _) _
  obtain ⟨W1, hW1⟩ : ∃ W1, w.alloc (.cells (logV p a m b (.slice none 0 0) 0 false) 80) = W1 := ⟨_, rfl⟩
  have hload := load_c s w0 w.heap.size p g cap d a m b (w.alloc (.cells (logV p a m b (.slice none 0 0) 0 false) 80)) hs (hb.trans (hbn.mono hb.size)) HNEW.out hm0 ho
  rw [hW1] at hload hbn
  have HLOAD := Lib.hid hload
  have HBN := Lib.hid hbn
  have hW1' : w.alloc (.cells #[.pointer (some ⟨p, 0, none⟩), .int .i64 (a : Int), .int .i64 ((a : Int) + (m : Int)), .int .i64 (b : Int), .slice none 0 0, .int .i64 (a : Int), .bool false] 80) = W1 := by
    rw [← hW1, logV, show ((a + m : Nat) : Int) = (a : Int) + (m : Int) by omega]; rfl
  have f1 : ¬ ((a : Int) < 0) := by omega
  have f2 : ¬ ((a : Int) + (m : Int) ≤ (a : Int)) := by omega
  have f3 : ¬ ((d.n : Int) < (a : Int) + (m : Int)) := by omega
  have hsw : w.heap.size < W1.heap.size := by rw [← hW1, World.size_alloc]; omega
  have HS := Lib.hid hs; have HB := Lib.hid hb
  have hpl := h.lt
  clear hload hbn HNEW hlen hisb h hW1 hs hb
  go_enter Tryz.func27, Tryz.ntmps27
  go_wp2_with fail
  refine (HLEN.out).mono ?_
  rintro e w1 ⟨rfl, rfl⟩
  go_wp2_with fail
  refine (HIS.out _).mono ?_
  rintro e w1 ⟨rfl, rfl⟩
  go_wp2_with fail
  (try rw [hW1'])
  refine (HLOAD.out).mono ?_
  rintro e w2 ⟨rfl, rs', v, hf, hm, hc, hv⟩
  obtain rfl := follows_uniq hf hfol
  have c5 := hm.cells.2.2.2.2.2.1
  have hul : u ≤ m := by rw [← hu]; exact hm.room
  rw [hu] at c5
  have hb2 : Below w0.heap.size w0 w2 := (HB.out.trans (HBN.out.mono HB.out.size)).trans (hc.below (fun k hk => by have := HB.out.size; omega) (Nat.le_trans HB.out.size (by omega)))
  have hwp := rwipe_c s w0 p g cap d (a + u) (m - u) _ ((a : Int) + (m : Int)) w2 HS.out hb2 hm.disk hm.lo rfl (by omega) (by omega) ho (by omega)
  have hwn := wipe_n (d := d) (i := a + u) (m := m - u) (by omega) ho
  have HM2 := Lib.hid hm
  rw [hr] at hwp
  have HWP := Lib.hid hwp
  have HC := Lib.hid hc
  have HV := Lib.hid hv
  clear hf hm hc hv hwp hb2 hfol
  go_wp2_with fail
  refine (HWP.out).mono ?_
  rintro e w3 ⟨he, hd3, hc3⟩
  rw [errV_pos] at he
  subst he
  have HF : Hid (DiskAt w3 p g cap (d.wipe (a + u) (m - u)).2 ∧ ChgS (fun k => k = p ∨ k = g) w w3) := Lib.hid
    ⟨hd3, ((ChgS.of_below (S := fun k => k = p ∨ k = g) HBN.out).trans (HC.out.mono (T := fun k => k = w.heap.size) fun _ _ h => h) fun k hk h => by omega).trans hc3 fun _ _ h => h⟩
  clear hc3 hd3 HC HV HM2
  go_wp2_with fail
  go_ret2
  exact ⟨rfl, HF.out⟩

/-- A store was made round a disk. -/
def SOpenPost (w0 w : World) (p g cap : Nat) (r : DS) (z m N nx : Nat) (T : List UInt8) (rs : List (List UInt8)) (e : Ending) (w' : World) : Prop :=
  ∃ u q v, e = .returned (.tuple #[.pointer (some ⟨u, 0, none⟩), .nilIface]) ∧ StoMem w' w0.heap.size u q p g cap r z m N (bst T) nx v rs false false ∧ ChgS (fun k => k = p ∨ k = g) w w' ∧ w.heap.size ≤ u ∧ ∀ k, v.ownBlock = some k → w.heap.size ≤ k
/-- The cells of a store that is made, but for its log. -/
theorem StoMem.made {w w3 : World} {B u q p g cap : Nat} {r : DS} {z m N nx : Nat} {T : ByteArray} {v x : Value} {rs : List (List UInt8)} (hx : x = .pointer (some ⟨q, 0, none⟩)) (hblk : w.heap[u]? = some (.cells (stoV1 p z T nx) 54 (0, 0))) (hc : ChgS (fun k => k = p ∨ k = g) w w3) (hl : LogMem w3 B q p g cap r (2 * z) m N v rs false)
    (hB : B ≤ u) (hpu : p < u) (hgu : g < u) (huq : u < q) (hv : ∀ k, v.ownBlock = some k → k ≠ u) : StoMem (w3.setCell ⟨u, 4, none⟩ x) B u q p g cap r z m N T nx v rs false false := by
  have hb3 : w3.heap[u]? = some (.cells (stoV1 p z T nx) 54 (0, 0)) := hc.row hblk (by rintro (h | h) <;> omega)
  refine ⟨?_, hl.kept (S := fun k => k = u) ((ChgS.refl (fun k => k = u) _).setCell (ad := ⟨u, 4, none⟩) (.inl rfl) _) ?_, hB, hpu, huq, hv⟩
  · rw [set_cells hb3, hx]; rfl
  · rintro k (h | h | h | h) h2
    · omega
    · omega
    · omega
    · exact hv k h h2

set_option maxHeartbeats 6400000 in
set_option maxRecDepth 100000 in
theorem sopen_c (s : Nat → Addr) (w0 : World) (p g cap : Nat) (d : DS) (z m N nx : Nat) (T : List UInt8) (rs : List (List UInt8)) (x : Int) (w : World) (hs : Sent s w0) (hb : Below w0.heap.size w0 w) (h : DiskAt w p g cap d) (hlo : w0.heap.size ≤ g) (hx : x = (z : Int))
    (hz : 0 < z) (hz2 : z ≤ 108) (hm0 : 0 < m) (hfit : 2 * z + m = d.n) (ho : d.on = true) (ht : Tells7 d z N nx T) (hN : N ≤ 1073741824) (hw : d.wr + m ≤ 1000000) (hfol : Follows (rowsD d (2 * z) m) N rs) (hr : (d.wipe (2 * z + (layR N rs).length) (m - (layR N rs).length)).1 = 0) :
    Calls Tryz.prog 7 #[.pointer (some ⟨p, 0, none⟩), .int .i64 x] w fun e w' => SOpenPost w0 w p g cap (d.wipe (2 * z + (layR N rs).length) (m - (layR N rs).length)).2 z m N nx T rs e w' := by
  subst hx
  have hn4 := DS.n_le h.ok
  have hpl := h.lt
  have hlen := len_c p g cap d w h
  have HLEN := Lib.hid hlen
  obtain ⟨R, hR⟩ : ∃ R, (d.wipe (2 * z + (layR N rs).length) (m - (layR N rs).length)).2 = R := ⟨_, rfl⟩
  rw [hR]
  obtain ⟨W1, hW1⟩ : ∃ W1, w.alloc (.cells (stoV0 p z) 54) = W1 := ⟨_, rfl⟩
  have hbn : Below w.heap.size w W1 := by rw [← hW1]; exact (Below.refl _ _).alloc (Nat.le_refl _) _
  have hsw : W1.heap.size = w.heap.size + 1 := by rw [← hW1, World.size_alloc]
  have hblk : W1.heap[w.heap.size]? = some (.cells (stoV0 p z) 54 (0, 0)) := by rw [← hW1]; exact heap_alloc_new w _
  have hload := sload_c s w.heap.size p g cap d z N nx T W1 (hs.below (hb.trans (hbn.mono hb.size)) (Nat.le_refl _)) hblk (h.below hbn hpl.1) hpl.1 hz hz2 (by omega) ho ht
  have HLOAD := Lib.hid hload
  have hW1' : w.alloc (.cells #[.pointer (some ⟨p, 0, none⟩), .int .i64 (z : Int), .string ⟨#[]⟩, .int .i64 0, .pointer none, .bool false] 54) = W1 := hW1
  have f1 : ¬ ((z : Int) < 1) := by omega
  have f2 : ¬ ((108 : Int) < (z : Int)) := by omega
  have hwz : IntKind.i64.wrap (2 * (z : Int)) = 2 * (z : Int) := IntWalk.i64_in _ (by omega)
  have f3 : ¬ ((d.n : Int) ≤ 2 * (z : Int)) := by omega
  have f4 : ¬ ((1073741824 : Int) < (N : Int)) := by omega
  have HS := Lib.hid hs; have HB := Lib.hid hb; have HBN := Lib.hid hbn; have HDK := Lib.hid h; have HR := Lib.hid hR; have HFO := Lib.hid hfol; have HRR := Lib.hid hr
  clear hload hbn hlen h hW1 hs hb hblk ht hR hfol hr
  go_enter Tryz.func7, Tryz.ntmps7
  go_wp2_with fail
  refine (HLEN.out).mono ?_
  rintro e w1 ⟨rfl, rfl⟩
  go_wp2_with fail
  (try rw [hW1'])
  refine (HLOAD.out).mono ?_
  rintro e w2 ⟨rfl, hu2, hc2⟩
  have hb2 : Below w.heap.size w w2 := HBN.out.trans (hc2.below (fun k hk => by omega) (by omega))
  have hd2 : DiskAt w2 p g cap d := HDK.out.below hb2 hpl.1
  have hlen2 := len_c p g cap d w2 hd2
  have HLEN2 := Lib.hid hlen2
  have hb02 : Below w0.heap.size w0 w2 := HB.out.trans (hb2.mono HB.out.size)
  have hop := open_c s w0 p g cap d (2 * z) m N rs (2 * (z : Int)) (d.n : Int) (N : Int) w2 HS.out hb02 hd2 hlo (by omega) (by omega) rfl hm0 (by omega) hN ho hw HFO.out HRR.out
  rw [HR.out] at hop
  have HOP := Lib.hid hop
  have HU2 := Lib.hid hu2; have HC2 := Lib.hid hb2
  have hus : w.heap.size < w2.heap.size := lt_of_block hu2
  clear hlen2 hop hu2 hc2 hb2 hd2 hb02
  go_wp2_with fail
  refine (HLEN2.out).mono ?_
  rintro e w3 ⟨rfl, rfl⟩
  go_wp2_with fail
  refine (HOP.out).mono ?_
  rintro e w3 ⟨q, v, rfl, hm, hc, hq, hv⟩
  have hl := hm.lt
  have hu3 : w3.heap[w.heap.size]? = some (.cells (stoV1 p z (bst T) nx) 54 (0, 0)) := hc.row HU2.out (by rintro (h | h) <;> omega)
  have c4 : w3.cell? ⟨w.heap.size, 4, none⟩ = some (.pointer none) := cell_of_heap hu3 4
  have f4' := frozen_of_heap hu3 4
  have HF : Hid (∀ x, x = .pointer (some ⟨q, 0, none⟩) → SOpenPost w0 w p g cap R z m N nx T rs (.returned (.tuple #[.pointer (some ⟨w.heap.size, 0, none⟩), .nilIface])) (w3.setCell ⟨w.heap.size, 4, none⟩ x)) := Lib.hid fun x hx =>
    ⟨w.heap.size, q, v, rfl, StoMem.made hx HU2.out hc hm (by have := HB.out.size; omega) hpl.1 (by omega) (by omega) fun k hk => by have := hv k hk; omega,
      ((ChgS.of_below (S := fun k => k = p ∨ k = g) HC2.out).trans hc fun _ _ h => h).setCell (ad := ⟨w.heap.size, 4, none⟩) (.inr (Nat.le_refl _)) _, Nat.le_refl _, fun k hk => by have := hv k hk; omega⟩
  clear hu3 hm hc hv
  go_wp2_with fail
  go_ret2
  exact HF.out _ rfl

set_option maxHeartbeats 6400000 in
set_option maxRecDepth 100000 in
/-- The power goes while the store is opened. -/
theorem sopen_cut (s : Nat → Addr) (w0 : World) (p g cap : Nat) (d : DS) (z m N nx : Nat) (T : List UInt8) (rs : List (List UInt8)) (x : Int) (w : World) (hs : Sent s w0) (hb : Below w0.heap.size w0 w) (h : DiskAt w p g cap d) (hlo : w0.heap.size ≤ g) (hx : x = (z : Int))
    (hz : 0 < z) (hz2 : z ≤ 108) (hm0 : 0 < m) (hfit : 2 * z + m = d.n) (ho : d.on = true) (ht : Tells7 d z N nx T) (hN : N ≤ 1073741824) (hw : d.wr + m ≤ 1000000) (hfol : Follows (rowsD d (2 * z) m) N rs) (hr : (d.wipe (2 * z + (layR N rs).length) (m - (layR N rs).length)).1 = 14) :
    Calls Tryz.prog 7 #[.pointer (some ⟨p, 0, none⟩), .int .i64 x] w fun e w' => e = .returned (.tuple #[.pointer none, errV s 14]) ∧ DiskAt w' p g cap (d.wipe (2 * z + (layR N rs).length) (m - (layR N rs).length)).2 ∧ ChgS (fun k => k = p ∨ k = g) w w' := by
  subst hx
  have hn4 := DS.n_le h.ok
  have hpl := h.lt
  have hlen := len_c p g cap d w h
  have HLEN := Lib.hid hlen
  obtain ⟨R, hR⟩ : ∃ R, (d.wipe (2 * z + (layR N rs).length) (m - (layR N rs).length)).2 = R := ⟨_, rfl⟩
  rw [hR]
  obtain ⟨W1, hW1⟩ : ∃ W1, w.alloc (.cells (stoV0 p z) 54) = W1 := ⟨_, rfl⟩
  have hbn : Below w.heap.size w W1 := by rw [← hW1]; exact (Below.refl _ _).alloc (Nat.le_refl _) _
  have hsw : W1.heap.size = w.heap.size + 1 := by rw [← hW1, World.size_alloc]
  have hblk : W1.heap[w.heap.size]? = some (.cells (stoV0 p z) 54 (0, 0)) := by rw [← hW1]; exact heap_alloc_new w _
  have hload := sload_c s w.heap.size p g cap d z N nx T W1 (hs.below (hb.trans (hbn.mono hb.size)) (Nat.le_refl _)) hblk (h.below hbn hpl.1) hpl.1 hz hz2 (by omega) ho ht
  have HLOAD := Lib.hid hload
  have hW1' : w.alloc (.cells #[.pointer (some ⟨p, 0, none⟩), .int .i64 (z : Int), .string ⟨#[]⟩, .int .i64 0, .pointer none, .bool false] 54) = W1 := hW1
  have f1 : ¬ ((z : Int) < 1) := by omega
  have f2 : ¬ ((108 : Int) < (z : Int)) := by omega
  have hwz : IntKind.i64.wrap (2 * (z : Int)) = 2 * (z : Int) := IntWalk.i64_in _ (by omega)
  have f3 : ¬ ((d.n : Int) ≤ 2 * (z : Int)) := by omega
  have f4 : ¬ ((1073741824 : Int) < (N : Int)) := by omega
  have HS := Lib.hid hs; have HB := Lib.hid hb; have HBN := Lib.hid hbn; have HDK := Lib.hid h; have HR := Lib.hid hR; have HFO := Lib.hid hfol; have HRR := Lib.hid hr
  clear hload hbn hlen h hW1 hs hb hblk ht hR hfol hr
  go_enter Tryz.func7, Tryz.ntmps7
  go_wp2_with fail
  refine (HLEN.out).mono ?_
  rintro e w1 ⟨rfl, rfl⟩
  go_wp2_with fail
  (try rw [hW1'])
  refine (HLOAD.out).mono ?_
  rintro e w2 ⟨rfl, hu2, hc2⟩
  have hb2 : Below w.heap.size w w2 := HBN.out.trans (hc2.below (fun k hk => by omega) (by omega))
  have hd2 : DiskAt w2 p g cap d := HDK.out.below hb2 hpl.1
  have hlen2 := len_c p g cap d w2 hd2
  have HLEN2 := Lib.hid hlen2
  have hb02 : Below w0.heap.size w0 w2 := HB.out.trans (hb2.mono HB.out.size)
  have hop := open_cut s w0 p g cap d (2 * z) m N rs (2 * (z : Int)) (d.n : Int) (N : Int) w2 HS.out hb02 hd2 hlo (by omega) (by omega) rfl hm0 (by omega) hN ho hw HFO.out HRR.out
  rw [HR.out] at hop
  simp only [errV_pos] at hop ⊢
  have HOP := Lib.hid hop
  have HU2 := Lib.hid hu2; have HC2 := Lib.hid hb2
  have hus : w.heap.size < w2.heap.size := lt_of_block hu2
  clear hlen2 hop hu2 hc2 hb2 hd2 hb02
  go_wp2_with fail
  refine (HLEN2.out).mono ?_
  rintro e w3 ⟨rfl, rfl⟩
  go_wp2_with fail
  refine (HOP.out).mono ?_
  rintro e w3 ⟨rfl, hd3, hc⟩
  have hu3 : w3.heap[w.heap.size]? = some (.cells (stoV1 p z (bst T) nx) 54 (0, 0)) := hc.row HU2.out (by rintro (h | h) <;> omega)
  have c4 : w3.cell? ⟨w.heap.size, 4, none⟩ = some (.pointer none) := cell_of_heap hu3 4
  have f4' := frozen_of_heap hu3 4
  have HF : Hid (∀ x, DiskAt (w3.setCell ⟨w.heap.size, 4, none⟩ x) p g cap R ∧ ChgS (fun k => k = p ∨ k = g) w (w3.setCell ⟨w.heap.size, 4, none⟩ x)) := Lib.hid fun x =>
    ⟨hd3.same (Below.heap_setCell w3 ⟨w.heap.size, 4, none⟩ x p (by show p ≠ w.heap.size; omega)) (Below.heap_setCell w3 ⟨w.heap.size, 4, none⟩ x g (by show g ≠ w.heap.size; omega)),
      ((ChgS.of_below (S := fun k => k = p ∨ k = g) HC2.out).trans hc fun _ _ h => h).setCell (ad := ⟨w.heap.size, 4, none⟩) (.inr (Nat.le_refl _)) _⟩
  clear hu3 hc hd3
  go_wp2_with fail
  go_ret2
  exact ⟨rfl, HF.out _⟩
end Go.Proofs.YtaibmdjcppeopaaGreatDoor

/- Contracts of a store's Keep and Add. Conditions: the sentinels lie as the program's text lays them; the store lies in memory; the disk has seen fewer than a million writes. -/
namespace Go.Proofs.YtaibmdjcppeopaaGreatDoor
open Go Go.RowKit

theorem StoMem.disked {w w' : World} {B u q p g cap : Nat} {d r : DS} {z m N nx : Nat} {T : ByteArray} {v : Value} {rs : List (List UInt8)} {fell lf : Bool} (h : StoMem w B u q p g cap d z m N T nx v rs fell lf) (hd : DiskAt w' p g cap r) (hc : ChgS (Dsk2 p g) w w') (hn : r.n = d.n) : StoMem w' B u q p g cap r z m N T nx v rs fell lf := by
  have hl := h.log.lt
  have h2 := h.uq
  have h3 := h.pu
  exact ⟨hc.row h.blk (by rintro (h | h) <;> omega), h.log.disked hd hc hn, h.lo, h.pu, h.uq, h.apart⟩
theorem dsk2_stoS {u q p g : Nat} {v : Value} {k : Nat} (h : Dsk2 p g k) : StoS u q p g v k := .inr (log3_logS (dsk2_log3 h))

set_option maxHeartbeats 6400000 in
set_option maxRecDepth 100000 in
theorem replace_ok (s : Nat → Addr) (w0 : World) (u q p g cap gb : Nat) (d e1 e2 e3 : DS) (z m N nx : Nat) (T : ByteArray) (v : Value) (rs L : List (List UInt8)) (N' : Nat) (x : Int) (w : World) (hs : Sent s w0) (hb : Below w0.heap.size w0 w) (h : StoMem w w0.heap.size u q p g cap d z m N T nx v rs false false)
    (hx : x = (N' : Int)) (hN' : N' ≤ 1073741824) (hrow : RowV w gb (strVs L)) (hgb : ∀ k, StoS u q p g v k → k ≠ gb) (hL64 : ∀ x ∈ L, x.length = 64) (hLz : L.length ≤ z) (hside : nx = 0 ∨ nx = z) (ho : d.on = true) (hw : d.wr + 2 * z + m ≤ 1000000)
    (a1 : d.wipe nx z = (0, e1)) (o1 : e1.on = true) (n1 : e1.n = d.n) (w1 : e1.wr ≤ d.wr + z) (a2 : e1.puts nx L = (0, e2)) (o2 : e2.on = true) (n2 : e2.n = d.n) (w2 : e2.wr ≤ d.wr + 2 * z) (a3 : e2.wipe (2 * z) m = (0, e3)) :
    Calls Tryz.prog 36 #[.pointer (some ⟨u, 0, none⟩), .slice (some ⟨gb, 0, none⟩) L.length L.length, .int .i64 x] w fun e w' => e = .returned .nilIface ∧ StoMem w' w0.heap.size u q p g cap e3 z m N' T nx (.slice none 0 0) [] false false ∧ ChgS (StoS u q p g v) w w' := by
  have hfit := h.log.fits
  have hn4 := DS.n_le h.log.disk.ok
  have hxz : nx + z ≤ 2 * z := by omega
  have hcel : ∀ (W : World) (r : DS), StoMem W w0.heap.size u q p g cap r z m N T nx v rs false false → Cel W u [(0, .pointer (some ⟨p, 0, none⟩)), (1, .int .i64 (z : Int)), (3, .int .i64 (nx : Int))] := fun W r h => Cel.mk3 h.cells.1 h.cells.2.1 h.cells.2.2.2.1
  have hCEL := Lib.hid (hcel w d h)
  have HCE := Lib.hid hcel
  have hbS : ∀ W, ChgS (StoS u q p g v) w W → Below w0.heap.size w0 W := fun W hW => hb.trans (hW.below (fun k hk => (h.lts k hk).1) hb.size)
  have HW : Hid (∀ W : World, Same w W → Calls Tryz.prog 44 #[.pointer (some ⟨p, 0, none⟩), .int .i64 (nx : Int), .int .i64 ((nx : Int) + (z : Int))] W fun e w' => e = .returned .nilIface ∧ StoMem w' w0.heap.size u q p g cap e1 z m N T nx v rs false false ∧ ChgS (StoS u q p g v) w w') := Lib.hid fun W hW => by
    have h1 := rwipe_c s w0 p g cap d nx z (nx : Int) ((nx : Int) + (z : Int)) W hs (hbS W (hW.chg _)) (h.same hW).log.disk h.log.lo rfl (by omega) (by omega) ho (by omega)
    rw [a1] at h1
    refine h1.mono ?_
    rintro e w' ⟨he, hd, hc⟩
    exact ⟨he, (h.same hW).disked hd hc n1, (hW.chg _).trans (hc.mono fun _ _ h => dsk2_stoS h) fun _ _ h => h⟩
  have HP : Hid (∀ w1 W : World, ChgS (StoS u q p g v) w w1 → StoMem w1 w0.heap.size u q p g cap e1 z m N T nx v rs false false → Same w1 W → Calls Tryz.prog 52 #[.pointer (some ⟨p, 0, none⟩), .int .i64 (nx : Int), .slice (some ⟨gb, 0, none⟩) L.length L.length] W fun e w' => e = .returned .nilIface ∧ StoMem w' w0.heap.size u q p g cap e2 z m N T nx v rs false false ∧ ChgS (StoS u q p g v) w w') := Lib.hid fun w1 W hc1 hm1 hW => by
    have hcW : ChgS (StoS u q p g v) w W := hc1.trans (hW.chg _) fun _ _ h => h
    have hmW := hm1.same hW
    have h1 := rput_c s w0 p g gb cap e1 nx (nx : Int) L W hs (hbS W hcW) hmW.log.disk hmW.log.lo rfl (hcW.row hrow fun hk => hgb gb hk rfl) (fun hk => hgb p (.inr (.inr (.inl rfl))) hk.symm) (fun hk => hgb g (.inr (.inr (.inr (.inl rfl)))) hk.symm) hL64 (by omega) o1 (by omega)
    rw [a2] at h1
    refine h1.mono ?_
    rintro e w' ⟨he, hd, hc⟩
    exact ⟨he, hmW.disked hd hc (n2.trans n1.symm), hcW.trans (hc.mono fun _ _ h => dsk2_stoS h) fun _ _ h => h⟩
  have HR : Hid (∀ w2 : World, ChgS (StoS u q p g v) w w2 → StoMem w2 w0.heap.size u q p g cap e2 z m N T nx v rs false false → Calls Tryz.prog 53 #[.pointer (some ⟨q, 0, none⟩), .int .i64 x] w2 fun e w' => e = .returned .nilIface ∧ StoMem w' w0.heap.size u q p g cap e3 z m N' T nx (.slice none 0 0) [] false false ∧ ChgS (StoS u q p g v) w w') := Lib.hid fun w2 hc2 hm2 => by
    have h1 := reset_c s w0 q p g cap e2 (2 * z) m N v rs N' x w2 hs (hbS w2 hc2) hm2.log hx hN' o2 (by omega)
    rw [a3] at h1
    refine h1.mono ?_
    rintro e w' (⟨_, rfl, hl, hc⟩ | ⟨hbad, _⟩)
    · have hcL : ChgS (LogS q p g v) w2 w' := hc.mono fun _ _ h => log3_logS h
      exact ⟨rfl, hm2.logged hcL hl (fun k hk => by simp [Value.ownBlock] at hk), hc2.trans hcL fun _ _ h => .inr h⟩
    · cases hbad
  have HSM := Lib.hid (Same.refl w)
  have hwv : IntKind.i64.wrap ((nx : Int) + (z : Int)) = (nx : Int) + (z : Int) := IntWalk.i64_in _ (by omega)
  clear hcel hs hb h hrow hbS a1 a2 a3 hx
  go_enter Tryz.func36, Tryz.ntmps36
  go_wp2_with fail
  go_region_held3 (fun W => W.cell? ⟨u, 0, none⟩ = some (.pointer (some ⟨p, 0, none⟩)) ∧ W.cell? ⟨u, 1, none⟩ = some (.int .i64 (z : Int)) ∧ W.cell? ⟨u, 3, none⟩ = some (.int .i64 (nx : Int)))
    (exact Cel.three (by (repeat' (first | (with_reducible assumption) | (with_reducible exact Hid.out (by with_reducible assumption)) | (with_reducible refine Cel.drewN ?_ _) | (with_reducible refine Cel.drew ?_)))))
    (first
      | (go_at_call 44; (with_reducible refine (HW.out _ (by (repeat' (first | (with_reducible assumption) | (with_reducible exact Hid.out (by with_reducible assumption)) | (with_reducible refine Same.thenN ?_ _) | (with_reducible refine Same.thenD ?_) | (with_reducible refine Same.refl _))))).mono ?_); rintro e w5 ⟨rfl, hm5, hc5⟩; have c5 : Cel w5 u [(0, .pointer (some ⟨p, 0, none⟩)), (1, .int .i64 (z : Int)), (3, .int .i64 (nx : Int))] := HCE.out _ _ hm5))
  all_goals (
    have hCEL5 := Lib.hid c5
    have HP5 := Lib.hid (fun W => HP.out w5 W hc5 hm5)
    have HSM5 := Lib.hid (Same.refl w5)
    clear c5 hCEL HW HSM hm5 hc5 HP
    go_wp2_with fail
    go_region_held3 (fun W => W.cell? ⟨u, 0, none⟩ = some (.pointer (some ⟨p, 0, none⟩)) ∧ W.cell? ⟨u, 1, none⟩ = some (.int .i64 (z : Int)) ∧ W.cell? ⟨u, 3, none⟩ = some (.int .i64 (nx : Int)))
      (exact Cel.three (by (repeat' (first | (with_reducible assumption) | (with_reducible exact Hid.out (by with_reducible assumption)) | (with_reducible refine Cel.drewN ?_ _) | (with_reducible refine Cel.drew ?_)))))
      (first
        | (go_at_call 52; (with_reducible refine (HP5.out _ (by (repeat' (first | (with_reducible assumption) | (with_reducible exact Hid.out (by with_reducible assumption)) | (with_reducible refine Same.thenN ?_ _) | (with_reducible refine Same.thenD ?_) | (with_reducible refine Same.refl _))))).mono ?_); rintro e w6 ⟨rfl, hm6, hc6⟩; have c6 : Cel w6 u [(0, .pointer (some ⟨p, 0, none⟩)), (1, .int .i64 (z : Int)), (3, .int .i64 (nx : Int))] := HCE.out _ _ hm6))
    all_goals (
      have c4 := hm6.cells.2.2.2.2.1
      have HR6 := Lib.hid (HR.out w6 hc6 hm6)
      clear c6 hCEL5 HP5 HSM5 HCE HR hm6 hc6
      go_wp2_with fail
      refine (HR6.out).mono ?_
      rintro e w7 ⟨rfl, hm7, hc7⟩
      have HF := Lib.hid (And.intro hm7 hc7)
      clear hm7 hc7
      go_wp2_with fail
      go_ret
      exact ⟨rfl, HF.out⟩))
end Go.Proofs.YtaibmdjcppeopaaGreatDoor

/- Contracts of a store's Keep and Add that come through. Conditions: the sentinels lie as the program's text lays them; the store lies in memory; the disk has seen fewer than a million writes. -/
namespace Go.Proofs.YtaibmdjcppeopaaGreatDoor
open Go Go.RowKit

theorem StoMem.renewed {w : World} {B u q p g cap : Nat} {d : DS} {z m N nx nx' : Nat} {T X : ByteArray} {v x y : Value} {rs : List (List UInt8)} {lf : Bool} (h : StoMem w B u q p g cap d z m N T nx v rs false lf) (hx : x = .string X) (hy : y = .int .i64 (nx' : Int)) :
    StoMem ((w.setCell ⟨u, 2, none⟩ x).setCell ⟨u, 3, none⟩ y) B u q p g cap d z m N X nx' v rs false lf ∧ ChgS (fun k => k = u) w ((w.setCell ⟨u, 2, none⟩ x).setCell ⟨u, 3, none⟩ y) := by
  have hl := h.log.lt
  have h2 := h.uq
  have h3 := h.pu
  have hc : ChgS (fun k => k = u) w ((w.setCell ⟨u, 2, none⟩ x).setCell ⟨u, 3, none⟩ y) := ((ChgS.refl (fun k => k = u) _).setCell (ad := ⟨u, 2, none⟩) (.inl rfl) _).setCell (ad := ⟨u, 3, none⟩) (.inl rfl) _
  refine ⟨⟨?_, h.log.kept hc ?_, h.lo, h.pu, h.uq, h.apart⟩, hc⟩
  · rw [set_cells (set_cells h.blk), hx, hy]; rfl
  · rintro k (h | h4 | h | h4) h5
    · omega
    · omega
    · omega
    · exact h.apart k h4 h5

set_option maxHeartbeats 1600000 in
set_option maxRecDepth 100000 in
theorem skeep_ok (s : Nat → Addr) (w0 : World) (u q p g cap : Nat) (d e1 e2 e3 : DS) (z m N nx : Nat) (T X : ByteArray) (v : Value) (rs : List (List UInt8)) (w : World) (hs : Sent s w0) (hb : Below w0.heap.size w0 w) (h : StoMem w w0.heap.size u q p g cap d z m N T nx v rs false false)
    (hX : X.size ≤ 6000) (hnz : nblk X.size ≤ z) (hN' : N + rs.length + 1 ≤ 1073741824) (hside : nx = 0 ∨ nx = z) (ho : d.on = true) (hw : d.wr + 2 * z + m ≤ 1000000)
    (a1 : d.wipe nx z = (0, e1)) (o1 : e1.on = true) (n1 : e1.n = d.n) (w1 : e1.wr ≤ d.wr + z) (a2 : e1.puts nx (framesF (N + rs.length + 1) X.data.toList) = (0, e2)) (o2 : e2.on = true) (n2 : e2.n = d.n) (w2 : e2.wr ≤ d.wr + 2 * z) (a3 : e2.wipe (2 * z) m = (0, e3)) :
    Calls Tryz.prog 17 #[.pointer (some ⟨u, 0, none⟩), .string X] w fun e w' => e = .returned .nilIface ∧ StoMem w' w0.heap.size u q p g cap e3 z m (N + rs.length + 1) X (z - nx) (.slice none 0 0) [] false false ∧ ChgS (StoS u q p g v) w w' := by
  have hfit := h.log.fits
  have hn4 := DS.n_le h.log.disk.ok
  have hnb := nblk_bd hX
  have hsq := seq_c _ u q p g cap d z m N nx T v rs false false w h
  have HSQ := Lib.hid hsq
  have HM := Lib.hid h; have HS := Lib.hid hs; have HB := Lib.hid hb
  obtain ⟨L, hL⟩ : ∃ L, framesF (N + rs.length + 1) X.data.toList = L := ⟨_, rfl⟩
  have hLl : L.length = nblk X.size := by rw [← hL, framesF_len, size_len]
  have hL64 : ∀ x ∈ L, x.length = 64 := by rw [← hL]; exact frames_64
  rw [hL] at a2
  have HSZ : Hid (∀ W : World, Calls Tryz.prog 33 #[.string X] W fun e w' => e = .returned (.int .i64 (L.length : Nat)) ∧ w' = W) := Lib.hid fun W => by
    have h1 := sizeS_c X W (by omega)
    rw [← hLl] at h1; exact h1.mono fun _ _ ⟨k1, k2⟩ => ⟨k1, k2.symm⟩
  have g1 : decide ((z : Int) < (L.length : Int)) = false := decide_eq_false (by omega)
  have HLL := Lib.hid hLl; have HLN := Lib.hid hL
  rw [← hLl] at hnb hnz
  clear hsq h hs hb hLl hL
  go_enter Tryz.func17, Tryz.ntmps17
  go_wp2_with fail
  refine (HSQ.out).mono ?_
  rintro e x1 ⟨he, h1⟩
  obtain ⟨Q, he2, hQ⟩ : ∃ Q : Int, e = .returned (.int .i64 Q) ∧ Q = ((N + rs.length : Nat) : Int) := ⟨_, he, rfl⟩
  subst he2
  clear he
  have HQ := Lib.hid hQ
  have hq0 : 0 ≤ Q := by omega
  have hq1 : Q ≤ 1073741823 := by omega
  have g2 : decide ((1073741824 : Int) < Q + 1) = false := decide_eq_false (by omega)
  have hwq : IntKind.i64.wrap (Q + 1) = Q + 1 := IntWalk.i64_in _ (by omega)
  have HM1 := Lib.hid (HM.out.same h1)
  have H1 := Lib.hid h1
  have c1 := HM1.out.cells.2.1
  clear hQ h1 HSQ
  go_wp2_with fail
  go_quiet ((go_at_call 33; exact Calls.quiet_of_same (HSZ.out _)))
  go_wp2_with fail
  have HBL := Lib.hid (blocks_okx (Q + 1) (N + rs.length + 1) X (x1.drewN nq) (by have := HQ.out; omega) (by omega) (by omega) hX)
  rw [HLN.out, ← HLL.out] at HBL
  refine (HBL.out).mono ?_
  rintro e x2 ⟨⟨gb, rfl, hrow, hgb⟩, b2⟩
  have hsn : Same x1 (x1.drewN nq) := Same.drewN _ _
  have hb12 : Below w.heap.size w x2 := (H1.out.below _).trans ((hsn.below _).trans (b2.mono (by rw [hsn.size, H1.out.size]; exact Nat.le_refl _)))
  have hm2 := (HM1.out.same hsn).below b2 (Nat.le_refl _)
  have hgw : w.heap.size ≤ gb := by rw [← H1.out.size, ← hsn.size]; exact hgb
  have c5 := hm2.cells.2.2.2.2.2
  have hrep := replace_ok s w0 u q p g cap gb d e1 e2 e3 z m N nx T v rs L (N + rs.length + 1) (Q + 1) x2 HS.out (HB.out.trans (hb12.mono HB.out.size)) hm2 (by have := HQ.out; omega) hN' hrow (fun k hk he => by have := (HM.out.lts k hk).2; omega) hL64 (by omega) hside ho hw a1 o1 n1 w1 a2 o2 n2 w2 a3
  have HREP := Lib.hid hrep
  have HB12 := Lib.hid hb12
  clear b2 hrow hgb hb12 hm2 hsn HBL hrep c1 HM1 H1 a1 a2 a3
  go_wp2_with fail
  refine (HREP.out).mono ?_
  rintro e x3 ⟨rfl, hm3, hc3⟩
  have hsx : Sent s x3 := HS.out.below (((HB.out.trans (HB12.out.mono HB.out.size))).trans (hc3.below (fun k hk => (HM.out.lts k hk).1) ((HB.out.trans (HB12.out.mono HB.out.size))).size)) (Nat.le_refl _)
  have hnt := snote_nil s _ u q p g cap e3 z m (N + rs.length + 1) nx T _ [] false false x3 hsx hm3
  have HNT := Lib.hid hnt; have HM3 := Lib.hid hm3; have HC3 := Lib.hid hc3
  clear hm3 hc3 hsx hnt HREP
  go_wp2_with fail
  refine (HNT.out).mono ?_
  rintro e x4 ⟨rfl, h4⟩
  have hm4 := HM3.out.same h4
  have hc4 : ChgS (StoS u q p g v) w x4 := ((ChgS.of_below HB12.out).trans HC3.out fun _ _ h => h).trans (h4.chg (StoS u q p g v)) fun _ _ h => h
  have d1 := hm4.cells.2.1
  have d2 := hm4.cells.2.2.1
  have d3 := hm4.cells.2.2.2.1
  have f2 := frozen_of_heap hm4.blk 2
  have f3 := frozen_of_heap hm4.blk 3
  have HF : Hid (∀ x y, x = .string X → y = .int .i64 ((z - nx : Nat) : Int) → (fun (e : Ending) (w' : World) => e = .returned .nilIface ∧ StoMem w' w0.heap.size u q p g cap e3 z m (N + rs.length + 1) X (z - nx) (.slice none 0 0) [] false false ∧ ChgS (StoS u q p g v) w w') (.returned .nilIface) ((x4.setCell ⟨u, 2, none⟩ x).setCell ⟨u, 3, none⟩ y)) := Lib.hid fun x y hx hy => by
    obtain ⟨k1, k2⟩ := hm4.renewed (X := X) (nx' := z - nx) hx hy
    exact ⟨rfl, k1, hc4.trans k2 fun _ _ h => .inl h⟩
  have hwz : IntKind.i64.wrap ((z : Int) - (nx : Int)) = (z : Int) - (nx : Int) := IntWalk.i64_in _ (by omega)
  clear hm4 hc4 h4 HNT HM3 HC3 c5
  go_wp2_with fail
  go_region
  all_goals go_wp2_with fail
  all_goals go_ret
  all_goals (
    obtain ⟨k1, k2, k3⟩ := HF.out (.string X) (.int .i64 ((z : Int) - (nx : Int))) rfl (ret_v (by omega))
    exact ⟨rfl, k2.same (Same.drew _), k3.drew⟩)

/-- A store that is sound; its disk has seen at most k writes. -/
structure LiveS (w : World) (B u q p g cap z m N nx : Nat) (T : ByteArray) (v : Value) (rs : List (List UInt8)) (k : Nat) (d : DS) : Prop where
  mem : StoMem w B u q p g cap d z m N T nx v rs false false
  at_ : LogAt d (2 * z) m N rs
  sel : Tells7 d z N nx T.data.toList
  zpos : 0 < z
  full : 2 * z + m = d.n
  on : d.on = true
  fuse : d.fuse < 0
  wr : d.wr ≤ k
theorem LiveS.kept {w w' : World} {S : Nat → Prop} {B u q p g cap z m N nx k : Nat} {T : ByteArray} {v : Value} {rs : List (List UInt8)} {d : DS} (h : LiveS w B u q p g cap z m N nx T v rs k d) (hc : ChgS S w w') (hS : ∀ k, StoS u q p g v k → ¬ S k) : LiveS w' B u q p g cap z m N nx T v rs k d :=
  ⟨h.mem.kept hc hS, h.at_, h.sel, h.zpos, h.full, h.on, h.fuse, h.wr⟩
theorem LiveS.same {w w' : World} {B u q p g cap z m N nx k : Nat} {T : ByteArray} {v : Value} {rs : List (List UInt8)} {d : DS} (h : LiveS w B u q p g cap z m N nx T v rs k d) (hs : Same w w') : LiveS w' B u q p g cap z m N nx T v rs k d := ⟨h.mem.same hs, h.at_, h.sel, h.zpos, h.full, h.on, h.fuse, h.wr⟩
theorem LiveS.below {w w' : World} {B C u q p g cap z m N nx k : Nat} {T : ByteArray} {v : Value} {rs : List (List UInt8)} {d : DS} (h : LiveS w B u q p g cap z m N nx T v rs k d) (hb : Below C w w') (hC : w.heap.size ≤ C) : LiveS w' B u q p g cap z m N nx T v rs k d := ⟨h.mem.below hb hC, h.at_, h.sel, h.zpos, h.full, h.on, h.fuse, h.wr⟩
theorem LiveS.le {w : World} {B u q p g cap z m N nx k k' : Nat} {T : ByteArray} {v : Value} {rs : List (List UInt8)} {d : DS} (h : LiveS w B u q p g cap z m N nx T v rs k d) (hk : k ≤ k') : LiveS w B u q p g cap z m N nx T v rs k' d := ⟨h.mem, h.at_, h.sel, h.zpos, h.full, h.on, h.fuse, Nat.le_trans h.wr hk⟩
theorem bst_back (T : List UInt8) : (bst T).data.toList = T := rfl

theorem lives_open (s : Nat → Addr) (w0 : World) (p g cap : Nat) (d : DS) (z m N nx k : Nat) (T : List UInt8) (rs : List (List UInt8)) (x : Int) (w : World) (hs : Sent s w0) (hb : Below w0.heap.size w0 w) (h : DiskAt w p g cap d) (hlo : w0.heap.size ≤ g) (hx : x = (z : Int))
    (hz : 0 < z) (hz2 : z ≤ 108) (hm0 : 0 < m) (hfit : 2 * z + m = d.n) (ho : d.on = true) (hf : d.fuse < 0) (ht : Tells7 d z N nx T) (hN : N ≤ 1073741824) (hk : d.wr ≤ k) (hw : k + m ≤ 1000000) (hfol : Follows (rowsD d (2 * z) m) N rs) :
    Calls Tryz.prog 7 #[.pointer (some ⟨p, 0, none⟩), .int .i64 x] w fun e w' => ∃ u q v d', e = .returned (.tuple #[.pointer (some ⟨u, 0, none⟩), .nilIface]) ∧ LiveS w' w0.heap.size u q p g cap z m N nx (bst T) v rs (k + m) d' ∧ ChgS (fun i => i = p ∨ i = g) w w' ∧ w.heap.size ≤ u ∧
      (∀ i, v.ownBlock = some i → w.heap.size ≤ i) ∧ d'.n = d.n ∧ (∀ j, j < 2 * z → d'.blk j = d.blk j) ∧ Below w0.heap.size w0 w' := by
  obtain ⟨hU, d', hwp, hat, hlike, hon, hfu, hout⟩ := open_ok hfol (by omega) ho hf
  have hwn := wipe_n (d := d) (m := m - (layR N rs).length) (i := 2 * z + (layR N rs).length) (by omega) ho
  refine (sopen_c s w0 p g cap d z m N nx T rs x w hs hb h hlo hx hz hz2 hm0 hfit ho ht hN (by omega) hfol (by rw [hwp])).mono ?_
  rintro e w1 ⟨u, q, v, rfl, hm, hc, hu, hv⟩
  rw [hwp] at hm hwn
  exact ⟨u, q, v, d', rfl, ⟨hm, hat, by rw [bst_back]; exact ht.same fun j hj => hout j (.inl (by omega)), hz, by rw [hlike.n]; exact hfit, hon, by rw [hfu]; exact hf, show d'.wr ≤ k + m from Nat.le_trans hwn.2 (by omega)⟩, hc, hu, hv, hlike.n, fun j hj => hout j (.inl (by omega)), hb.trans (hc.below (fun i hi => by have := h.lt; omega) hb.size)⟩

theorem lives_keep (s : Nat → Addr) (w0 : World) (u q p g cap z m N nx k : Nat) (T X : ByteArray) (v : Value) (rs : List (List UInt8)) (d : DS) (w : World) (hs : Sent s w0) (hb : Below w0.heap.size w0 w) (h : LiveS w w0.heap.size u q p g cap z m N nx T v rs k d)
    (hX : X.size ≤ 6000) (hnz : nblk X.size ≤ z) (hN' : N + rs.length + 1 ≤ 1073741824) (hw : k + 2 * z + m ≤ 1000000) :
    Calls Tryz.prog 17 #[.pointer (some ⟨u, 0, none⟩), .string X] w fun e w' => e = .returned .nilIface ∧ ∃ d', LiveS w' w0.heap.size u q p g cap z m (N + rs.length + 1) (z - nx) X (.slice none 0 0) [] (k + 2 * z + m) d' ∧ ChgS (StoS u q p g v) w w' ∧ d'.n = d.n ∧
      rowsD d' nx z = framesF (N + rs.length + 1) X.data.toList ++ List.replicate (z - nblk X.size) zeroF ∧ (∀ i, i < z → d'.blk (z - nx + i) = d.blk (z - nx + i)) ∧ Below w0.heap.size w0 w' := by
  have hwr := h.wr
  have hsl : X.data.toList.length = X.size := size_len X
  obtain ⟨e1, e2, e3, a1, o1, n1, w1, a2, o2, n2, w2, a3, o3, f3, n3, w3, ht, hat, hrow, hold⟩ := keep_ok (X := X.data.toList) h.zpos h.sel h.at_ (by omega) (by rw [hsl]; exact hnz) (by omega) h.on h.fuse
  refine (skeep_ok s w0 u q p g cap d e1 e2 e3 z m N nx T X v rs w hs hb h.mem hX hnz hN' h.sel.facts.1 h.on (by omega) a1 o1 n1 w1 a2 o2 n2 w2 a3).mono ?_
  rintro e w' ⟨rfl, hm, hc⟩
  exact ⟨rfl, e3, ⟨hm, hat, ht, h.zpos, by rw [n3]; exact h.full, o3, f3, by omega⟩, hc, n3, by rw [← hsl]; exact hrow, hold, hb.trans (hc.below (fun k hk => (h.mem.lts k hk).1) hb.size)⟩

set_option maxHeartbeats 1600000 in
set_option maxRecDepth 100000 in
theorem lives_add (s : Nat → Addr) (w0 : World) (u q p g cap z m N nx k : Nat) (T X : ByteArray) (v : Value) (rs : List (List UInt8)) (d : DS) (w : World) (hs : Sent s w0) (hb : Below w0.heap.size w0 w) (h : LiveS w w0.heap.size u q p g cap z m N nx T v rs k d)
    (hX : X.size ≤ 6000) (hroom : nblk X.size ≤ m - (layR N rs).length) (hnext : N + rs.length + 1 < 1073741824) (hw : k + 108 ≤ 1000000) :
    Calls Tryz.prog 20 #[.pointer (some ⟨u, 0, none⟩), .string X] w fun e w' => e = .returned .nilIface ∧ ∃ v' d', LiveS w' w0.heap.size u q p g cap z m N nx T v' (rs ++ [X.data.toList]) (k + 108) d' ∧ ChgS (StoS u q p g v) w w' ∧ (∀ i, v'.ownBlock = some i → v.ownBlock = some i ∨ w.heap.size ≤ i) ∧ d'.n = d.n ∧
      (∀ j, j < 2 * z → d'.blk j = d.blk j) ∧ Below w0.heap.size w0 w' := by
  have c4 := h.mem.cells.2.2.2.2.1
  have had := live_add s w0 q p g cap (2 * z) m N k v rs d X w hs hb ⟨h.mem.log, h.at_, h.on, h.fuse, h.wr⟩ hX hroom hnext hw
  have HAD := Lib.hid had; have HL := Lib.hid h; have HS := Lib.hid hs; have HB := Lib.hid hb
  clear had h hs hb hroom
  go_enter Tryz.func20, Tryz.ntmps20
  go_wp2_with fail
  refine (HAD.out).mono ?_
  rintro e x1 ⟨rfl, v', d', hl, hc, hv, hn, hout, hb1⟩
  have hm := HL.out.mem.logged hc hl.mem hv
  have hlv : LiveS x1 w0.heap.size u q p g cap z m N nx T v' (rs ++ [X.data.toList]) (k + 108) d' := ⟨hm, hl.at_, HL.out.sel.same fun j hj => hout j (.inl (by omega)), HL.out.zpos, by rw [hn]; exact HL.out.full, hl.on, hl.fuse, hl.wr⟩
  have HN := Lib.hid (snote_nil s _ u q p g cap d' z m N nx T v' _ false false x1 (HS.out.below hb1 (Nat.le_refl _)) hm)
  have HLV := Lib.hid hlv; have HC := Lib.hid hc; have HV := Lib.hid hv; have HO := Lib.hid hout; have HB1 := Lib.hid hb1
  clear hl hc hv hout hb1 hm hlv HAD
  go_wp2_with fail
  refine (HN.out).mono ?_
  rintro e x2 ⟨rfl, h2⟩
  have HF := Lib.hid h2
  clear h2
  go_wp2_with fail
  go_ret
  exact ⟨rfl, v', d', HLV.out.same HF.out, (HC.out.mono fun _ _ h => .inr h).trans (HF.out.chg (StoS u q p g v)) fun _ _ h => h, HV.out, hn, fun j hj => HO.out j (.inl (by omega)), HB1.out.trans (HF.out.below _)⟩
end Go.Proofs.YtaibmdjcppeopaaGreatDoor

/- The document's examples of stores stand. Conditions: the sentinels lie as the program's text lays them. -/
namespace Go.Proofs.YtaibmdjcppeopaaGreatDoor
open Go Go.RowKit

theorem zeros_snap {z : Nat} (hz : 0 < z) : snapF (List.replicate z zeroF) = (0, []) := snapF_err (readF_zero (by rw [List.getElem?_replicate_of_lt hz]))
theorem fresh_tells {w : World} {p g cap n z : Nat} {d : DS} (h : FreshD w p g cap n d) (hz : 0 < z) (hn : 2 * z ≤ n) : Tells7 d z 0 0 [] := by
  unfold Tells7
  rw [h.rows 0 z (by omega), h.rows z z (by omega), zeros_snap hz]
  rfl
theorem lay_one (b : Nat) (x : List UInt8) : (layR b [x]).length = nblk x.length := by rw [layR, layR, List.append_nil, framesF_len]

set_option maxHeartbeats 3200000 in
set_option maxRecDepth 100000 in
/-- The examples of the document stand. -/
theorem awake7_c (s : Nat → Addr) (w : World) (hs : Sent s w) :
    Calls Tryz.prog 4 #[] w fun e w' => e = .returned (.bool true) ∧ Below w.heap.size w w' := by
  obtain ⟨X1, hX1⟩ : ∃ T : ByteArray, T = ⟨#[111, 110, 101]⟩ := ⟨_, rfl⟩
  obtain ⟨X2, hX2⟩ : ∃ T : ByteArray, T = ⟨#[116, 119, 111]⟩ := ⟨_, rfl⟩
  obtain ⟨X3, hX3⟩ : ∃ T : ByteArray, T = ⟨#[98, 111, 116, 104]⟩ := ⟨_, rfl⟩
  obtain ⟨X4, hX4⟩ : ∃ T : ByteArray, T = ⟨#[116, 104, 114, 101, 101]⟩ := ⟨_, rfl⟩
  have hs1 : X1.size = 3 := by rw [hX1]; rfl
  have hs2 : X2.size = 3 := by rw [hX2]; rfl
  have hs3 : X3.size = 4 := by rw [hX3]; rfl
  have hs4 : X4.size = 5 := by rw [hX4]; rfl
  obtain ⟨R1, hR1⟩ : ∃ R, X1.data.toList = R := ⟨_, rfl⟩
  obtain ⟨R2, hR2⟩ : ∃ R, X2.data.toList = R := ⟨_, rfl⟩
  obtain ⟨R4, hR4⟩ : ∃ R, X4.data.toList = R := ⟨_, rfl⟩
  have hl1 : R1.length = 3 := by rw [← hR1, size_len]; exact hs1
  have HR4 := Lib.hid hR4
  go_enter Tryz.func4, Tryz.ntmps4
  go_wp2_with fail
  refine (fresh_c 20 20 _ rfl (by omega)).mono ?_
  rintro e w1 ⟨p, g, cap, d, rfl, hd, b1, hg⟩
  have hdn := hd.n_
  have hop := lives_open s w p g cap d 3 14 0 0 0 [] [] 3 w1 hs b1 hd.at_ hg rfl (by omega) (by omega) (by omega) (by omega) hd.on hd.fuse (fresh_tells hd (by omega) (by omega)) (by omega) (by have := hd.wr; omega) (by omega) (fresh_follows hd (by omega) (by omega))
  have HOP := Lib.hid hop
  clear hop hd b1
  go_wp2_with fail
  refine (HOP.out).mono ?_
  rintro e w2 ⟨u, q, v, d2, rfl, hl2, hc2, hu2, hv2, hn2, _, hb2⟩
  have had := lives_add s w u q p g cap 3 14 0 0 14 (bst []) X1 v [] d2 w2 hs hb2 hl2 (by omega) (by rw [hs1]; decide) (by simp) (by omega)
  rw [hR1, hX1] at had
  have HAD := Lib.hid had
  clear had hl2 hc2 hb2 HOP hv2
  go_wp2_with fail
  refine (HAD.out).mono ?_
  rintro e w3 ⟨rfl, v3, d3, hl3, hc3, hv3, hn3, _, hb3⟩
  rw [List.nil_append] at hl3
  have had := lives_add s w u q p g cap 3 14 0 0 122 (bst []) X2 v3 [R1] d3 w3 hs hb3 hl3 (by omega) (by rw [lay_one, hl1, hs2]; decide) (by simp) (by omega)
  rw [hR2, hX2] at had
  have HAD := Lib.hid had
  clear had hl3 hc3 hb3 hv3
  go_wp2_with fail
  refine (HAD.out).mono ?_
  rintro e w4 ⟨rfl, v4, d4, hl4, hc4, hv4, hn4, _, hb4⟩
  have hke := lives_keep s w u q p g cap 3 14 0 0 230 (bst []) X3 v4 _ d4 w4 hs hb4 hl4 (by omega) (by rw [hs3]; decide) (by simp) (by omega)
  rw [hX3] at hke
  have HKE := Lib.hid hke
  clear hke hl4 hc4 hb4 hv4 HAD
  go_wp2_with fail
  refine (HKE.out).mono ?_
  rintro e w5 ⟨rfl, d5, hl5, hc5, hn5, _, _, hb5⟩
  rw [← hX3] at hl5
  have had := lives_add s w u q p g cap 3 14 3 3 250 X3 X4 (.slice none 0 0) [] d5 w5 hs hb5 hl5 (by omega) (by rw [hs4]; decide) (by simp) (by omega)
  rw [hR4, hX4] at had
  have HAD := Lib.hid had
  clear had hl5 hc5 hb5 HKE
  go_wp2_with fail
  refine (HAD.out).mono ?_
  rintro e w6 ⟨rfl, v6, d6, hl6, hc6, hv6, hn6, _, hb6⟩
  rw [List.nil_append] at hl6
  have hop := lives_open s w p g cap d6 3 14 3 3 358 X3.data.toList [R4] 3 w6 hs hb6 hl6.mem.log.disk hl6.mem.log.lo rfl (by omega) (by omega) (by omega) hl6.full hl6.on hl6.fuse hl6.sel (by omega) hl6.wr (by omega) hl6.at_.follows
  rw [← bst_of] at hop
  have HOP := Lib.hid hop
  clear hop hl6 hc6 hb6 hv6 HAD
  go_wp2_with fail
  refine (HOP.out).mono ?_
  rintro e w7 ⟨u7, q7, v7, d7, rfl, hl7, hc7, hu7, hv7, hn7, _, hb7⟩
  have HL7 := Lib.hid hl7; have HB7 := Lib.hid hb7
  clear hl7 hc7 hb7 hv7 HOP
  go_wp2_with fail
  refine (state_c _ u7 q7 p g cap d7 3 14 3 3 X3 v7 _ false false _ HL7.out.mem).mono ?_
  rintro e w8 ⟨rfl, rfl⟩
  rw [hX3]
  go_wp2_with fail
  refine (srecs_c _ u7 q7 p g cap d7 3 14 3 3 X3 v7 _ false false _ HL7.out.mem).mono ?_
  rintro e w8 ⟨⟨v8, rfl, o8⟩, b8⟩
  have HL8 := Lib.hid (HL7.out.below b8 (Nat.le_refl _))
  have HB8 : Hid (Below w.heap.size w w8) := Lib.hid (HB7.out.trans (b8.mono HB7.out.size))
  have HR8 := Lib.hid (own_reads o8)
  clear o8 b8 HL7 HB7
  go_wp2_with fail
  have b9 : Below w8.heap.size w8 (w8.alloc (.cells #[.string ⟨#[116, 104, 114, 101, 101]⟩] 9)) := (Below.refl _ _).alloc (Nat.le_refl _) _
  have hrd := reads_one w8 X4
  rw [hR4, hX4] at hrd
  have hsm := same_c _ _ _ _ _ (HR8.out.below b9 (Nat.le_refl _)) hrd (by simp) (by simp)
  rw [decide_eq_true rfl] at hsm
  have HSM := Lib.hid hsm
  have HL9 := Lib.hid (HL8.out.below b9 (Nat.le_refl _))
  have HB9 := Lib.hid (HB8.out.trans (b9.mono HB8.out.size))
  clear hsm hrd b9
  refine (HSM.out).mono ?_
  rintro e w9 ⟨rfl, h9⟩
  have HL10 := Lib.hid (HL9.out.same h9)
  have HB10 : Hid (Below w.heap.size w w9) := Lib.hid (HB9.out.trans (h9.below _))
  clear h9
  go_wp2_with fail
  refine (seq_c _ u7 q7 p g cap d7 3 14 3 3 _ v7 _ false false _ HL10.out.mem).mono ?_
  rintro e w10 ⟨rfl, h10⟩
  have HB11 : Hid (Below w.heap.size w w10) := Lib.hid (HB10.out.trans (h10.below _))
  clear h10
  go_wp2_with fail
  go_ret
  exact ⟨rfl, HB11.out⟩
end Go.Proofs.YtaibmdjcppeopaaGreatDoor
