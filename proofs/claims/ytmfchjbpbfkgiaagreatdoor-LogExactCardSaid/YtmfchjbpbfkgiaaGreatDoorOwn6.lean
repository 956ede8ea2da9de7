/- The contract of the law package's own function that tells which error it is. Condition: the fourteen sentinels lie where the program's text lays them. -/
import Derived.Test.YtmfchjbpbfkgiaaGreatDoorErrs
import Derived.LoopTactic
import Derived.Lib.Hide
import Derived.Test.YtmfchjbpbfkgiaaGreatDoorLgRd
import Derived.StillTailTactics
namespace Go.Proofs.YtmfchjbpbfkgiaaGreatDoor
open Go Go.RowKit Go.Extern.Stop Go.Stop Go.Extern

/-- The row of the fourteen sentinels. -/
def sentRow (s : Nat → Addr) : Array Value := #[.iface 163 (.pointer (some (s 0))), .iface 163 (.pointer (some (s 1))), .iface 163 (.pointer (some (s 2))), .iface 163 (.pointer (some (s 3))), .iface 163 (.pointer (some (s 4))), .iface 163 (.pointer (some (s 5))), .iface 163 (.pointer (some (s 6))), .iface 163 (.pointer (some (s 7))), .iface 163 (.pointer (some (s 8))), .iface 163 (.pointer (some (s 9))), .iface 163 (.pointer (some (s 10))), .iface 163 (.pointer (some (s 11))), .iface 163 (.pointer (some (s 12))), .iface 163 (.pointer (some (s 13)))]


theorem sentRow_at (s : Nat → Addr) (j : Nat) (hj : j < 14) : (sentRow s)[j]? = some (.iface 163 (.pointer (some (s j)))) := by
  match j, hj with
  | 0, _ => rfl
  | 1, _ => rfl
  | 2, _ => rfl
  | 3, _ => rfl
  | 4, _ => rfl
  | 5, _ => rfl
  | 6, _ => rfl
  | 7, _ => rfl
  | 8, _ => rfl
  | 9, _ => rfl
  | 10, _ => rfl
  | 11, _ => rfl
  | 12, _ => rfl
  | 13, _ => rfl

/-- What a round of the search begins with: the counter at most k, the row in its block. -/
def KRel (s : Nat → Addr) (w : World) (k : Nat) (i : Value) (wr : World) : Prop :=
  ∃ j : Nat, j ≤ k ∧ i = .int .i64 j ∧ Sent s wr ∧ Below w.heap.size w wr ∧ (∀ n, n < 14 → wr.cell? ⟨w.heap.size, n, none⟩ = some (.iface 163 (.pointer (some (s n)))))

theorem KRel.start (s : Nat → Addr) (w : World) (k : Nat) (hs : Sent s w) : KRel s w k (.int .i64 0) (w.alloc (.cells (sentRow s) 70)) := by
  have hb : Below w.heap.size w (w.alloc (.cells (sentRow s) 70)) := (Below.refl _ _).alloc (Nat.le_refl _) _
  refine ⟨0, Nat.zero_le _, rfl, hs.below hb (Nat.le_refl _), hb, fun n hn => ?_⟩
  rw [World.cell?_alloc_at _ _ _ _ rfl]
  exact sentRow_at s n hn

/-- A value that errors.Is tells from each sentinel but the one of the place k. -/
def Tells (s : Nat → Addr) (k : Nat) (v : Value) (w : World) : Prop :=
  ∀ W : World, Below w.heap.size w W → ∀ j, j < 14 → Calls Tryz.prog 46 #[v, .iface 163 (.pointer (some (s j)))] W fun e w' => e = .returned (.bool (decide (k = j))) ∧ W = w'

set_option maxRecDepth 100000 in
set_option maxHeartbeats 800000 in
theorem kind_of (s : Nat → Addr) (k : Nat) (T : TypeId) (a : Addr) (w : World) (hs : Sent s w) (hk : k < 14) (ht : Tells s k (.iface T (.pointer (some a))) w) :
    Calls Tryz.prog 10 #[.iface T (.pointer (some a))] w fun e w' => e = .returned (.int .i64 (k + 1 : Nat)) ∧ Below w.heap.size w w' := by
  have e0 := hs.cell 0 (by omega)
  have e1 := hs.cell 1 (by omega)
  have e2 := hs.cell 2 (by omega)
  have e3 := hs.cell 3 (by omega)
  have e4 := hs.cell 4 (by omega)
  have e5 := hs.cell 5 (by omega)
  have e6 := hs.cell 6 (by omega)
  have e7 := hs.cell 7 (by omega)
  have e8 := hs.cell 8 (by omega)
  have e9 := hs.cell 9 (by omega)
  have e10 := hs.cell 10 (by omega)
  have e11 := hs.cell 11 (by omega)
  have e12 := hs.cell 12 (by omega)
  have e13 := hs.cell 13 (by omega)
  simp only [gnum, List.getD_cons_zero, List.getD_cons_succ] at e0 e1 e2 e3 e4 e5 e6 e7 e8 e9 e10 e11 e12 e13
  have hst := KRel.start s w k hs
  go_enter Tryz.func10, Tryz.ntmps10
  go_wp2
  clear hs e0 e1 e2 e3 e4 e5 e6 e7 e8 e9 e10 e11 e12 e13
  go_loopw [4] (fun i wr => KRel s w k i wr) (fun i _ => 14 - (intOf i).toNat)
  case atStart => exact hst
  case round =>
    obtain ⟨j, hj, rfl, hsr, hbr, hcr⟩ := hrel
    have hcj := hcr j (by omega)
    have hlt : decide ((j : Int) < 14) = true := by simp; omega
    by_cases hkj : k = j
    · subst hkj
      have ht' := ht wr hbr k hk
      simp only [decide_true] at ht'
      clear hst hcr
      have HT := Lib.hid ht'; clear ht' ht
      go_wp2_with (go_at_call 46; refine (HT.out).mono ?_; rintro e w' ⟨rfl, rfl⟩)
      go_ret
      exact ⟨rfl, hbr⟩
    · have ht' := ht wr hbr j (by omega)
      rw [decide_eq_false hkj] at ht'
      clear hst
      have HT := Lib.hid ht'; clear ht' ht
      have HC := Lib.hid hcr; clear hcr
      go_wp2_with (go_at_call 46; refine (HT.out).mono ?_; rintro e w' ⟨rfl, rfl⟩)
      go_roundw
      case rel => exact ⟨j + 1, by omega, by go_num, hsr, hbr, HC.out⟩
      case measure => simp [intOf]; omega

theorem tells_sent (s : Nat → Addr) (k : Nat) (w : World) (hs : Sent s w) (hk : k < 14) : Tells s k (.iface 163 (.pointer (some (s k)))) w :=
  fun W hb j hj => is_sent s k j W (hs.below hb (Nat.le_refl _)) hk hj

theorem tells_fault (s : Nat → Addr) (k b o : Nat) (w : World) (hs : Sent s w) (hk : k < 14) (h1 : w.cell? ⟨b, o + 2, none⟩ = some (.iface 163 (.pointer (some (s k))))) :
    Tells s k (.iface 133 (.pointer (some ⟨b, o, none⟩))) w :=
  fun W hb j hj => is_fault s k j b o W (hs.below hb (Nat.le_refl _)) hk hj ((hb.cell (p := ⟨b, o + 2, none⟩) (lt_of_cell h1)).trans h1)

theorem kind_nil (w : World) : Calls Tryz.prog 10 #[.nilIface] w fun e w' => e = .returned (.int .i64 0) ∧ Below w.heap.size w w' := by
  go_enter Tryz.func10, Tryz.ntmps10
  go_wp2
  go_ret
  exact ⟨rfl, Below.refl _ _⟩

/-- An error that is none, or bears the sentinel of the place k - 1, itself or by a Fault. -/
def ErrIs (s : Nat → Addr) (k : Nat) (v : Value) (w : World) : Prop :=
  (k = 0 ∧ v = .nilIface) ∨ (0 < k ∧ k ≤ 14 ∧ ((v = .iface 163 (.pointer (some (s (k - 1))))) ∨ ∃ b o, v = .iface 133 (.pointer (some ⟨b, o, none⟩)) ∧ w.cell? ⟨b, o + 2, none⟩ = some (.iface 163 (.pointer (some (s (k - 1)))))))

theorem kind_any (s : Nat → Addr) (k : Nat) (v : Value) (w : World) (hs : Sent s w) (hv : ErrIs s k v w) :
    Calls Tryz.prog 10 #[v] w fun e w' => e = .returned (.int .i64 k) ∧ Below w.heap.size w w' := by
  rcases hv with ⟨rfl, rfl⟩ | ⟨h0, h14, rfl | ⟨b, o, rfl, h1⟩⟩
  · exact kind_nil w
  · have h := kind_of s (k - 1) _ _ w hs (by omega) (tells_sent s (k - 1) w hs (by omega))
    rw [show k - 1 + 1 = k from by omega] at h
    exact h
  · have h := kind_of s (k - 1) _ _ w hs (by omega) (tells_fault s (k - 1) b o w hs (by omega) h1)
    rw [show k - 1 + 1 = k from by omega] at h
    exact h

theorem errV_is (s : Nat → Addr) (k : Nat) (w : World) (hk : k ≤ 14) : ErrIs s k (errV s k) w := by
  unfold ErrIs errV
  by_cases h : k = 0
  · left; exact ⟨h, by rw [if_pos h]⟩
  · right; exact ⟨by omega, hk, .inl (by rw [if_neg h])⟩

theorem kind_errV (s : Nat → Addr) (k : Nat) (w : World) (hs : Sent s w) (hk : k ≤ 14) :
    Calls Tryz.prog 10 #[errV s k] w fun e w' => e = .returned (.int .i64 k) ∧ Below w.heap.size w w' :=
  kind_any s k _ w hs (errV_is s k w hk)
end Go.Proofs.YtmfchjbpbfkgiaaGreatDoor

/- The law's own comparison of two rows of texts. No conditions but that they lie in memory. -/
namespace Go.Proofs.YtmfchjbpbfkgiaaGreatDoor
open Go Go.RowKit

/-- What a round of the comparing begins with. -/
def SaRel (w : World) (X Y : List (List UInt8)) (x : Value) (wr : World) : Prop := ∃ j : Nat, x = .int .i64 (j : Int) ∧ j ≤ X.length ∧ X.take j = Y.take j ∧ Same w wr

set_option maxHeartbeats 1600000 in
set_option maxRecDepth 100000 in
/-- Are two rows of texts the same? -/
theorem same_c (v1 v2 : Value) (X Y : List (List UInt8)) (w : World) (h1 : Reads w v1 X) (h2 : Reads w v2 Y) (hl : X.length ≤ 100000) (hl2 : Y.length ≤ 9223372036854775807) :
    Calls Tryz.prog 13 #[v1, v2] w fun e w' => e = .returned (.bool (decide (X = Y))) ∧ Same w w' := by
  obtain ⟨A, c, rfl, _, hX⟩ := h1
  obtain ⟨A', c', rfl, _, hY⟩ := h2
  have HX := Lib.hid hX; have HY := Lib.hid hY
  clear hX hY
  by_cases hlen : X.length = Y.length
  · have hne : ((X.length : Int) != (Y.length : Int)) = false := by rw [bne_eq_false_iff_eq, hlen]
    have HST : Hid (SaRel w X Y (.int .i64 0) w) := Lib.hid ⟨0, rfl, Nat.zero_le _, rfl, Same.refl w⟩
    have HL := Lib.hid hlen; clear hlen
    go_enter Tryz.func13, Tryz.ntmps13
    go_wp2_with fail
    go_loopw [5] (fun x wr => SaRel w X Y x wr) (fun x _ => X.length - (intOf x).toNat)
    case atStart => exact HST.out
    case round =>
      obtain ⟨j, rfl, hj, ht, hs⟩ := hrel
      clear HST
      by_cases hjn : j < X.length
      · have hjy : j < Y.length := by rw [← HL.out]; exact hjn
        have hx : X[j]? = some X[j] := List.getElem?_eq_getElem hjn
        have hy : Y[j]? = some Y[j] := List.getElem?_eq_getElem hjy
        obtain ⟨a, ha, _, ca⟩ := (HX.out.same hs).cell (i := j) (z := bst X[j]) (by rw [List.getElem?_map, hx]; rfl)
        obtain ⟨a', ha', _, ca'⟩ := (HY.out.same hs).cell (i := j) (z := bst Y[j]) (by rw [List.getElem?_map, hy]; rfl)
        subst ha; subst ha'
        have j0 : (0 : Int) ≤ (j : Int) := by omega
        have j1 : (j : Int) < (X.length : Int) := by omega
        have j2 : (j : Int) < (Y.length : Int) := by omega
        obtain ⟨P, hP⟩ : ∃ P, bst X[j] = P := ⟨_, rfl⟩
        obtain ⟨Q, hQ⟩ : ∃ Q, bst Y[j] = Q := ⟨_, rfl⟩
        rw [hP] at ca
        rw [hQ] at ca'
        have hxy : (P = Q) ↔ X[j] = Y[j] := by rw [← hP, ← hQ]; exact ⟨bst_inj, fun h => by rw [h]⟩
        by_cases he : X[j] = Y[j]
        · have hb : (P.toList == Q.toList) = true := by rw [str_beqK, decide_eq_true (hxy.2 he)]
          have HN : Hid (∀ W, Same wr W → SaRel w X Y (.int .i64 ((j : Int) + 1)) W) := Lib.hid fun W hW => ⟨j + 1, ret_v (by omega), hjn, by rw [List.take_add_one, List.take_add_one, hx, hy, ht, he], hs.trans hW⟩
          clear hx hy hP hQ hxy he ht hs
          go_wp2_with fail
          go_region
          all_goals go_wp2_with fail
          all_goals go_roundw
          all_goals first
            | (simp [intOf]; omega)
            | (refine HN.out _ ?_; first | exact Same.drewN _ _ | exact Same.refl _ | exact ⟨rfl, rfl, rfl, rfl, fun _ => rfl⟩)
        · have hb : (P.toList == Q.toList) = false := by rw [str_beqK, decide_eq_false (fun h => he (hxy.1 h))]
          have HN : Hid (decide (X = Y) = false) := Lib.hid (decide_eq_false fun h => he (by subst h; rfl))
          have HS := Lib.hid hs
          clear hx hy hP hQ hxy he ht hs
          go_wp2_with fail
          go_region
          all_goals go_wp2_with fail
          all_goals go_ret
          all_goals exact ⟨by rw [HN.out]; rfl, HS.out.trans ⟨rfl, rfl, rfl, rfl, fun _ => rfl⟩⟩
      · have heq : X = Y := by
          rw [List.take_of_length_le (by omega), List.take_of_length_le (by rw [← HL.out]; omega)] at ht
          exact ht
        have HN : Hid (decide (X = Y) = true) := Lib.hid (decide_eq_true heq)
        have HS := Lib.hid hs
        have hge : ¬ ((j : Int) < (X.length : Int)) := by omega
        clear heq ht hs
        go_wp2_with fail
        go_ret
        exact ⟨by rw [HN.out]; rfl, HS.out⟩
  · have hne : ((X.length : Int) != (Y.length : Int)) = true := by rw [bne_iff_ne]; omega
    have HN : Hid (decide (X = Y) = false) := Lib.hid (decide_eq_false fun h => hlen (by rw [h]))
    clear hlen
    go_enter Tryz.func13, Tryz.ntmps13
    go_wp2_with fail
    go_ret
    exact ⟨by rw [HN.out]; rfl, Same.refl _⟩
end Go.Proofs.YtmfchjbpbfkgiaaGreatDoor

/- The law's own zeros. No conditions but the count's bound. -/
namespace Go.Proofs.YtmfchjbpbfkgiaaGreatDoor
open Go Go.RowKit

set_option maxHeartbeats 1600000 in
set_option maxRecDepth 100000 in
/-- So many blocks of zeros. -/
theorem zeros_c (x : Int) (n : Nat) (w : World) (hx : x = (n : Int)) (hn : n ≤ 100000) :
    Calls Tryz.prog 18 #[.int .i64 x] w fun e w' => e = .returned (.string (bst (List.replicate (64 * n) 0))) ∧ Below w.heap.size w w' := by
  subst hx
  have hmk : ∀ W : World, (Instr.makeSlice 64 (.int .i64 (64 * (n : Int))) (.int .i64 (64 * (n : Int)))).run Tryz.prog W = .ok (.slice (some ⟨W.heap.size, 0, none⟩) (64 * n) (64 * n)) (W.alloc (.cells (madeCells #[.int .u8 0] (64 * n)) 5)) := fun W => by
    rw [show (64 : Int) * (n : Int) = ((64 * n : Nat) : Int) by omega]
    exact run_make_row' _ _ _ 1 Tryz.underlying64 Tryz.infoB rfl .i64 .i64 (64 * n) (by omega) (by omega) W
  have hcv : (convert 64 9 (.slice (some ⟨w.heap.size, 0, none⟩) (64 * n) (64 * n))).run Tryz.prog (w.alloc (.cells (madeCells #[.int .u8 0] (64 * n)) 5)) = .ok (.string (bst (List.replicate (64 * n) 0))) (w.alloc (.cells (madeCells #[.int .u8 0] (64 * n)) 5)) := by
    have h := conv_row (w.alloc (.cells (madeCells #[.int .u8 0] (64 * n)) 5)) w.heap.size 0 (64 * n) (List.replicate (64 * n) 0) fun j hj => by
      rw [Nat.zero_add]; exact ((zeros_row w (64 * n)).2 j hj).1
    rw [List.length_replicate] at h
    exact h
  have hmax : max (n : Int) 0 = (n : Int) := by omega
  go_enter Tryz.func18, Tryz.ntmps18
  go_wp2_with fail
  go_ret
  exact ⟨rfl, by (repeat' (first | (with_reducible exact Below.refl _ _) | (with_reducible refine below_drewN ?_ _) | (with_reducible refine Below.drew ?_) | (with_reducible refine Below.alloc ?_ ?_ _) | (with_reducible refine Below.setCell ?_ ?_ _) | (with_reducible refine Below.trans ?_ (Below.mono (by with_reducible assumption) ?_)) | omega | (simp only [World.size_alloc, World.size_setCell, World.size_drew, Go.Proofs.YtmfchjbpbfkgiaaGreatDoor.World.size_drewN] at *; omega) | (with_reducible refine Below.size (B := 0) ?_)))⟩
end Go.Proofs.YtmfchjbpbfkgiaaGreatDoor

/- The law's own joining of texts. No conditions but that they lie in memory. -/
namespace Go.Proofs.YtmfchjbpbfkgiaaGreatDoor
open Go Go.RowKit

set_option maxHeartbeats 1600000 in
set_option maxRecDepth 100000 in
/-- Texts, one behind the other. -/
theorem joined_c (v : Value) (F : List (List UInt8)) (w : World) (h : Reads w v F) (h64 : ∀ x ∈ F, x.length = 64) (hl : F.length ≤ 10000) :
    Calls Tryz.prog 12 #[v] w fun e w' => e = .returned (.string (bst F.flatten)) ∧ w' = w := by
  obtain ⟨A, c, rfl, _, hX⟩ := h
  have HX := Lib.hid hX; have H64 := Lib.hid h64
  clear hX h64
  go_enter Tryz.func12, Tryz.ntmps12
  go_wp2_with fail
  go_loopw [3, 4] (fun x i wr => ∃ j : Nat, i = .int .i64 (j : Int) ∧ x = .string (bst (F.take j).flatten) ∧ j ≤ F.length ∧ wr = w) (fun _ i _ => F.length - (intOf i).toNat)
  case atStart => exact ⟨0, rfl, rfl, Nat.zero_le _, rfl⟩
  case round =>
    obtain ⟨j, rfl, rfl, hj, rfl⟩ := hrel
    by_cases hjl : j < F.length
    · have hx : F[j]? = some F[j] := List.getElem?_eq_getElem hjl
      obtain ⟨a, ha, _, ca⟩ := (HX.out).cell (i := j) (z := bst F[j]) (by rw [List.getElem?_map, hx]; rfl)
      subst ha
      have j0 : (0 : Int) ≤ (j : Int) := by omega
      have j1 : (j : Int) < (F.length : Int) := by omega
      have hlen : (F.take j).flatten.length = 64 * j := by
        have h1 : ∀ x ∈ F.take j, x.length = 64 := fun x hx => H64.out x (List.mem_of_mem_take hx)
        have h2 : ∀ (G : List (List UInt8)), (∀ x ∈ G, x.length = 64) → G.flatten.length = 64 * G.length := fun G => by
          induction G with
          | nil => intro _; rfl
          | cons y G ih => intro hG; rw [List.flatten_cons, List.length_append, ih fun x hx => hG x (by simp [hx]), hG y (by simp), List.length_cons]; omega
        rw [h2 _ h1, List.length_take]; omega
      have hfj : F[j].length = 64 := H64.out _ (List.getElem_mem hjl)
      obtain ⟨X, hX⟩ : ∃ X, bst (F.take j).flatten = X := ⟨_, rfl⟩
      obtain ⟨Y, hY⟩ : ∃ Y, bst F[j] = Y := ⟨_, rfl⟩
      have hXY : X ++ Y = bst (F.take (j + 1)).flatten := by
        have e : (F.take (j + 1)).flatten = (F.take j).flatten ++ F[j] := by
          rw [List.take_add_one, hx, List.flatten_append]
          show _ ++ [F[j]].flatten = _
          rw [List.flatten_cons, List.flatten_nil, List.append_nil]
        rw [← hX, ← hY, bst_cat, e]
      have hXs : X.size = 64 * j := by rw [← hX, bst_size, hlen]
      have hYs : Y.size = 64 := by rw [← hY, bst_size, hfj]
      have hsz : ¬ 9223372036854775807 < X.size + Y.size := by omega
      have HXY := Lib.hid hXY
      rw [hY] at ca
      rw [hX]
      clear hX hY hXY hlen hfj hx
      go_wp2_with fail
      go_roundw
      case rel => exact ⟨j + 1, ret_v (by omega), val_str HXY.out, hjl, by first | rfl | trivial⟩
      case measure => simp [intOf]; omega
    · have e : F.take j = F := List.take_of_length_le (by omega)
      have hge : ¬ ((j : Int) < (F.length : Int)) := by omega
      rw [e]
      go_wp2_with fail
      go_ret
      exact ⟨rfl, rfl⟩
end Go.Proofs.YtmfchjbpbfkgiaaGreatDoor
