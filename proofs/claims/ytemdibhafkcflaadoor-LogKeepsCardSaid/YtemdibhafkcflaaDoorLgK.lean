/- The law package's own functions, and a log that is sound: opened, added to. Conditions: the sentinels lie as the program's text lays them. -/
import Derived.Test.YtemdibhafkcflaaDoorLgZ
import Derived.StillTailTactics
namespace Go.Proofs.YtemdibhafkcflaaDoor
open Go Go.RowKit

theorem SRow.same {w w' : World} {B : Nat} {A : Option Addr} {zs : List ByteArray} (h : SRow w B A zs) (hs : Same w w') : SRow w' B A zs := fun h0 => by
  obtain ⟨a, e, hb, hc⟩ := h h0
  exact ⟨a, e, hb, fun i z hz => (World.cell?_of_block (hs.block _)).trans (hc i z hz)⟩
theorem Reads.same {w w' : World} {v : Value} {F : List (List UInt8)} (h : Reads w v F) (hs : Same w w') : Reads w' v F := by
  obtain ⟨A, c, e, hc, hr⟩ := h
  exact ⟨A, c, e, hc, by rw [hs.size]; exact hr.same hs⟩
theorem Reads.below {w w' : World} {B : Nat} {v : Value} {F : List (List UInt8)} (h : Reads w v F) (hb : Below B w w') (hB : w.heap.size ≤ B) : Reads w' v F := by
  obtain ⟨A, c, e, hc, hr⟩ := h
  exact ⟨A, c, e, hc, (hr.below hb hB).mono hb.size⟩
theorem Reads.keptS {S : Nat → Prop} {w w' : World} {v : Value} {F : List (List UInt8)} (h : Reads w v F) (hc : ChgS S w w') (hS : ∀ k, v.ownBlock = some k → ¬ S k) : Reads w' v F := by
  obtain ⟨A, c, e, hcc, hr⟩ := h
  refine ⟨A, c, e, hcc, fun h0 => ?_⟩
  obtain ⟨a, e1, hb, hcl⟩ := hr h0
  refine ⟨a, e1, Nat.lt_of_lt_of_le hb hc.size, fun i z hz => (World.cell?_of_block ?_).trans (hcl i z hz)⟩
  rw [block_addS]
  refine hc.block _ hb (hS _ ?_)
  rw [e, e1]; rfl
theorem reads_one (w : World) (x : ByteArray) : Reads (w.alloc (.cells #[.string x] 9)) (.slice (some ⟨w.heap.size, 0, none⟩) 1 1) [x.data.toList] := by
  refine ⟨_, 1, rfl, Nat.le_refl _, fun _ => ⟨_, rfl, by simp, fun i z hz => ?_⟩⟩
  refine cell_one_new w (.string x) _ i (.string z) ?_
  match i, hz with
  | 0, hz =>
    have hz' : some (bst x.data.toList) = some z := hz
    rw [← bst_of] at hz'
    rw [← Option.some.inj hz']; rfl
theorem str_beqK (a b : ByteArray) : (a.toList == b.toList) = decide (a = b) := by
  rw [Bool.eq_iff_iff, beq_iff_eq, decide_eq_true_eq, toList_is, toList_is]
  exact ⟨bst_ext, fun h => by rw [h]⟩
/-- What a round of the comparing begins with. -/
def SaRel (w : World) (X Y : List (List UInt8)) (x : Value) (wr : World) : Prop := ∃ j : Nat, x = .int .i64 (j : Int) ∧ j ≤ X.length ∧ X.take j = Y.take j ∧ Same w wr

set_option maxHeartbeats 1600000 in
set_option maxRecDepth 100000 in
/-- Are two rows of texts the same? -/
theorem same_c (v1 v2 : Value) (X Y : List (List UInt8)) (w : World) (h1 : Reads w v1 X) (h2 : Reads w v2 Y) (hl : X.length ≤ 100000) (hl2 : Y.length ≤ 9223372036854775807) :
    Calls Tryd.prog 18 #[v1, v2] w fun e w' => e = .returned (.bool (decide (X = Y))) ∧ Same w w' := by
  obtain ⟨A, c, rfl, _, hX⟩ := h1
  obtain ⟨A', c', rfl, _, hY⟩ := h2
  have HX := Lib.hid hX; have HY := Lib.hid hY
  clear hX hY
  by_cases hlen : X.length = Y.length
  · have hne : ((X.length : Int) != (Y.length : Int)) = false := by rw [bne_eq_false_iff_eq, hlen]
    have HST : Hid (SaRel w X Y (.int .i64 0) w) := Lib.hid ⟨0, rfl, Nat.zero_le _, rfl, Same.refl w⟩
    have HL := Lib.hid hlen; clear hlen
    go_enter Tryd.func18, Tryd.ntmps18
    go_wp2_with fail
    go_loopw [5] (fun x wr => SaRel w X Y x wr) (fun x _ => X.length - (intOf x).toNat)
    case atStart => exact HST.out
    case round =>
      obtain ⟨j, rfl, hj, ht, hs⟩ := hrel
      clear HST
      by_cases hjn : j < X.length
      · have hjy : j < Y.length := by rw [← HL.out]; exact hjn
        have hx : X[j]? = some X[j] := List.getElem?_eq_getElem hjn
        have hy : Y[j]? = some Y[j] := List.getElem?_eq_getElem hjy
        obtain ⟨a, ha, _, ca⟩ := (HX.out.same hs).cell (i := j) (z := bst X[j]) (by rw [List.getElem?_map, hx]; rfl)
        obtain ⟨a', ha', _, ca'⟩ := (HY.out.same hs).cell (i := j) (z := bst Y[j]) (by rw [List.getElem?_map, hy]; rfl)
        subst ha; subst ha'
        have j0 : (0 : Int) ≤ (j : Int) := by omega
        have j1 : (j : Int) < (X.length : Int) := by omega
        have j2 : (j : Int) < (Y.length : Int) := by omega
        obtain ⟨P, hP⟩ : ∃ P, bst X[j] = P := ⟨_, rfl⟩
        obtain ⟨Q, hQ⟩ : ∃ Q, bst Y[j] = Q := ⟨_, rfl⟩
        rw [hP] at ca
        rw [hQ] at ca'
        have hxy : (P = Q) ↔ X[j] = Y[j] := by rw [← hP, ← hQ]; exact ⟨bst_inj, fun h => by rw [h]⟩
        by_cases he : X[j] = Y[j]
        · have hb : (P.toList == Q.toList) = true := by rw [str_beqK, decide_eq_true (hxy.2 he)]
          have HN : Hid (∀ W, Same wr W → SaRel w X Y (.int .i64 ((j : Int) + 1)) W) := Lib.hid fun W hW => ⟨j + 1, ret_v (by omega), hjn, by rw [List.take_add_one, List.take_add_one, hx, hy, ht, he], hs.trans hW⟩
          clear hx hy hP hQ hxy he ht hs
          go_wp2_with fail
          go_region
          all_goals go_wp2_with fail
          all_goals go_roundw
          all_goals first
            | (simp [intOf]; omega)
            | (refine HN.out _ ?_; first | exact Same.drewN _ _ | exact Same.refl _ | exact ⟨rfl, rfl, rfl, rfl, fun _ => rfl⟩)
        · have hb : (P.toList == Q.toList) = false := by rw [str_beqK, decide_eq_false (fun h => he (hxy.1 h))]
          have HN : Hid (decide (X = Y) = false) := Lib.hid (decide_eq_false fun h => he (by subst h; rfl))
          have HS := Lib.hid hs
          clear hx hy hP hQ hxy he ht hs
          go_wp2_with fail
          go_region
          all_goals go_wp2_with fail
          all_goals go_ret
          all_goals exact ⟨by rw [HN.out]; rfl, HS.out.trans ⟨rfl, rfl, rfl, rfl, fun _ => rfl⟩⟩
      · have heq : X = Y := by
          rw [List.take_of_length_le (by omega), List.take_of_length_le (by rw [← HL.out]; omega)] at ht
          exact ht
        have HN : Hid (decide (X = Y) = true) := Lib.hid (decide_eq_true heq)
        have HS := Lib.hid hs
        have hge : ¬ ((j : Int) < (X.length : Int)) := by omega
        clear heq ht hs
        go_wp2_with fail
        go_ret
        exact ⟨by rw [HN.out]; rfl, HS.out⟩
  · have hne : ((X.length : Int) != (Y.length : Int)) = true := by rw [bne_iff_ne]; omega
    have HN : Hid (decide (X = Y) = false) := Lib.hid (decide_eq_false fun h => hlen (by rw [h]))
    clear hlen
    go_enter Tryd.func18, Tryd.ntmps18
    go_wp2_with fail
    go_ret
    exact ⟨by rw [HN.out]; rfl, Same.refl _⟩

set_option maxHeartbeats 1600000 in
set_option maxRecDepth 100000 in
/-- So many blocks of zeros. -/
theorem zeros_c (x : Int) (n : Nat) (w : World) (hx : x = (n : Int)) (hn : n ≤ 100000) :
    Calls Tryd.prog 15 #[.int .i64 x] w fun e w' => e = .returned (.string (bst (List.replicate (64 * n) 0))) ∧ Below w.heap.size w w' := by
  subst hx
  have hmk : ∀ W : World, (Instr.makeSlice 45 (.int .i64 (64 * (n : Int))) (.int .i64 (64 * (n : Int)))).run Tryd.prog W = .ok (.slice (some ⟨W.heap.size, 0, none⟩) (64 * n) (64 * n)) (W.alloc (.cells (madeCells #[.int .u8 0] (64 * n)) 5)) := fun W => by
    rw [show (64 : Int) * (n : Int) = ((64 * n : Nat) : Int) by omega]
    exact run_make_row' _ _ _ 1 Tryd.underlying45 Tryd.infoB rfl .i64 .i64 (64 * n) (by omega) (by omega) W
  have hcv : (convert 45 9 (.slice (some ⟨w.heap.size, 0, none⟩) (64 * n) (64 * n))).run Tryd.prog (w.alloc (.cells (madeCells #[.int .u8 0] (64 * n)) 5)) = .ok (.string (bst (List.replicate (64 * n) 0))) (w.alloc (.cells (madeCells #[.int .u8 0] (64 * n)) 5)) := by
    have h := conv_row (w.alloc (.cells (madeCells #[.int .u8 0] (64 * n)) 5)) w.heap.size 0 (64 * n) (List.replicate (64 * n) 0) fun j hj => by
      rw [Nat.zero_add]; exact ((zeros_row w (64 * n)).2 j hj).1
    rw [List.length_replicate] at h
    exact h
  have hmax : max (n : Int) 0 = (n : Int) := by omega
  go_enter Tryd.func15, Tryd.ntmps15
  go_wp2_with fail
  go_ret
  exact ⟨rfl, by (repeat' (first | (with_reducible exact Below.refl _ _) | (with_reducible refine below_drewN ?_ _) | (with_reducible refine Below.drew ?_) | (with_reducible refine Below.alloc ?_ ?_ _) | (with_reducible refine Below.setCell ?_ ?_ _) | (with_reducible refine Below.trans ?_ (Below.mono (by with_reducible assumption) ?_)) | omega | (simp only [World.size_alloc, World.size_setCell, World.size_drew, Go.Proofs.YtemdibhafkcflaaDoor.World.size_drewN] at *; omega) | (with_reducible refine Below.size (B := 0) ?_)))⟩
end Go.Proofs.YtemdibhafkcflaaDoor
