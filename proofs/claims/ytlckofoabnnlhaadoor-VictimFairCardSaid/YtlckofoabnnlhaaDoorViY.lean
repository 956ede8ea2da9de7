/- The contract of the law package's own function that tells which error it is. Condition: the fourteen sentinels lie where the program's text lays them. -/
import Derived.Test.YtlckofoabnnlhaaDoorErrs
import Derived.LoopTactic
import Derived.Lib.Hide
import Derived.Test.YtlckofoabnnlhaaDoorViM
import Derived.Test.YtlckofoabnnlhaaDoorViQ
import Derived.Laws.StructEq
namespace Go.Proofs.YtlckofoabnnlhaaDoor
open Go Go.RowKit Go.Extern.Stop Go.Stop Go.Extern

/-- The row of the fourteen sentinels. -/
def sentRow (s : Nat → Addr) : Array Value := #[.iface 113 (.pointer (some (s 0))), .iface 113 (.pointer (some (s 1))), .iface 113 (.pointer (some (s 2))), .iface 113 (.pointer (some (s 3))), .iface 113 (.pointer (some (s 4))), .iface 113 (.pointer (some (s 5))), .iface 113 (.pointer (some (s 6))), .iface 113 (.pointer (some (s 7))), .iface 113 (.pointer (some (s 8))), .iface 113 (.pointer (some (s 9))), .iface 113 (.pointer (some (s 10))), .iface 113 (.pointer (some (s 11))), .iface 113 (.pointer (some (s 12))), .iface 113 (.pointer (some (s 13)))]


theorem sentRow_at (s : Nat → Addr) (j : Nat) (hj : j < 14) : (sentRow s)[j]? = some (.iface 113 (.pointer (some (s j)))) := by
  match j, hj with
  | 0, _ => rfl
  | 1, _ => rfl
  | 2, _ => rfl
  | 3, _ => rfl
  | 4, _ => rfl
  | 5, _ => rfl
  | 6, _ => rfl
  | 7, _ => rfl
  | 8, _ => rfl
  | 9, _ => rfl
  | 10, _ => rfl
  | 11, _ => rfl
  | 12, _ => rfl
  | 13, _ => rfl

/-- What a round of the search begins with: the counter at most k, the row in its block. -/
def KRel (s : Nat → Addr) (w : World) (k : Nat) (i : Value) (wr : World) : Prop :=
  ∃ j : Nat, j ≤ k ∧ i = .int .i64 j ∧ Sent s wr ∧ Below w.heap.size w wr ∧ (∀ n, n < 14 → wr.cell? ⟨w.heap.size, n, none⟩ = some (.iface 113 (.pointer (some (s n)))))

theorem KRel.start (s : Nat → Addr) (w : World) (k : Nat) (hs : Sent s w) : KRel s w k (.int .i64 0) (w.alloc (.cells (sentRow s) 52)) := by
  have hb : Below w.heap.size w (w.alloc (.cells (sentRow s) 52)) := (Below.refl _ _).alloc (Nat.le_refl _) _
  refine ⟨0, Nat.zero_le _, rfl, hs.below hb (Nat.le_refl _), hb, fun n hn => ?_⟩
  rw [World.cell?_alloc_at _ _ _ _ rfl]
  exact sentRow_at s n hn

/-- A value that errors.Is tells from each sentinel but the one of the place k. -/
def Tells (s : Nat → Addr) (k : Nat) (v : Value) (w : World) : Prop :=
  ∀ W : World, Below w.heap.size w W → ∀ j, j < 14 → Calls Tryd.prog 13 #[v, .iface 113 (.pointer (some (s j)))] W fun e w' => e = .returned (.bool (decide (k = j))) ∧ W = w'

set_option maxRecDepth 100000 in
set_option maxHeartbeats 800000 in
theorem kind_of (s : Nat → Addr) (k : Nat) (T : TypeId) (a : Addr) (w : World) (hs : Sent s w) (hk : k < 14) (ht : Tells s k (.iface T (.pointer (some a))) w) :
    Calls Tryd.prog 9 #[.iface T (.pointer (some a))] w fun e w' => e = .returned (.int .i64 (k + 1 : Nat)) ∧ Below w.heap.size w w' := by
  have e0 := hs.cell 0 (by omega)
  have e1 := hs.cell 1 (by omega)
  have e2 := hs.cell 2 (by omega)
  have e3 := hs.cell 3 (by omega)
  have e4 := hs.cell 4 (by omega)
  have e5 := hs.cell 5 (by omega)
  have e6 := hs.cell 6 (by omega)
  have e7 := hs.cell 7 (by omega)
  have e8 := hs.cell 8 (by omega)
  have e9 := hs.cell 9 (by omega)
  have e10 := hs.cell 10 (by omega)
  have e11 := hs.cell 11 (by omega)
  have e12 := hs.cell 12 (by omega)
  have e13 := hs.cell 13 (by omega)
  simp only [gnum, List.getD_cons_zero, List.getD_cons_succ] at e0 e1 e2 e3 e4 e5 e6 e7 e8 e9 e10 e11 e12 e13
  have hst := KRel.start s w k hs
  go_enter Tryd.func9, Tryd.ntmps9
  go_wp2
  clear hs e0 e1 e2 e3 e4 e5 e6 e7 e8 e9 e10 e11 e12 e13
  go_loopw [4] (fun i wr => KRel s w k i wr) (fun i _ => 14 - (intOf i).toNat)
  case atStart => exact hst
  case round =>
    obtain ⟨j, hj, rfl, hsr, hbr, hcr⟩ := hrel
    have hcj := hcr j (by omega)
    have hlt : decide ((j : Int) < 14) = true := by simp; omega
    by_cases hkj : k = j
    · subst hkj
      have ht' := ht wr hbr k hk
      simp only [decide_true] at ht'
      clear hst hcr
      have HT := Lib.hid ht'; clear ht' ht
      go_wp2_with (go_at_call 13; refine (HT.out).mono ?_; rintro e w' ⟨rfl, rfl⟩)
      go_ret
      exact ⟨rfl, hbr⟩
    · have ht' := ht wr hbr j (by omega)
      rw [decide_eq_false hkj] at ht'
      clear hst
      have HT := Lib.hid ht'; clear ht' ht
      have HC := Lib.hid hcr; clear hcr
      go_wp2_with (go_at_call 13; refine (HT.out).mono ?_; rintro e w' ⟨rfl, rfl⟩)
      go_roundw
      case rel => exact ⟨j + 1, by omega, by go_num, hsr, hbr, HC.out⟩
      case measure => simp [intOf]; omega

theorem tells_sent (s : Nat → Addr) (k : Nat) (w : World) (hs : Sent s w) (hk : k < 14) : Tells s k (.iface 113 (.pointer (some (s k)))) w :=
  fun W hb j hj => is_sent s k j W (hs.below hb (Nat.le_refl _)) hk hj


theorem kind_nil (w : World) : Calls Tryd.prog 9 #[.nilIface] w fun e w' => e = .returned (.int .i64 0) ∧ Below w.heap.size w w' := by
  go_enter Tryd.func9, Tryd.ntmps9
  go_wp2
  go_ret
  exact ⟨rfl, Below.refl _ _⟩

/-- An error that is none, or bears the sentinel of the place k - 1, itself or by a Fault. -/
def ErrIs (s : Nat → Addr) (k : Nat) (v : Value) (_w : World) : Prop :=
  (k = 0 ∧ v = .nilIface) ∨ (0 < k ∧ k ≤ 14 ∧ v = .iface 113 (.pointer (some (s (k - 1)))))

theorem kind_any (s : Nat → Addr) (k : Nat) (v : Value) (w : World) (hs : Sent s w) (hv : ErrIs s k v w) :
    Calls Tryd.prog 9 #[v] w fun e w' => e = .returned (.int .i64 k) ∧ Below w.heap.size w w' := by
  rcases hv with ⟨rfl, rfl⟩ | ⟨h0, h14, rfl⟩
  · exact kind_nil w
  · have h := kind_of s (k - 1) _ _ w hs (by omega) (tells_sent s (k - 1) w hs (by omega))
    rw [show k - 1 + 1 = k from by omega] at h
    exact h

theorem errV_is (s : Nat → Addr) (k : Nat) (w : World) (hk : k ≤ 14) : ErrIs s k (errV s k) w := by
  unfold ErrIs errV
  by_cases h : k = 0
  · left; exact ⟨h, by rw [if_pos h]⟩
  · right; exact ⟨by omega, hk, by rw [if_neg h]⟩

theorem kind_errV (s : Nat → Addr) (k : Nat) (w : World) (hs : Sent s w) (hk : k ≤ 14) :
    Calls Tryd.prog 9 #[errV s k] w fun e w' => e = .returned (.int .i64 k) ∧ Below w.heap.size w w' :=
  kind_any s k _ w hs (errV_is s k w hk)
end Go.Proofs.YtlckofoabnnlhaaDoor

/- The answers that the document fixes by number, plainly. No conditions. -/
namespace Go.Proofs.YtlckofoabnnlhaaDoor
open Go

def gstA : Gst := ⟨⟨7, 0⟩, 2, false, ⟨4, 0, 0, 0⟩⟩
def gstB : Gst := ⟨⟨8, 0⟩, 1, false, ⟨4, 0, 0, 0⟩⟩
theorem perm_two {α : Type} {a b : α} {l : List α} (h : l.Perm [a, b]) : l = [a, b] ∨ l = [b, a] := by
  have hl := h.length_eq
  match l, hl with
  | [p, q], _ =>
    have hp : p ∈ [a, b] := h.mem_iff.1 (by simp)
    rcases List.mem_cons.1 hp with rfl | hp
    · have := List.perm_cons p |>.1 h
      rw [List.singleton_perm_singleton.1 this]; exact .inl rfl
    · rw [List.mem_singleton] at hp
      subst hp
      have h2 : [p, q].Perm [p, a] := h.trans (List.Perm.swap _ _ _)
      have := List.perm_cons p |>.1 h2
      rw [List.singleton_perm_singleton.1 this]; exact .inr rfl
theorem awake_room {A : Option Addr} {c : Nat} {R : List Hst} (h : Lined 0 [⟨3, ⟨0, 0, 0, 0⟩, [gstA, gstB], A, c⟩] R) : ∃ (A' : Option Addr) (c' : Nat), R = [⟨3, ⟨0, 0, 0, 0⟩, [gstA, gstB], A', c'⟩] ∨ R = [⟨3, ⟨0, 0, 0, 0⟩, [gstB, gstA], A', c'⟩] := by
  obtain ⟨hl, hr⟩ := h
  match R, hl with
  | [⟨id, left, on, A', c'⟩], _ =>
    obtain ⟨e1, e2, e3⟩ := hr 0 _ _ rfl rfl
    simp only at e1 e2 e3
    subst e1 e2
    have e4 : ([gstA, gstB].filter (candG 0)) = [gstA, gstB] := by rfl
    rw [e4] at e3
    refine ⟨A', c', ?_⟩
    rcases perm_two e3 with rfl | rfl
    · exact .inl rfl
    · exact .inr rfl
theorem awake_one {A : Option Addr} {c : Nat} {host : Int} {out : List Gst} {er : Nat} (h : PickR [⟨3, ⟨0, 0, 0, 0⟩, [gstA, gstB], A, c⟩] ⟨3, 0, 0, 0⟩ 0 [⟨7, 1⟩] host out er) : host = 3 ∧ out = [gstA] ∧ er = 0 := by
  obtain ⟨R, hR, hp⟩ := h
  have hv : validH [⟨3, ⟨0, 0, 0, 0⟩, [gstA, gstB], A, c⟩] = true := by rfl
  rw [hv] at hp
  obtain ⟨A', c', rfl | rfl⟩ := awake_room hR
  · have : pickK true ⟨3, 0, 0, 0⟩ (alS [⟨7, 1⟩]) [⟨3, ⟨0, 0, 0, 0⟩, [gstA, gstB], A', c'⟩] = (3, [gstA], 0) := by rfl
    rw [this] at hp; simpa using hp
  · have : pickK true ⟨3, 0, 0, 0⟩ (alS [⟨7, 1⟩]) [⟨3, ⟨0, 0, 0, 0⟩, [gstB, gstA], A', c'⟩] = (3, [gstA], 0) := by rfl
    rw [this] at hp; simpa using hp
theorem awake_two {A : Option Addr} {c : Nat} {host : Int} {out : List Gst} {er : Nat} (h : PickR [⟨3, ⟨0, 0, 0, 0⟩, [gstA, gstB], A, c⟩] ⟨5, 0, 0, 0⟩ 0 [⟨7, 1⟩] host out er) : er = 11 := by
  obtain ⟨R, hR, hp⟩ := h
  have hv : validH [⟨3, ⟨0, 0, 0, 0⟩, [gstA, gstB], A, c⟩] = true := by rfl
  rw [hv] at hp
  obtain ⟨A', c', rfl | rfl⟩ := awake_room hR
  · have : pickK true ⟨5, 0, 0, 0⟩ (alS [⟨7, 1⟩]) [⟨3, ⟨0, 0, 0, 0⟩, [gstA, gstB], A', c'⟩] = (0, [], 11) := by rfl
    rw [this] at hp; simp only [Prod.mk.injEq] at hp; exact hp.2.2
  · have : pickK true ⟨5, 0, 0, 0⟩ (alS [⟨7, 1⟩]) [⟨3, ⟨0, 0, 0, 0⟩, [gstB, gstA], A', c'⟩] = (0, [], 11) := by rfl
    rw [this] at hp; simp only [Prod.mk.injEq] at hp; exact hp.2.2
theorem awake_three {A : Option Addr} {c : Nat} {host : Int} {out : List Gst} {er : Nat} (h : PickR [⟨3, ⟨0, 0, 0, 0⟩, [gstA, gstB], A, c⟩] ⟨9, 0, 0, 0⟩ 0 [] host out er) : er = 10 := by
  obtain ⟨R, hR, hp⟩ := h
  have hv : validH [⟨3, ⟨0, 0, 0, 0⟩, [gstA, gstB], A, c⟩] = true := by rfl
  rw [hv] at hp
  obtain ⟨A', c', rfl | rfl⟩ := awake_room hR
  · have : pickK true ⟨9, 0, 0, 0⟩ (alS []) [⟨3, ⟨0, 0, 0, 0⟩, [gstA, gstB], A', c'⟩] = (0, [], 10) := by rfl
    rw [this] at hp; simp only [Prod.mk.injEq] at hp; exact hp.2.2
  · have : pickK true ⟨9, 0, 0, 0⟩ (alS []) [⟨3, ⟨0, 0, 0, 0⟩, [gstB, gstA], A', c'⟩] = (0, [], 10) := by rfl
    rw [this] at hp; simp only [Prod.mk.injEq] at hp; exact hp.2.2
theorem awake_line {M : List Gst} (h : M.Perm ([gstA, gstB].filter (candG 1))) : M.length = 1 := by
  have e4 : ([gstA, gstB].filter (candG 1)) = [gstA] := by rfl
  rw [h.length_eq, e4]; rfl
end Go.Proofs.YtlckofoabnnlhaaDoor

/- The law's own words: whether hosts are more than is asked, whether a vector is at most another one, the answers that the document fixes by number. Condition: the sentinels lie as the program's text lays them. -/
namespace Go.Proofs.YtlckofoabnnlhaaDoor
open Go Go.RowKit Go.Maps

/-- Hosts that came in: however many. -/
structure HostsIn (w : World) (A : Option Addr) (H : List Hst) : Prop where
  row : ReadsE encHst w A H
  each : ∀ h ∈ H, ReadsE encGst w h.A h.on
  ids : ∀ h ∈ H, i64 h.id
  jobs : ∀ h ∈ H, ∀ g ∈ h.on, i64 g.task.job
theorem HostsIn.on {w w' : World} {A : Option Addr} {H : List Hst} (h : HostsIn w A H) (hb : Below w.heap.size w w') : HostsIn w' A H := ⟨h.row.on hb, fun x hx => (h.each x hx).on hb, h.ids, h.jobs⟩
/-- Whether they are more than is asked. -/
def greatH (H : List Hst) : Bool := decide (10 < H.length) || H.any fun h => decide (10 < h.on.length)
theorem HostsIn.at {w : World} {A : Option Addr} {H : List Hst} (h : HostsIn w A H) (hg : greatH H = false) : HostsAt w A H := by
  unfold greatH at hg
  rw [Bool.or_eq_false_iff, decide_eq_false_iff_not, List.any_eq_false] at hg
  exact ⟨h.row, h.each, h.ids, h.jobs, fun x hx => by have := hg.2 x hx; simp at this; omega, by omega⟩
set_option maxRecDepth 100000 in
set_option maxHeartbeats 3200000 in
theorem great_c (A : Option Addr) (c : Nat) (H : List Hst) (w : World) (h : HostsIn w A H) (hl : H.length ≤ 9223372036854775807) (hn : ∀ h ∈ H, h.on.length ≤ 9223372036854775807) :
    Calls Tryd.prog 6 #[.slice A H.length c] w fun e w' => e = .returned (.bool (greatH H)) ∧ Below w.heap.size w w' := by
  have HH := Lib.hid h
  have HN := Lib.hid hn
  clear h hn
  by_cases hb : 10 < H.length
  · rw [show greatH H = true by unfold greatH; rw [decide_eq_true hb]; rfl]
    have hbz : (10 : Int) < (H.length : Int) := by omega
    go_enter Tryd.func6, Tryd.ntmps6
    go_wp2_with fail
    go_ret
    exact ⟨rfl, Below.refl _ _⟩
  · have hbz : ¬ (10 : Int) < (H.length : Int) := by omega
    have HG : Hid (greatH H = H.any fun h => decide (10 < h.on.length)) := Lib.hid (by unfold greatH; rw [decide_eq_false hb]; rfl)
    go_enter Tryd.func6, Tryd.ntmps6
    go_upto_region 4 with fail
    go_loopg [3] H.length (fun gk s3 wr => ∃ (k : Nat), s3 = .int .i64 k ∧ k ≤ H.length ∧ H.length - k ≤ gk ∧ Aside ((H.take k).any (fun h => decide (10 < h.on.length)) = false ∧ Below w.heap.size w wr))
    case atStart => exact ⟨0, rfl, Nat.zero_le _, Nat.le_refl _, rfl, Below.refl _ _⟩
    case round =>
      obtain ⟨k, rfl, hk, hgk, IN⟩ := hrel
      have HF := Lib.hid IN.out.1
      have HB := Lib.hid IN.out.2
      clear IN
      by_cases hlt : k < H.length
      · obtain ⟨x, hx⟩ : ∃ x, H[k]? = some x := ⟨_, List.getElem?_eq_getElem hlt⟩
        obtain ⟨ad, p, rfl, had, hp, hc⟩ := HH.out.row k x hx
        have hltz : (k : Int) < (H.length : Int) := by omega
        have v5 := (HB.out.cell (p := ⟨p.block, p.off + 5, none⟩) hp).trans (hc 5 _ rfl)
        have hpl : p.block < wr.heap.size := Nat.lt_of_lt_of_le hp HB.out.size
        have hnx := HN.out x (List.mem_of_getElem? hx)
        have HXM := Lib.hid (List.mem_of_getElem? hx)
        have HX : Hid ((H.take (k + 1)).any (fun h => decide (10 < h.on.length)) = decide (10 < x.on.length)) := Lib.hid (by
          rw [List.take_add_one, hx, Option.toList_some, List.any_append, HF.out]; simp)
        obtain ⟨id, l, on, A', c'⟩ := x
        simp only at hnx HX
        clear hx hp hc
        by_cases h1 : 10 < on.length
        · have h1z : (10 : Int) < (on.length : Int) := by omega
          go_wp2_with fail
          go_ret
          refine ⟨?_, HB.out⟩
          rw [HG.out, List.any_eq_true.2 ⟨_, HXM.out, by simpa using h1⟩]; rfl
        · have h1z : ¬ (10 : Int) < (on.length : Int) := by omega
          go_wp2_with fail
          go_roundg (H.length - (k + 1))
          case measure => omega
          case rel => exact ⟨k + 1, by go_num, by omega, Nat.le_refl _, by rw [HX.out]; exact decide_eq_false h1, HB.out⟩
      · obtain rfl : k = H.length := by omega
        have hz1 : ¬ (H.length : Int) < (H.length : Int) := by omega
        rw [List.take_length] at HF
        go_wp2_with fail
        go_ret
        exact ⟨by rw [HG.out, HF.out]; rfl, HB.out⟩
set_option maxRecDepth 100000 in
set_option maxHeartbeats 3200000 in
theorem lfits_c (x y : V4) (w : World) :
    Calls Tryd.prog 7 #[.agg #[.int .i64 x.a, .int .i64 x.b, .int .i64 x.c, .int .i64 x.d], .agg #[.int .i64 y.a, .int .i64 y.b, .int .i64 y.c, .int .i64 y.d]] w fun e w' => e = .returned (.bool (fitsV x y)) ∧ Below w.heap.size w w' := by
  obtain ⟨a, b, c, d⟩ := x
  obtain ⟨a', b', c', d'⟩ := y
  obtain ⟨g, hg⟩ : ∃ g, w.heap.size = g := ⟨_, rfl⟩
  obtain ⟨h, hh⟩ : ∃ h, w.heap.size + 1 = h := ⟨_, rfl⟩
  obtain ⟨W1, hW1⟩ : ∃ W1, (w.alloc (.cells #[.int .i64 a, .int .i64 b, .int .i64 c, .int .i64 d] 24)).alloc (.cells #[.int .i64 a', .int .i64 b', .int .i64 c', .int .i64 d'] 24) = W1 := ⟨_, rfl⟩
  have hb1 : Below w.heap.size w W1 := by rw [← hW1]; exact ((Below.refl _ _).alloc (Nat.le_refl _) _).alloc (by simp) _
  have k1 : W1.heap[g]? = some (.cells #[.int .i64 a, .int .i64 b, .int .i64 c, .int .i64 d] 24 (0, 0)) := by rw [← hW1, ← hg, Below.heap_alloc _ _ _ (by simp)]; exact heap_at_newV rfl _
  have k2 : W1.heap[h]? = some (.cells #[.int .i64 a', .int .i64 b', .int .i64 c', .int .i64 d'] 24 (0, 0)) := by rw [← hW1, ← hh]; exact heap_at_newV (by simp) _
  have x0 := cell_of_heap k1 0
  have x1 := cell_of_heap k1 1
  have x2 := cell_of_heap k1 2
  have x3 := cell_of_heap k1 3
  have y0 := cell_of_heap k2 0
  have y1 := cell_of_heap k2 1
  have y2 := cell_of_heap k2 2
  have y3 := cell_of_heap k2 3
  simp at x0 x1 x2 x3 y0 y1 y2 y3
  have gl := lt_of_row k1
  have hl := lt_of_row k2
  have HB := Lib.hid hb1
  have HW := Lib.hid hW1
  have HG := Lib.hid (show w.heap.size = g ∧ w.heap.size + 1 = h from ⟨hg, hh⟩)
  unfold fitsV
  simp only
  clear hb1 hW1 k1 k2 hg hh
  by_cases h0 : a ≤ a'
  · by_cases h1 : b ≤ b'
    · by_cases h2 : c ≤ c'
      · by_cases h3 : d ≤ d' <;>
        · go_enter Tryd.func7, Tryd.ntmps7
          go_upto_region 1 with fail
          rw [HG.out.2, HG.out.1, HW.out]
          go_wp2_with fail
          go_ret
          exact ⟨by simp [h0, h1, h2, h3], HB.out⟩
      · go_enter Tryd.func7, Tryd.ntmps7
        go_upto_region 1 with fail
        rw [HG.out.2, HG.out.1, HW.out]
        go_wp2_with fail
        go_ret
        exact ⟨by simp; omega, HB.out⟩
    · go_enter Tryd.func7, Tryd.ntmps7
      go_upto_region 1 with fail
      rw [HG.out.2, HG.out.1, HW.out]
      go_wp2_with fail
      go_ret
      exact ⟨by simp; omega, HB.out⟩
  · go_enter Tryd.func7, Tryd.ntmps7
    go_upto_region 1 with fail
    rw [HG.out.2, HG.out.1, HW.out]
    go_wp2_with fail
    go_ret
    exact ⟨by simp; omega, HB.out⟩
/-- The host of the law's own examples. -/
structure AwkAt (w : World) (ga g1 : Nat) (W : World) : Prop where
  gs : W.heap[ga]? = some (.cells #[.int .i64 7, .int .i64 0, .int .i64 2, .bool false, .int .i64 4, .int .i64 0, .int .i64 0, .int .i64 0, .int .i64 8, .int .i64 0, .int .i64 1, .bool false, .int .i64 4, .int .i64 0, .int .i64 0, .int .i64 0] 35 (0, 0))
  h1 : W.heap[g1]? = some (.cells #[.int .i64 3, .int .i64 0, .int .i64 0, .int .i64 0, .int .i64 0, .slice (some ⟨ga, 0, none⟩) 2 2] 31 (0, 0))
  low : Below w.heap.size w W
theorem AwkAt.on {w : World} {ga g1 : Nat} {W W' : World} (h : AwkAt w ga g1 W) (hb : Below W.heap.size W W') : AwkAt w ga g1 W' := ⟨(hb.block _ (lt_of_row h.gs)).trans h.gs, (hb.block _ (lt_of_row h.h1)).trans h.h1, h.low.trans (hb.mono h.low.size)⟩
def hstX (ga : Nat) : Hst := ⟨3, ⟨0, 0, 0, 0⟩, [gstA, gstB], some ⟨ga, 0, none⟩, 2⟩
theorem AwkAt.reads {w : World} {ga g1 : Nat} {W : World} (h : AwkAt w ga g1 W) : ReadsE encGst W (some ⟨ga, 0, none⟩) [gstA, gstB] := reads_lit encGst [gstA, gstB] h.gs
theorem AwkAt.hosts {w : World} {ga g1 gr : Nat} {W : World} (h : AwkAt w ga g1 W) (hr : W.heap[gr]? = some (.cells #[.int .i64 3, .int .i64 0, .int .i64 0, .int .i64 0, .int .i64 0, .slice (some ⟨ga, 0, none⟩) 2 2] 31 (0, 0))) : HostsAt W (some ⟨gr, 0, none⟩) [hstX ga] := by
  refine ⟨reads_lit encHst [hstX ga] hr, fun x hx => ?_, fun x hx => ?_, fun x hx g hg => ?_, fun x hx => ?_, by simp⟩
  all_goals (rw [List.mem_singleton] at hx; subst hx)
  · exact h.reads
  · simp [hstX, i64]
  · simp only [hstX, List.mem_cons, List.not_mem_nil, or_false] at hg
    rcases hg with rfl | rfl <;> simp [gstA, gstB, i64]
  · simp [hstX]
theorem AwkAt.pick {s : Nat → Addr} {w : World} {ga g1 gr gs : Nat} {W : World} (h : AwkAt w ga g1 W) (hs : Sent s W) (hr : W.heap[gr]? = some (.cells #[.int .i64 3, .int .i64 0, .int .i64 0, .int .i64 0, .int .i64 0, .slice (some ⟨ga, 0, none⟩) 2 2] 31 (0, 0))) (hg : W.heap[gs]? = some (.cells #[.int .i64 7, .int .i64 1] 45 (0, 0))) (x : V4) :
    Calls Tryd.prog 8 #[.slice (some ⟨gr, 0, none⟩) 1 1, .agg #[.int .i64 x.a, .int .i64 x.b, .int .i64 x.c, .int .i64 x.d], .int .i64 0, .slice (some ⟨gs, 0, none⟩) 1 1] W fun e w' => ∃ (host : Int) (out : List Gst) (er : Nat) (Bo : Option Addr) (cb : Nat), e = .returned (.tuple #[.agg #[.int .i64 host, .slice Bo out.length cb], errV s er]) ∧ PickR [hstX ga] x 0 [⟨7, 1⟩] host out er ∧ OwnE encTk 33 w' W.heap.size (.slice Bo out.length cb) (out.map (·.task)) ∧ Below W.heap.size W w' :=
  pick_c s (some ⟨gr, 0, none⟩) 1 [hstX ga] x 0 (some ⟨gs, 0, none⟩) 1 [⟨7, 1⟩] W hs (h.hosts hr) (reads_lit encSpr [⟨7, 1⟩] hg) (by simp) (fun y hy => by rw [List.mem_singleton] at hy; subst hy; simp [i64])
theorem AwkAt.pick0 {s : Nat → Addr} {w : World} {ga g1 gr : Nat} {W : World} (h : AwkAt w ga g1 W) (hs : Sent s W) (hr : W.heap[gr]? = some (.cells #[.int .i64 3, .int .i64 0, .int .i64 0, .int .i64 0, .int .i64 0, .slice (some ⟨ga, 0, none⟩) 2 2] 31 (0, 0))) (x : V4) :
    Calls Tryd.prog 8 #[.slice (some ⟨gr, 0, none⟩) 1 1, .agg #[.int .i64 x.a, .int .i64 x.b, .int .i64 x.c, .int .i64 x.d], .int .i64 0, .slice none 0 0] W fun e w' => ∃ (host : Int) (out : List Gst) (er : Nat) (Bo : Option Addr) (cb : Nat), e = .returned (.tuple #[.agg #[.int .i64 host, .slice Bo out.length cb], errV s er]) ∧ PickR [hstX ga] x 0 [] host out er ∧ OwnE encTk 33 w' W.heap.size (.slice Bo out.length cb) (out.map (·.task)) ∧ Below W.heap.size W w' :=
  pick_c s (some ⟨gr, 0, none⟩) 1 [hstX ga] x 0 none 0 [] W hs (h.hosts hr) (fun i x hx => by cases hx) (by simp) (fun y hy => by cases hy)
theorem AwkAt.hc {w : World} {ga g1 : Nat} {W : World} (h : AwkAt w ga g1 W) : W.cell? ⟨g1, 0, none⟩ = some (.int .i64 3) ∧ W.cell? ⟨g1, 1, none⟩ = some (.int .i64 0) ∧ W.cell? ⟨g1, 2, none⟩ = some (.int .i64 0) ∧ W.cell? ⟨g1, 3, none⟩ = some (.int .i64 0) ∧ W.cell? ⟨g1, 4, none⟩ = some (.int .i64 0) ∧ W.cell? ⟨g1, 5, none⟩ = some (.slice (some ⟨ga, 0, none⟩) 2 2) ∧ g1 < W.heap.size :=
  ⟨cell_of_heap h.h1 0, cell_of_heap h.h1 1, cell_of_heap h.h1 2, cell_of_heap h.h1 3, cell_of_heap h.h1 4, cell_of_heap h.h1 5, lt_of_row h.h1⟩
set_option maxRecDepth 100000 in
set_option maxHeartbeats 6400000 in
theorem awake20_c (s : Nat → Addr) (w : World) (hs : Sent s w) : Calls Tryd.prog 5 #[] w fun e w' => e = .returned (.bool true) ∧ Below w.heap.size w w' := by
  obtain ⟨ga, hga⟩ : ∃ ga, w.heap.size = ga := ⟨_, rfl⟩
  obtain ⟨g1, hg1⟩ : ∃ g1, w.heap.size + 1 = g1 := ⟨_, rfl⟩
  obtain ⟨W1, hW1⟩ : ∃ W1, (w.alloc (.cells #[.int .i64 7, .int .i64 0, .int .i64 2, .bool false, .int .i64 4, .int .i64 0, .int .i64 0, .int .i64 0, .int .i64 8, .int .i64 0, .int .i64 1, .bool false, .int .i64 4, .int .i64 0, .int .i64 0, .int .i64 0] 35)).alloc (.cells #[.int .i64 3, .int .i64 0, .int .i64 0, .int .i64 0, .int .i64 0, .slice (some ⟨ga, 0, none⟩) 2 2] 31) = W1 := ⟨_, rfl⟩
  have ha1 : AwkAt w ga g1 W1 := by
    refine ⟨?_, ?_, ?_⟩
    · rw [← hW1, ← hga, Below.heap_alloc _ _ _ (by simp)]; exact heap_at_newV rfl _
    · rw [← hW1, ← hg1]; exact heap_at_newV (by simp) _
    · rw [← hW1]; exact ((Below.refl _ _).alloc (Nat.le_refl _) _).alloc (by simp) _
  have HA1 := Lib.hid ha1
  have HS : Hid (∀ W, AwkAt w ga g1 W → Sent s W) := Lib.hid fun W h => hs.below h.low (Nat.le_refl _)
  have HW1 := Lib.hid hW1
  have HG := Lib.hid (show w.heap.size = ga ∧ w.heap.size + 1 = g1 from ⟨hga, hg1⟩)
  clear ha1 hs hW1 hga hg1
  go_enter Tryd.func5, Tryd.ntmps5
  go_upto_region 2 with fail
  rw [HG.out.2, HG.out.1, HW1.out]
  obtain ⟨c0, c1, c2, c3, c4, c5, cl⟩ := HA1.out.hc
  obtain ⟨gr2, hgr2⟩ : ∃ g, W1.heap.size = g := ⟨_, rfl⟩
  obtain ⟨gs2, hgs2⟩ : ∃ g, W1.heap.size + 1 = g := ⟨_, rfl⟩
  obtain ⟨V2, hV2⟩ : ∃ V, (W1.alloc (.cells #[.int .i64 3, .int .i64 0, .int .i64 0, .int .i64 0, .int .i64 0, .slice (some ⟨ga, 0, none⟩) 2 2] 31)).alloc (.cells #[.int .i64 7, .int .i64 1] 45) = V := ⟨_, rfl⟩
  have hb2 : Below W1.heap.size W1 V2 := by rw [← hV2]; exact ((Below.refl _ _).alloc (Nat.le_refl _) _).alloc (by simp) _
  have hr2 : V2.heap[gr2]? = some (.cells #[.int .i64 3, .int .i64 0, .int .i64 0, .int .i64 0, .int .i64 0, .slice (some ⟨ga, 0, none⟩) 2 2] 31 (0, 0)) := by rw [← hV2, ← hgr2, Below.heap_alloc _ _ _ (by simp)]; exact heap_at_newV rfl _
  have hs2 : V2.heap[gs2]? = some (.cells #[.int .i64 7, .int .i64 1] 45 (0, 0)) := by rw [← hV2, ← hgs2]; exact heap_at_newV (by simp) _
  have hA2 := HA1.out.on hb2
  have HP2 := Lib.hid (hA2.pick (HS.out _ hA2) hr2 hs2 ⟨3, 0, 0, 0⟩)
  have HA2v := Lib.hid hA2
  have HR2 := Lib.hid (And.intro hgs2 (And.intro hgr2 hV2))
  clear hr2 hs2 hb2 hA2 hgr2 hgs2 hV2
  go_wp2_with fail
  rw [HR2.out.1, HR2.out.2.1, HR2.out.2.2]
  refine HP2.out.mono ?_
  rintro e w2 ⟨host2, out2, er2, B2, cb2, rfl, hp2, ho2, b2⟩
  obtain ⟨rfl, rfl, rfl⟩ := awake_one hp2
  have hA2 := HA2v.out.on b2
  obtain ⟨t2, ht2⟩ : ∃ t, w2.heap.size = t := ⟨_, rfl⟩
  obtain ⟨U2, hU2⟩ : ∃ U, w2.alloc (.cells #[.int .i64 3, .slice B2 1 cb2] 38) = U := ⟨_, rfl⟩
  have hbu2 : Below w2.heap.size w2 U2 := by rw [← hU2]; exact (Below.refl _ _).alloc (Nat.le_refl _) _
  have HX2 : Hid (U2.heap[t2]? = some (.cells #[.int .i64 3, .slice B2 1 cb2] 38 (0, 0))) := Lib.hid (by rw [← hU2, ← ht2]; exact heap_alloc_new _ _)
  have HO2 := Lib.hid (ho2.on hbu2)
  have HAU2 := Lib.hid (hA2.on hbu2)
  have HU2 := Lib.hid (And.intro ht2 hU2)
  clear c0 c1 c2 c3 c4 c5 cl hA2 hp2 ho2 b2 ht2 hU2 hbu2
  obtain ⟨c0, c1, c2, c3, c4, c5, cl⟩ := HAU2.out.hc
  obtain ⟨gr3, hgr3⟩ : ∃ g, U2.heap.size = g := ⟨_, rfl⟩
  obtain ⟨gs3, hgs3⟩ : ∃ g, U2.heap.size + 1 = g := ⟨_, rfl⟩
  obtain ⟨V3, hV3⟩ : ∃ V, (U2.alloc (.cells #[.int .i64 3, .int .i64 0, .int .i64 0, .int .i64 0, .int .i64 0, .slice (some ⟨ga, 0, none⟩) 2 2] 31)).alloc (.cells #[.int .i64 7, .int .i64 1] 45) = V := ⟨_, rfl⟩
  have hb3 : Below U2.heap.size U2 V3 := by rw [← hV3]; exact ((Below.refl _ _).alloc (Nat.le_refl _) _).alloc (by simp) _
  have hr3 : V3.heap[gr3]? = some (.cells #[.int .i64 3, .int .i64 0, .int .i64 0, .int .i64 0, .int .i64 0, .slice (some ⟨ga, 0, none⟩) 2 2] 31 (0, 0)) := by rw [← hV3, ← hgr3, Below.heap_alloc _ _ _ (by simp)]; exact heap_at_newV rfl _
  have hs3 : V3.heap[gs3]? = some (.cells #[.int .i64 7, .int .i64 1] 45 (0, 0)) := by rw [← hV3, ← hgs3]; exact heap_at_newV (by simp) _
  have hA3 := HAU2.out.on hb3
  have HP3 := Lib.hid (hA3.pick (HS.out _ hA3) hr3 hs3 ⟨5, 0, 0, 0⟩)
  have HA3v := Lib.hid hA3
  have HKV3 := Lib.hid hb3
  have HR3 := Lib.hid (And.intro hgs3 (And.intro hgr3 hV3))
  clear hr3 hs3 hb3 hA3 hgr3 hgs3 hV3
  rw [show ([gstA] : List Gst).length = 1 from rfl]
  go_upto_region 3 with fail
  rw [HU2.out.1, HU2.out.2]
  go_wp2_with fail
  rw [HR3.out.1, HR3.out.2.1, HR3.out.2.2]
  refine HP3.out.mono ?_
  rintro e w3 ⟨host3, out3, er3, B3, cb3, rfl, hp3, -, b3⟩
  obtain rfl := awake_two hp3
  have hA3 := HA3v.out.on b3
  obtain ⟨t3, ht3⟩ : ∃ t, w3.heap.size = t := ⟨_, rfl⟩
  obtain ⟨U3, hU3⟩ : ∃ U, w3.alloc (.cells #[.int .i64 host3, .slice B3 out3.length cb3] 38) = U := ⟨_, rfl⟩
  have hbu3 : Below w3.heap.size w3 U3 := by rw [← hU3]; exact (Below.refl _ _).alloc (Nat.le_refl _) _
  have HAU3 := Lib.hid (hA3.on hbu3)
  have HKB3 : Hid (Below U2.heap.size U2 U3) := Lib.hid (HKV3.out.trans ((b3.trans (hbu3.mono b3.size)).mono HKV3.out.size))
  have HU3 := Lib.hid (And.intro ht3 hU3)
  clear c0 c1 c2 c3 c4 c5 cl hA3 hp3 b3 ht3 hU3 hbu3
  obtain ⟨c0, c1, c2, c3, c4, c5, cl⟩ := HAU3.out.hc
  obtain ⟨gr4, hgr4⟩ : ∃ g, U3.heap.size = g := ⟨_, rfl⟩
  obtain ⟨V4, hV4⟩ : ∃ V, U3.alloc (.cells #[.int .i64 3, .int .i64 0, .int .i64 0, .int .i64 0, .int .i64 0, .slice (some ⟨ga, 0, none⟩) 2 2] 31) = V := ⟨_, rfl⟩
  have hb4 : Below U3.heap.size U3 V4 := by rw [← hV4]; exact (Below.refl _ _).alloc (Nat.le_refl _) _
  have hr4 : V4.heap[gr4]? = some (.cells #[.int .i64 3, .int .i64 0, .int .i64 0, .int .i64 0, .int .i64 0, .slice (some ⟨ga, 0, none⟩) 2 2] 31 (0, 0)) := by rw [← hV4, ← hgr4]; exact heap_at_newV rfl _
  have hA4 := HAU3.out.on hb4
  have HP4 := Lib.hid (hA4.pick0 (HS.out _ hA4) hr4 ⟨9, 0, 0, 0⟩)
  have HA4v := Lib.hid hA4
  have HKV4 := Lib.hid hb4
  have HR4 := Lib.hid (And.intro hgr4 hV4)
  clear hr4 hb4 hA4 hgr4 hV4
  go_upto_region 4 with fail
  rw [HU3.out.1, HU3.out.2]
  go_wp2_with fail
  rw [HR4.out.1, HR4.out.2]
  refine HP4.out.mono ?_
  rintro e w4 ⟨host4, out4, er4, B4, cb4, rfl, hp4, -, b4⟩
  obtain rfl := awake_three hp4
  have hA4 := HA4v.out.on b4
  obtain ⟨t4, ht4⟩ : ∃ t, w4.heap.size = t := ⟨_, rfl⟩
  obtain ⟨U4, hU4⟩ : ∃ U, w4.alloc (.cells #[.int .i64 host4, .slice B4 out4.length cb4] 38) = U := ⟨_, rfl⟩
  have hbu4 : Below w4.heap.size w4 U4 := by rw [← hU4]; exact (Below.refl _ _).alloc (Nat.le_refl _) _
  have HAU4 := Lib.hid (hA4.on hbu4)
  have HKB4 : Hid (Below U2.heap.size U2 U4) := Lib.hid (HKB3.out.trans ((HKV4.out.trans ((b4.trans (hbu4.mono b4.size)).mono HKV4.out.size)).mono HKB3.out.size))
  have HU4 := Lib.hid (And.intro ht4 hU4)
  clear c0 c1 c2 c3 c4 c5 cl hA4 hp4 b4 ht4 hU4 hbu4
  have hxu := (HKB4.out.block t2 (lt_of_row HX2.out)).trans HX2.out
  have d0 := cell_of_heap hxu 0
  have d1 := cell_of_heap hxu 1
  simp at d0 d1
  have dl := lt_of_row hxu
  obtain ⟨ad, g, rfl, had, -, hgl, hfz, hc⟩ := (HO2.out.on HKB4.out).at (i := 0) (x := ⟨7, 0⟩) rfl
  have v0 := hc 0 _ rfl
  have v1 := hc 1 _ rfl
  simp at had v0 v1
  have hE : ∀ W, (Op.equalIn 10000 33 (.agg #[.int .i64 7, .int .i64 0]) (.agg #[.int .i64 7, .int .i64 0])).run Tryd.prog W = .ok true W := fun W => (eqTk ⟨7, 0⟩ ⟨7, 0⟩ W).trans (by rw [decide_eq_true rfl])
  have HK11 : Hid (∀ W, AwkAt w ga g1 W → Calls Tryd.prog 9 #[errV s 11] W fun e w' => e = .returned (.int .i64 11) ∧ Below W.heap.size W w') := Lib.hid fun W h => kind_errV s 11 W (HS.out W h) (by omega)
  have HK10 : Hid (∀ W, AwkAt w ga g1 W → Calls Tryd.prog 9 #[errV s 10] W fun e w' => e = .returned (.int .i64 10) ∧ Below W.heap.size W w') := Lib.hid fun W h => kind_errV s 10 W (HS.out W h) (by omega)
  have HLN : Hid (∀ W, AwkAt w ga g1 W → Calls Tryd.prog 10 #[.agg #[.int .i64 3, .int .i64 0, .int .i64 0, .int .i64 0, .int .i64 0, .slice (some ⟨ga, 0, none⟩) 2 2], .int .i64 1] W fun e w' => ∃ (A : Option Addr) (c : Nat) (M : List Gst), e = .returned (.slice A M.length c) ∧ M.Perm ([gstA, gstB].filter (candG 1)) ∧ OwnE encGst 35 w' W.heap.size (.slice A M.length c) M ∧ Below W.heap.size W w') := Lib.hid fun W h => line_c (hstX ga) 1 W h.reads (by simp [hstX])
  have hn0 : errV s 0 = .nilIface := rfl
  rw [hn0]
  clear hc hxu
  go_upto_region 5 with fail
  rw [HU4.out.1, HU4.out.2]
  go_wp2_with fail
  refine (HK11.out _ HAU4.out).mono ?_
  rintro e w5 ⟨rfl, b5⟩
  have HA5 := Lib.hid (HAU4.out.on b5)
  clear b5
  go_wp2_with fail
  refine (HK10.out _ HA5.out).mono ?_
  rintro e w6 ⟨rfl, b6⟩
  have hA6 := HA5.out.on b6
  have HA6 := Lib.hid hA6
  clear b6
  obtain ⟨c0, c1, c2, c3, c4, c5, cl⟩ := hA6.hc
  clear hA6
  go_wp2_with fail
  refine (HLN.out _ HA6.out).mono ?_
  rintro e w7 ⟨A7, c7, M7, rfl, hm, -, b7⟩
  have hml := awake_line hm
  rw [hml]
  have HB7 : Hid (Below w.heap.size w w7) := Lib.hid (HA6.out.low.trans (b7.mono HA6.out.low.size))
  clear hm hml b7
  go_wp2_with fail
  go_ret
  exact ⟨rfl, HB7.out⟩
end Go.Proofs.YtlckofoabnnlhaaDoor
