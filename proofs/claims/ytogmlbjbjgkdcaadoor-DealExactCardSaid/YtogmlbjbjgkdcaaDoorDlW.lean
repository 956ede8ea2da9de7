/- What fills cost, and the lots of a side, by contract. Conditions: the fills lie in a row; the book is one that the calls have made. -/
import Derived.Test.YtogmlbjbjgkdcaaDoorDlE
import Derived.Test.YtogmlbjbjgkdcaaDoorOdE
namespace Go.Proofs.YtogmlbjbjgkdcaaDoor
open Go Go.RowKit

theorem wrap_wrap (a b : Int) : wrap64 (wrap64 a + b) = wrap64 (a + b) := by unfold wrap64; omega
theorem wrap_wrap2 (a b : Int) : wrap64 (wrap64 a + wrap64 b) = wrap64 (a + b) := by unfold wrap64; omega
theorem worth_snoc {L : List Fl} {k : Nat} {f : Fl} (h : L[k]? = some f) : worthF (L.take (k + 1)) = worthF (L.take k) + f.price * f.lots := by
  rw [List.take_add_one, h, worthF_app, Option.toList_some, worthF_cons, worthF_nil, Int.add_zero]

/-- A fill's cells; the row's address told by a letter. -/
theorem LiesE.fl {w : World} {m c : Nat} {A : Option Addr} {M : List Fl} (h : LiesE encFl w (.slice A m c) M) {i : Nat} {x : Fl} (hi : M[i]? = some x) :
    ∃ ad, A = some ad ∧ (ad.add (i * 6)).block < w.heap.size ∧ w.cell? (ad.add (i * 6)) = some (.int .i64 x.ask) ∧ w.cell? ⟨(ad.add (i * 6)).block, (ad.add (i * 6)).off + 1, none⟩ = some (.int .i64 x.bid) ∧ w.cell? ⟨(ad.add (i * 6)).block, (ad.add (i * 6)).off + 2, none⟩ = some (.int .i64 x.seller) ∧ w.cell? ⟨(ad.add (i * 6)).block, (ad.add (i * 6)).off + 3, none⟩ = some (.int .i64 x.buyer) ∧ w.cell? ⟨(ad.add (i * 6)).block, (ad.add (i * 6)).off + 4, none⟩ = some (.int .i64 x.price) ∧ w.cell? ⟨(ad.add (i * 6)).block, (ad.add (i * 6)).off + 5, none⟩ = some (.int .i64 x.lots) := by
  obtain ⟨ad, rfl, gl, hc⟩ := LiesE.at h hi
  refine ⟨ad, rfl, ?_, hc 0 _ rfl, ?_, ?_, ?_, ?_, ?_⟩
  · have := gl (by decide); unfold Addr.add; split <;> exact this
  · rw [← add_cellE _ _ _ (by decide)]; exact hc 1 _ rfl
  · rw [← add_cellE _ _ _ (by decide)]; exact hc 2 _ rfl
  · rw [← add_cellE _ _ _ (by decide)]; exact hc 3 _ rfl
  · rw [← add_cellE _ _ _ (by decide)]; exact hc 4 _ rfl
  · rw [← add_cellE _ _ _ (by decide)]; exact hc 5 _ rfl
/-- An order's cells; the row's address told by a letter. -/
theorem LiesE.od {w : World} {m c : Nat} {A : Option Addr} {M : List Od} (h : LiesE encOd w (.slice A m c) M) {i : Nat} {x : Od} (hi : M[i]? = some x) :
    ∃ ad, A = some ad ∧ (ad.add (i * 6)).block < w.heap.size ∧ w.cell? (ad.add (i * 6)) = some (.int .i64 x.id) ∧ w.cell? ⟨(ad.add (i * 6)).block, (ad.add (i * 6)).off + 1, none⟩ = some (.int .i64 x.tn) ∧ w.cell? ⟨(ad.add (i * 6)).block, (ad.add (i * 6)).off + 2, none⟩ = some (.bool x.sell) ∧ w.cell? ⟨(ad.add (i * 6)).block, (ad.add (i * 6)).off + 3, none⟩ = some (.int .i64 x.price) ∧ w.cell? ⟨(ad.add (i * 6)).block, (ad.add (i * 6)).off + 4, none⟩ = some (.int .i64 x.lots) ∧ w.cell? ⟨(ad.add (i * 6)).block, (ad.add (i * 6)).off + 5, none⟩ = some (.int .i64 x.seq) := by
  obtain ⟨ad, rfl, gl, hc⟩ := LiesE.at h hi
  refine ⟨ad, rfl, ?_, hc 0 _ rfl, ?_, ?_, ?_, ?_, ?_⟩
  · have := gl (by decide); unfold Addr.add; split <;> exact this
  · rw [← add_cellE _ _ _ (by decide)]; exact hc 1 _ rfl
  · rw [← add_cellE _ _ _ (by decide)]; exact hc 2 _ rfl
  · rw [← add_cellE _ _ _ (by decide)]; exact hc 3 _ rfl
  · rw [← add_cellE _ _ _ (by decide)]; exact hc 4 _ rfl
  · rw [← add_cellE _ _ _ (by decide)]; exact hc 5 _ rfl

set_option maxRecDepth 100000 in
set_option maxHeartbeats 1600000 in
theorem worth_c (v : Value) (L : List Fl) (w : World) (h : LiesE encFl w v L) (hn : L.length ≤ 1000) :
    Calls Tryd.prog 15 #[v] w fun e w' => e = .returned (.int .i64 (wrap64 (worthF L))) ∧ Below w.heap.size w w' := by
  have HL := Lib.hid h
  obtain ⟨A, c, rfl⟩ := h.form
  obtain ⟨N, hN⟩ : ∃ N, L.length = N := ⟨_, rfl⟩
  rw [hN] at HL hn ⊢
  have HN := Lib.hid hN
  clear h hN
  go_enter Tryd.func15, Tryd.ntmps15
  go_wp2_with fail
  go_loopw [3, 8] (fun a u W => ∃ k : Nat, k ≤ N ∧ u = .int .i64 (k : Int) ∧ a = .int .i64 (wrap64 (worthF (L.take k))) ∧ Below w.heap.size w W) (fun _ u _ => N - (intOf u).toNat)
  case atStart => exact ⟨0, Nat.zero_le _, rfl, by rw [List.take_zero, worthF_nil, show wrap64 0 = 0 by unfold wrap64; first | rfl | decide | omega], Below.refl _ _⟩
  case round =>
    obtain ⟨k, hk, rfl, rfl, hb⟩ := hrel
    have HB := Lib.hid hb
    clear hb
    by_cases hlt : k < N
    · obtain ⟨f, hf⟩ : ∃ f, L[k]? = some f := ⟨_, List.getElem?_eq_getElem (by rw [HN.out]; exact hlt)⟩
      obtain ⟨ad, rfl, gl, x0, x1, x2, x3, x4, x5⟩ := LiesE.fl (HL.out.onB HB.out) hf
      have HWS := Lib.hid (worth_snoc hf)
      have hk0 : (0 : Int) ≤ (k : Int) := by omega
      have hk1 : (k : Int) < (N : Int) := by omega
      obtain ⟨a, ha⟩ : ∃ a, worthF (L.take k) = a := ⟨_, rfl⟩
      rw [ha] at HWS ⊢
      clear hf ha
      go_wp2_with fail
      go_roundw
      case rel => exact ⟨k + 1, by omega, by go_num, by rw [HWS.out, wrap_wrap2], HB.out.trans (((Below.refl _ _).alloc (Nat.le_refl _) _).mono HB.out.size)⟩
      case measure => simp [intOf]; omega
    · obtain rfl : k = N := by omega
      go_wp2_with fail
      go_ret
      refine ⟨?_, HB.out⟩
      rw [← HN.out, List.take_length]
      rfl

theorem sumO_snoc {L : List Od} {k : Nat} {x : Od} (h : L[k]? = some x) : sumO (L.take (k + 1)) = sumO (L.take k) + x.lots := by
  rw [List.take_add_one, h, Option.toList_some]
  unfold sumO
  simp
theorem sumO_take {L : List Od} (h : ∀ x ∈ L, 1 ≤ x.lots ∧ x.lots ≤ 1000) (k : Nat) : 0 ≤ sumO (L.take k) ∧ sumO (L.take k) ≤ 1000 * (k : Int) := by
  induction k with
  | zero => rw [List.take_zero]; exact ⟨by decide, by decide⟩
  | succ k ih =>
    cases hx : L[k]? with
    | none => rw [List.take_add_one, hx, Option.toList_none, List.append_nil]; omega
    | some x => rw [sumO_snoc hx]; have := h x (List.mem_of_getElem? hx); omega

set_option maxRecDepth 100000 in
set_option maxHeartbeats 1600000 in
/-- The lots of a side, as the law adds them up. -/
theorem lots_c (w0 : World) (q R : Nat) (b : RB) (sell : Bool) (w : World) (h : BkAt w0 w q R b) (hG : GB b) :
    Calls Tryd.prog 17 #[.pointer (some ⟨q, 0, none⟩), .bool sell] w fun e w' => e = .returned (.int .i64 (sumO (listR13 b.L sell))) ∧ Below w.heap.size w w' := by
  have HLC := Lib.hid (h.list hG sell)
  have hlen : (listR13 b.L sell).length ≤ 32 := Nat.le_trans (listR13_le _ _) hG.len
  have hlots : ∀ x ∈ listR13 b.L sell, 1 ≤ x.lots ∧ x.lots ≤ 1000 := fun x hx => hG.lots x ((mem_side hG sell).1 hx).1
  have HST := Lib.hid (sumO_take hlots)
  generalize listR13 b.L sell = L at HLC hlen HST ⊢
  obtain ⟨N, hN⟩ : ∃ N, L.length = N := ⟨_, rfl⟩
  rw [hN] at hlen
  have HN := Lib.hid hN
  clear h hG hlots hN
  go_enter Tryd.func17, Tryd.ntmps17
  go_wp2_with fail
  refine HLC.out.mono ?_
  rintro e w1 ⟨v, rfl, hO, _, b1⟩
  have HL := Lib.hid hO.lies
  have HB1 := Lib.hid b1
  obtain ⟨A, c, rfl⟩ := hO.form
  rw [HN.out] at HL ⊢
  clear hO b1 HLC
  go_wp2_with fail
  go_loopw [5, 7] (fun a u W => ∃ k : Nat, k ≤ N ∧ u = .int .i64 (k : Int) ∧ a = .int .i64 (sumO (L.take k)) ∧ W = w1) (fun _ u _ => N - (intOf u).toNat)
  case atStart => exact ⟨0, Nat.zero_le _, rfl, by rw [List.take_zero]; rfl, rfl⟩
  case round =>
    obtain ⟨k, hk, rfl, rfl, rfl⟩ := hrel
    by_cases hlt : k < N
    · obtain ⟨x, hx⟩ : ∃ x, L[k]? = some x := ⟨_, List.getElem?_eq_getElem (by rw [HN.out]; exact hlt)⟩
      obtain ⟨ad, rfl, gl, x0, x1, x2, x3, x4, x5⟩ := LiesE.od HL.out hx
      have HSN := Lib.hid (sumO_snoc hx)
      have hs1 := HST.out k
      have hs2 := HST.out (k + 1)
      rw [HSN.out] at hs2
      have hk0 : (0 : Int) ≤ (k : Int) := by omega
      have hk1 : (k : Int) < (N : Int) := by omega
      obtain ⟨a, ha⟩ : ∃ a, sumO (L.take k) = a := ⟨_, rfl⟩
      rw [ha] at HSN hs1 hs2 ⊢
      have w1 : IntKind.i64.wrap (a + x.lots) = a + x.lots := IntWalk.i64_in _ (by omega)
      have w2 : wrap64 (a + x.lots) = a + x.lots := by unfold wrap64; omega
      clear hx ha
      go_wp2_with fail
      go_roundw
      case rel => exact ⟨k + 1, by omega, by go_num, by rw [HSN.out], by first | rfl | trivial⟩
      case measure => simp [intOf]; omega
    · obtain rfl : k = N := by omega
      go_wp2_with fail
      go_ret
      refine ⟨?_, HB1.out⟩
      rw [← HN.out, List.take_length]
      rfl

set_option maxRecDepth 100000 in
set_option maxHeartbeats 1600000 in
theorem match_nil (s : Nat → Addr) (o : Od) (w : World) (hs : Sent s w) :
    Calls Tryd.prog 8 #[.pointer none, .agg #[.int .i64 o.id, .int .i64 o.tn, .bool o.sell, .int .i64 o.price, .int .i64 o.lots, .int .i64 o.seq]] w fun e w' => e = .returned (.tuple #[.slice none 0 0, .int .i64 0, errV s 2]) ∧ Below w.heap.size w w' := by
  have H0 := Lib.hid (hs.below ((Below.refl w.heap.size w).alloc (Nat.le_refl _) (.cells #[.int .i64 o.id, .int .i64 o.tn, .bool o.sell, .int .i64 o.price, .int .i64 o.lots, .int .i64 o.seq] 36)) (Nat.le_refl _))
  clear hs
  go_enter Tryd.func8, Tryd.ntmps8
  go_wp2_with fail
  refine (check_nil s o _ H0.out).mono ?_
  rintro e w1 ⟨rfl, b1⟩
  rw [show errV s 2 = .iface 125 (.pointer (some (s 1))) from rfl]
  go_wp2_with fail
  exact bodyPost_ret (v := .tuple #[.slice none 0 0, .int .i64 0, .iface 125 (.pointer (some (s 1)))]) (by simp [results, Tryd.results8, go_sem]) rfl ⟨rfl, by (repeat' (first | (with_reducible exact Below.refl _ _) | (with_reducible refine below_drewN ?_ _) | (with_reducible refine Below.drew ?_) | (with_reducible refine Below.alloc ?_ ?_ _) | (with_reducible refine Below.setCell ?_ ?_ _) | (with_reducible refine Below.trans ?_ (Below.mono (by with_reducible assumption) ?_)) | omega | (simp only [World.size_alloc] at *; omega) | (with_reducible refine Below.size (B := 0) ?_)))⟩
end Go.Proofs.YtogmlbjbjgkdcaaDoor
