/- A store's methods where there is none, or the arguments are out of range, or there is no room. Conditions: the sentinels lie as the program's text lays them; the store lies in memory. -/
import Derived.Test.YtaibmdjcppeopaaGreatDoorShV
import Derived.Test.YtaibmdjcppeopaaGreatDoorShX
namespace Go.Proofs.YtaibmdjcppeopaaGreatDoor
open Go Go.RowKit

set_option maxHeartbeats 1600000 in
set_option maxRecDepth 100000 in
theorem snil_add (s : Nat → Addr) (T : ByteArray) (w : World) (hs : Sent s w) :
    Calls Tryz.prog 20 #[.pointer none, .string T] w fun e w' => e = .returned (errV s (1 + 1)) ∧ w = w' := by
  have gN := (sent_err s w hs).1
  go_enter Tryz.func20, Tryz.ntmps20
  go_wp2_with fail
  go_ret
  exact ⟨rfl, rfl⟩
set_option maxHeartbeats 1600000 in
set_option maxRecDepth 100000 in
theorem snil_keep (s : Nat → Addr) (T : ByteArray) (w : World) (hs : Sent s w) :
    Calls Tryz.prog 17 #[.pointer none, .string T] w fun e w' => e = .returned (errV s (1 + 1)) ∧ w = w' := by
  have gN := (sent_err s w hs).1
  go_enter Tryz.func17, Tryz.ntmps17
  go_wp2_with fail
  go_ret
  exact ⟨rfl, rfl⟩
theorem snil_state (w : World) : Calls Tryz.prog 11 #[.pointer none] w fun e w' => e = .returned (.string ⟨#[]⟩) ∧ w = w' := by
  go_enter Tryz.func11, Tryz.ntmps11
  go_wp2_with fail
  go_ret
  exact ⟨rfl, rfl⟩
theorem snil_records (w : World) : Calls Tryz.prog 13 #[.pointer none] w fun e w' => e = .returned (.slice none 0 0) ∧ w = w' := by
  go_enter Tryz.func13, Tryz.ntmps13
  go_wp2_with fail
  go_ret
  exact ⟨rfl, rfl⟩
theorem snil_seq (w : World) : Calls Tryz.prog 14 #[.pointer none] w fun e w' => e = .returned (.int .i64 0) ∧ w = w' := by
  go_enter Tryz.func14, Tryz.ntmps14
  go_wp2_with fail
  go_ret
  exact ⟨rfl, rfl⟩
set_option maxHeartbeats 1600000 in
set_option maxRecDepth 100000 in
theorem snil_open (s : Nat → Addr) (x : Int) (w : World) (hs : Sent s w) :
    Calls Tryz.prog 7 #[.pointer none, .int .i64 x] w fun e w' => e = .returned (.tuple #[.pointer none, errV s (1 + 1)]) ∧ Same w w' := by
  have gN := (sent_err s w hs).1
  go_enter Tryz.func7, Tryz.ntmps7
  go_wp2_with fail
  go_region
  all_goals go_wp2_with fail
  all_goals go_ret2
  all_goals exact ⟨rfl, ⟨rfl, rfl, rfl, rfl, fun _ => rfl⟩⟩

set_option maxHeartbeats 1600000 in
set_option maxRecDepth 100000 in
/-- Open, a size out of range. -/
theorem sopen_bad (s : Nat → Addr) (p g cap : Nat) (d : DS) (x : Int) (w : World) (hs : Sent s w) (h : DiskAt w p g cap d) (hbad : x < 1 ∨ 108 < x ∨ (d.n : Int) ≤ 2 * x) :
    Calls Tryz.prog 7 #[.pointer (some ⟨p, 0, none⟩), .int .i64 x] w fun e w' => e = .returned (.tuple #[.pointer none, errV s (0 + 1)]) ∧ Same w w' := by
  have gA := (sent_err s w hs).2.1
  have HLEN := Lib.hid (len_c p g cap d w h)
  clear h hs
  by_cases h1 : x < 1
  · clear hbad
    go_enter Tryz.func7, Tryz.ntmps7
    go_wp2_with fail
    go_region
    all_goals go_wp2_with fail
    all_goals go_ret2
    all_goals exact ⟨rfl, ⟨rfl, rfl, rfl, rfl, fun _ => rfl⟩⟩
  by_cases h2 : 108 < x
  · clear hbad
    go_enter Tryz.func7, Tryz.ntmps7
    go_wp2_with fail
    go_region
    all_goals go_wp2_with fail
    all_goals go_ret2
    all_goals exact ⟨rfl, ⟨rfl, rfl, rfl, rfl, fun _ => rfl⟩⟩
  have h3 : (d.n : Int) ≤ 2 * x := by omega
  have hwz : IntKind.i64.wrap (2 * x) = 2 * x := IntWalk.i64_in _ (by omega)
  clear hbad
  go_enter Tryz.func7, Tryz.ntmps7
  go_wp2_with fail
  refine (HLEN.out).mono ?_
  rintro e w1 ⟨rfl, rfl⟩
  go_wp2_with fail
  go_region
  all_goals go_wp2_with fail
  all_goals go_ret2
  all_goals exact ⟨rfl, ⟨rfl, rfl, rfl, rfl, fun _ => rfl⟩⟩

set_option maxHeartbeats 6400000 in
set_option maxRecDepth 100000 in
/-- Open, a state whose number is too great. -/
theorem sopen_form (s : Nat → Addr) (p g cap : Nat) (d : DS) (z N nx : Nat) (T : List UInt8) (x : Int) (w : World) (hs : Sent s w) (h : DiskAt w p g cap d) (hx : x = (z : Int))
    (hz : 0 < z) (hz2 : z ≤ 108) (hfit : 2 * z < d.n) (ho : d.on = true) (ht : Tells7 d z N nx T) (hN : 1073741824 < N) :
    Calls Tryz.prog 7 #[.pointer (some ⟨p, 0, none⟩), .int .i64 x] w fun e w' => e = .returned (.tuple #[.pointer none, errV s (2 + 1)]) ∧ Below w.heap.size w w' := by
  subst hx
  have hpl := h.lt
  have HLEN := Lib.hid (len_c p g cap d w h)
  obtain ⟨W1, hW1⟩ : ∃ W1, w.alloc (.cells (stoV0 p z) 54) = W1 := ⟨_, rfl⟩
  have hbn : Below w.heap.size w W1 := by rw [← hW1]; exact (Below.refl _ _).alloc (Nat.le_refl _) _
  have hsw : W1.heap.size = w.heap.size + 1 := by rw [← hW1, World.size_alloc]
  have hblk : W1.heap[w.heap.size]? = some (.cells (stoV0 p z) 54 (0, 0)) := by rw [← hW1]; exact heap_alloc_new w _
  have HLOAD := Lib.hid (sload_c s w.heap.size p g cap d z N nx T W1 (hs.below hbn (Nat.le_refl _)) hblk (h.below hbn hpl.1) hpl.1 hz hz2 (by omega) ho ht)
  have hW1' : w.alloc (.cells #[.pointer (some ⟨p, 0, none⟩), .int .i64 (z : Int), .string ⟨#[]⟩, .int .i64 0, .pointer none, .bool false] 54) = W1 := hW1
  have f1 : ¬ ((z : Int) < 1) := by omega
  have f2 : ¬ ((108 : Int) < (z : Int)) := by omega
  have hwz : IntKind.i64.wrap (2 * (z : Int)) = 2 * (z : Int) := IntWalk.i64_in _ (by omega)
  have f3 : ¬ ((d.n : Int) ≤ 2 * (z : Int)) := by omega
  have f4 : (1073741824 : Int) < (N : Int) := by omega
  have HS := Lib.hid hs; have HBN := Lib.hid hbn
  clear hbn h hW1 hs hblk ht
  go_enter Tryz.func7, Tryz.ntmps7
  go_wp2_with fail
  refine (HLEN.out).mono ?_
  rintro e w1 ⟨rfl, rfl⟩
  go_wp2_with fail
  (try rw [hW1'])
  refine (HLOAD.out).mono ?_
  rintro e w2 ⟨rfl, hu2, hc2⟩
  have hb2 : Below w.heap.size w w2 := HBN.out.trans (hc2.below (fun k hk => by omega) (by omega))
  have gF := (HS.out.below hb2 (Nat.le_refl _)).cell 2 (by omega)
  simp only [gnum, List.getD_cons_zero, List.getD_cons_succ] at gF
  have HB2 := Lib.hid hb2
  clear hb2 hu2 hc2
  go_wp2_with fail
  go_region
  all_goals go_wp2_with fail
  all_goals go_ret2
  all_goals exact ⟨rfl, HB2.out.drew⟩

set_option maxHeartbeats 1600000 in
set_option maxRecDepth 100000 in
/-- A record that is not added: the log's own error. -/
theorem sadd_err (s : Nat → Addr) (B u q p g cap : Nat) (d : DS) (z m N nx : Nat) (T X : ByteArray) (v : Value) (rs : List (List UInt8)) (fell lf : Bool) (k : Nat) (w : World) (hs : Sent s w) (h : StoMem w B u q p g cap d z m N T nx v rs fell lf) (hk : k < 14) (hne : k ≠ 13)
    (ha : Calls Tryz.prog 37 #[.pointer (some ⟨q, 0, none⟩), .string X] w fun e w' => e = .returned (.iface 157 (.pointer (some (s k)))) ∧ Below w.heap.size w w') :
    Calls Tryz.prog 20 #[.pointer (some ⟨u, 0, none⟩), .string X] w fun e w' => e = .returned (.iface 157 (.pointer (some (s k)))) ∧ Below w.heap.size w w' := by
  have c4 := h.cells.2.2.2.2.1
  have HA := Lib.hid ha; have HM := Lib.hid h; have HS := Lib.hid hs
  clear ha h hs
  go_enter Tryz.func20, Tryz.ntmps20
  go_wp2_with fail
  refine (HA.out).mono ?_
  rintro e x1 ⟨rfl, b1⟩
  have HN := Lib.hid (snote_other s B u q p g cap d z m N nx T v rs fell lf k x1 (HS.out.below b1 (Nat.le_refl _)) (HM.out.below b1 (Nat.le_refl _)) hk hne)
  have HB := Lib.hid b1
  clear b1 HA
  go_wp2_with fail
  refine (HN.out).mono ?_
  rintro e x2 ⟨rfl, h2⟩
  have HF := Lib.hid (HB.out.trans (h2.below w.heap.size))
  clear h2
  go_wp2_with fail
  go_ret
  exact ⟨rfl, HF.out⟩

set_option maxHeartbeats 1600000 in
set_option maxRecDepth 100000 in
/-- A state that is too long, or whose number would be too great. -/
theorem skeep_bad (s : Nat → Addr) (B u q p g cap : Nat) (d : DS) (z m N nx : Nat) (T X : ByteArray) (v : Value) (rs : List (List UInt8)) (w : World) (hs : Sent s w) (h : StoMem w B u q p g cap d z m N T nx v rs false false)
    (hX : X.size ≤ 7000) (hbad : z < nblk X.size ∨ 1073741824 < N + rs.length + 1) :
    Calls Tryz.prog 17 #[.pointer (some ⟨u, 0, none⟩), .string X] w fun e w' => e = .returned (errV s (0 + 1)) ∧ Below w.heap.size w w' := by
  have hsz := h.log.sizes
  have hbs := h.log.base
  have HSQ := Lib.hid (seq_c _ u q p g cap d z m N nx T v rs false false w h)
  obtain ⟨L, hL⟩ : ∃ L, nblk X.size = L := ⟨_, rfl⟩
  rw [hL] at hbad
  have HSZ : Hid (∀ W : World, Calls Tryz.prog 33 #[.string X] W fun e w' => e = .returned (.int .i64 (L : Nat)) ∧ w' = W) := Lib.hid fun W => by
    have h1 := sizeS_c X W (by omega)
    rw [hL] at h1; exact h1.mono fun _ _ ⟨k1, k2⟩ => ⟨k1, k2.symm⟩
  have HM := Lib.hid h; have HS := Lib.hid hs; have HBAD := Lib.hid hbad
  clear h hs hL hbad
  go_enter Tryz.func17, Tryz.ntmps17
  go_wp2_with fail
  refine (HSQ.out).mono ?_
  rintro e x1 ⟨he, h1⟩
  obtain ⟨Q, he2, hQ⟩ : ∃ Q : Int, e = .returned (.int .i64 Q) ∧ Q = ((N + rs.length : Nat) : Int) := ⟨_, he, rfl⟩
  subst he2
  clear he
  have HQ := Lib.hid hQ
  have hq0 : 0 ≤ Q := by omega
  have hq1 : Q ≤ 2000000000 := by omega
  have hwq : IntKind.i64.wrap (Q + 1) = Q + 1 := IntWalk.i64_in _ (by omega)
  have HM1 := Lib.hid (HM.out.same h1)
  have H1 := Lib.hid (h1.below w.heap.size)
  have gA := (sent_err s x1 (HS.out.below H1.out (Nat.le_refl _))).2.1
  have c1 := HM1.out.cells.2.1
  clear hQ h1 HSQ
  by_cases g1 : (z : Int) < (L : Int)
  · clear HBAD
    have n1 : z < L := by omega
    have n2 : ¬ L ≤ z := by omega
    clear g1
    go_wp2_with fail
    go_quiet ((go_at_call 33; exact Calls.quiet_of_same (HSZ.out _)))
    have gA2 : (x1.drewN nq).cell? ⟨1, 0, none⟩ = some (.iface 157 (.pointer (some (s 0)))) := gA
    clear gA c1
    go_wp2_with fail
    go_ret
    exact ⟨rfl, H1.out.trans ((Same.drewN _ nq).below _)⟩
  · have n1 : ¬ z < L := by omega
    have n2 : L ≤ z := by omega
    have g2d : decide ((1073741824 : Int) < Q + 1) = true := decide_eq_true (by have := HQ.out; have := HBAD.out; omega)
    clear g1 HBAD
    go_wp2_with fail
    go_quiet ((go_at_call 33; exact Calls.quiet_of_same (HSZ.out _)))
    have gA2 : (x1.drewN nq).cell? ⟨1, 0, none⟩ = some (.iface 157 (.pointer (some (s 0)))) := gA
    clear gA c1
    go_wp2_with fail
    go_ret
    exact ⟨rfl, H1.out.trans ((Same.drewN _ nq).below _)⟩
end Go.Proofs.YtaibmdjcppeopaaGreatDoor

/- All blocks of a disk that holds a store: behind an Open, behind a Keep, behind an Add. -/
namespace Go.Proofs.YtaibmdjcppeopaaGreatDoor
open Go Go.RowKit

theorem laid_get {l : List (List UInt8)} {b i : Nat} {rs : List (List UInt8)} (h : Follows l b rs) (hi : i < (layR b rs).length) : (layR b rs)[i]? = l[i]? := by
  rw [← h.laid] at hi ⊢
  rw [List.getElem?_take_of_lt (by rw [List.length_take] at hi; omega)]
/-- Behind an Open. -/
theorem rows_open {d e : DS} {z m n N : Nat} {rs : List (List UInt8)} (h : LogAt e (2 * z) m N rs) (hf : Follows (rowsD d (2 * z) m) N rs) (hn : 2 * z + m = n) (hs : ∀ j, j < 2 * z → e.blk j = d.blk j) :
    rowsD e 0 n = (rowsD d 0 n).take (2 * z + (layR N rs).length) ++ List.replicate (n - (2 * z + (layR N rs).length)) zeroF := by
  have hr := h.room
  have hl1 : ((rowsD d 0 n).take (2 * z + (layR N rs).length)).length = 2 * z + (layR N rs).length := by rw [List.length_take, rowsD_len]; omega
  refine rowsD_eq (by rw [List.length_append, hl1, List.length_replicate]; omega) fun i hi => ?_
  rw [Nat.zero_add]
  by_cases h1 : i < 2 * z + (layR N rs).length
  · rw [List.getElem?_append_left (by rw [hl1]; exact h1), List.getElem?_take_of_lt h1, rowsD_get hi, Nat.zero_add]
    by_cases h2 : i < 2 * z
    · rw [hs i h2]
    · obtain ⟨k, rfl⟩ : ∃ k, i = 2 * z + k := ⟨i - 2 * z, by omega⟩
      rw [← h.low (show k < (layR N rs).length by omega), laid_get hf (by omega), rowsD_get (by omega)]
  · obtain ⟨k, rfl⟩ : ∃ k, i = 2 * z + k := ⟨i - 2 * z, by omega⟩
    rw [List.getElem?_append_right (by rw [hl1]; omega), hl1, List.getElem?_replicate_of_lt (by omega), h.up (by omega) (by omega)]
/-- Behind a Keep. -/
theorem rows_keep {d e : DS} {z m n N nx : Nat} {Bs : List (List UInt8)} (_hz : 0 < z) (hx : nx = 0 ∨ nx = z) (h : LogAt e (2 * z) m N []) (hn : 2 * z + m = n) (hrow : rowsD e nx z = Bs ++ List.replicate (z - Bs.length) zeroF) (hB : Bs.length ≤ z) (hold : ∀ i, i < z → e.blk (z - nx + i) = d.blk (z - nx + i)) :
    (List.range n).map (keepR (rowsD d 0 n) z nx Bs) = rowsD e 0 n := by
  unfold rowsD
  refine List.map_congr_left fun i hi => ?_
  have hi := List.mem_range.1 hi
  rw [Nat.zero_add]
  unfold keepR
  by_cases h1 : 2 * z ≤ i
  · rw [if_pos h1]
    obtain ⟨k, rfl⟩ : ∃ k, i = 2 * z + k := ⟨i - 2 * z, by omega⟩
    exact (h.up (by simp [layR]) (by omega)).symm
  rw [if_neg h1]
  by_cases h2 : nx ≤ i ∧ i < nx + z
  · rw [if_pos h2]
    obtain ⟨k, rfl⟩ : ∃ k, i = nx + k := ⟨i - nx, by omega⟩
    rw [Nat.add_sub_cancel_left]
    have h3 := rowsD_get (d := e) (a := nx) (m := z) (i := k) (by omega)
    rw [hrow] at h3
    rw [List.getD_eq_getElem?_getD]
    by_cases h4 : k < Bs.length
    · rw [List.getElem?_append_left h4] at h3
      rw [h3]; rfl
    · rw [List.getElem?_append_right (by omega), List.getElem?_replicate_of_lt (by omega)] at h3
      rw [List.getElem?_eq_none (by omega)]
      exact Option.some.inj h3
  · rw [if_neg h2]
    obtain ⟨k, rfl⟩ : ∃ k, i = z - nx + k := ⟨i - (z - nx), by omega⟩
    rw [hold k (by omega)]
    show (rowsD d 0 n).getD (z - nx + k) zeroF = _
    rw [List.getD_eq_getElem?_getD, rowsD_get hi, Nat.zero_add]; rfl
/-- Behind an Add. -/
theorem rows_add {d e : DS} {z m n b U k : Nat} {rs F FF : List (List UInt8)} {x : List UInt8} (h : LogAt d (2 * z) m b rs) (h' : LogAt e (2 * z) m b (rs ++ [x])) (hn : 2 * z + m = n) (hs : ∀ j, j < 2 * z → e.blk j = d.blk j) (hF : rowsD d 0 n = F) (hU : (layR b rs).length = U)
    (hFF : framesF (b + rs.length + 1) x = FF) (hk : FF.length = k) : F.take (2 * z + U) ++ FF ++ F.drop (2 * z + U + k) = rowsD e 0 n := by
  have hr := h'.room
  rw [layR_snoc, hFF, List.length_append, hU, hk] at hr
  have hFl : F.length = n := by rw [← hF, rowsD_len]
  have hl1 : (F.take (2 * z + U)).length = 2 * z + U := by rw [List.length_take, hFl]; omega
  refine (rowsD_eq (by rw [List.length_append, List.length_append, hl1, List.length_drop, hFl, hk]; omega) fun i hi => ?_).symm
  rw [Nat.zero_add]
  have hg := rowsD_get (d := d) (a := 0) hi
  rw [hF, Nat.zero_add] at hg
  by_cases h1 : i < 2 * z + U + k
  · rw [List.getElem?_append_left (by rw [List.length_append, hl1, hk]; exact h1)]
    by_cases h2 : i < 2 * z
    · rw [List.getElem?_append_left (by rw [hl1]; omega), List.getElem?_take_of_lt (by omega), hg, hs i h2]
    · obtain ⟨j, rfl⟩ : ∃ j, i = 2 * z + j := ⟨i - 2 * z, by omega⟩
      have hlow := h'.low (i := j) (by rw [layR_snoc, hFF, List.length_append, hU, hk]; omega)
      rw [layR_snoc, hFF] at hlow
      rw [← hlow]
      by_cases h3 : j < U
      · rw [List.getElem?_append_left (by rw [hl1]; omega), List.getElem?_take_of_lt (by omega), hg, List.getElem?_append_left (by rw [hU]; exact h3), h.low (by rw [hU]; exact h3)]
      · rw [List.getElem?_append_right (by rw [hl1]; omega), hl1, List.getElem?_append_right (by rw [hU]; omega), hU]
        congr 1; omega
  · rw [List.getElem?_append_right (by rw [List.length_append, hl1, hk]; omega), List.length_append, hl1, hk, List.getElem?_drop, show 2 * z + U + k + (i - (2 * z + U + k)) = i by omega, hg]
    obtain ⟨j, rfl⟩ : ∃ j, i = 2 * z + j := ⟨i - 2 * z, by omega⟩
    rw [h.up (by rw [hU]; omega) (by omega), h'.up (by rw [layR_snoc, hFF, List.length_append, hU, hk]; omega) (by omega)]
/-- All bytes are all blocks. -/
theorem image_rows {d : DS} {n : Nat} (hw : d.bs.length % 64 = 0) (hn : d.n = n) : strB d.bs = bst (rowsD d 0 n).flatten := by
  rw [← hn]; exact congrArg bst (bs_rows hw)
end Go.Proofs.YtaibmdjcppeopaaGreatDoor
