/- Contract of a log's Add. Conditions: the sentinels lie as the program's text lays them; the log lies in memory; where it is to write, there is power and the disk has seen fewer than a million writes. -/
import Derived.Test.YtaibmdjcppeopaaGreatDoorLgW
namespace Go.Proofs.YtaibmdjcppeopaaGreatDoor
open Go Go.RowKit

/-- A record was added: what memory holds then. -/
theorem LogMem.added {w w5 : World} {B q p g cap : Nat} {e : DS} {a m b n : Nat} {v v' val : Value} {rs : List (List UInt8)} {o : Obj} {x : List UInt8} (h : LogMem w B q p g cap e a m b v rs false) (hval : val = .int .i64 ((a + ((layR b rs).length + n) : Nat) : Int))
    (hn : n = nblk x.length) (hroom : (layR b rs).length + n ≤ m) (o1 : w5.ownsRow B 9 1 v' (rs.length + 1) (strVs rs ++ [.string (bst x)])) (g1 : ((w.setCell ⟨q, 5, none⟩ val).alloc o).grownBy w5 v.ownBlock)
    (hat : v'.ownBlock = v.ownBlock ∨ v'.ownBlock = some ((w.setCell ⟨q, 5, none⟩ val).alloc o).heap.size) :
    LogMem (w5.setCell ⟨q, 4, none⟩ v') B q p g cap e a m b v' (rs ++ [x]) false ∧ ChgS (LogS q p g v) w (w5.setCell ⟨q, 4, none⟩ v') ∧ ∀ k, v'.ownBlock = some k → v.ownBlock = some k ∨ w.heap.size ≤ k := by
  have hl := h.lt
  have hsz1 : (w.setCell ⟨q, 5, none⟩ val).heap.size = w.heap.size := by simp [World.setCell]
  have hsz2 : ((w.setCell ⟨q, 5, none⟩ val).alloc o).heap.size = w.heap.size + 1 := by rw [World.size_alloc, hsz1]
  rw [hsz2] at hat
  have hold : ∀ k, k < w.heap.size → some k ≠ v.ownBlock → k ≠ q → (w5.setCell ⟨q, 4, none⟩ v').heap[k]? = w.heap[k]? := fun k hk h1 h2 =>
    (Below.heap_setCell w5 ⟨q, 4, none⟩ v' k h2).trans ((g1.block k (by omega) h1).trans ((Below.heap_alloc _ o k (by omega)).trans (Below.heap_setCell w ⟨q, 5, none⟩ val k h2)))
  have hap : ∀ k, k = q ∨ k = p ∨ k = g → some k ≠ v.ownBlock := fun k hk he => by
    obtain ⟨h1, h2, h3⟩ := h.apart k he.symm
    rcases hk with hk | hk | hk <;> contradiction
  have hq5 : w5.heap[q]? = some (.cells ((logV p a m b v (layR b rs).length false).setIfInBounds 5 val) 80 (0, 0)) :=
    (g1.block q (by omega) (hap q (.inl rfl))).trans ((Below.heap_alloc _ o q (by omega)).trans (set_cells h.blk))
  have hlen : (layR b (rs ++ [x])).length = (layR b rs).length + n := by rw [layR_snoc, List.length_append, framesF_len, hn]
  have hown' : ∀ k, v'.ownBlock = some k → k ≠ q ∧ k ≠ p ∧ k ≠ g := fun k hk => by
    rcases hat with he | he
    · exact h.apart k (by rw [← he]; exact hk)
    · rw [he] at hk
      have := Option.some.inj hk
      omega
  refine ⟨⟨?_, h.disk.same (hold p (by omega) (hap p (.inr (.inl rfl))) (by omega)) (hold g (by omega) (hap g (.inr (.inr rfl))) (by omega)), ?_, fun h => absurd h (by simp), h.lo, h.ne, h.fits, by rw [hlen]; exact hroom, h.base, hown'⟩, ?_, fun k hk => ?_⟩
  · rw [set_cells hq5, hlen, hval]; rfl
  · have o2 : (w5.setCell ⟨q, 4, none⟩ v').ownsRow B 9 1 v' (rs.length + 1) (strVs rs ++ [.string (bst x)]) := own_same o1 fun k hk => Below.heap_setCell w5 ⟨q, 4, none⟩ v' k (hown' k hk).1
    rw [List.length_append, List.length_singleton]
    unfold strVs at o2 ⊢
    rw [List.map_append]
    exact o2
  · exact ⟨g1.os, g1.tape, g1.output, by have := g1.size; rw [hsz2] at this; show w.heap.size ≤ (w5.setCell _ _).heap.size; simp [World.setCell]; omega, fun k hk hs => hold k hk (fun he => hs (.inr (.inr (.inr he.symm)))) fun he => hs (.inl he)⟩
  · rcases hat with he | he
    · exact .inl (by rw [← he]; exact hk)
    · rw [he] at hk
      have := Option.some.inj hk
      exact .inr (by omega)

theorem sent_err (s : Nat → Addr) (w : World) (hs : Sent s w) : w.cell? ⟨0, 0, none⟩ = some (.iface 157 (.pointer (some (s 1)))) ∧ w.cell? ⟨1, 0, none⟩ = some (.iface 157 (.pointer (some (s 0)))) ∧
    w.cell? ⟨6, 0, none⟩ = some (.iface 157 (.pointer (some (s 6)))) ∧ w.cell? ⟨13, 0, none⟩ = some (.iface 157 (.pointer (some (s 13)))) := by
  have g1 := hs.cell 1 (by omega)
  have g2 := hs.cell 0 (by omega)
  have g3 := hs.cell 6 (by omega)
  have g4 := hs.cell 13 (by omega)
  simp only [gnum, List.getD_cons_zero, List.getD_cons_succ] at g1 g2 g3 g4
  exact ⟨g1, g2, g3, g4⟩

theorem blocks_okx (x : Int) (q : Nat) (d : ByteArray) (w : World) (hx : x = (q : Int)) (h1 : 1 ≤ q) (h2 : q ≤ 2147483647) (hd : d.size ≤ 6000) :
    Calls Tryz.prog 34 #[.int .i64 x, .string d] w fun e w' => (∃ g, e = .returned (.tuple #[.slice (some ⟨g, 0, none⟩) (nblk d.size) (nblk d.size), .nilIface]) ∧ RowV w' g (strVs (framesF q d.data.toList)) ∧ w.heap.size ≤ g) ∧ Below w.heap.size w w' := by
  subst hx; exact blocks_ok q d w h1 h2 hd

set_option maxHeartbeats 1600000 in
set_option maxRecDepth 100000 in
/-- A text that is too long. -/
theorem add_long (s : Nat → Addr) (B q p g cap : Nat) (d : DS) (a m b : Nat) (v : Value) (rs : List (List UInt8)) (fell : Bool) (T : ByteArray) (w : World) (hs : Sent s w) (h : LogMem w B q p g cap d a m b v rs fell) (hT : T.size ≤ 9223372036854775807) (hlong : 6000 < T.size) :
    Calls Tryz.prog 37 #[.pointer (some ⟨q, 0, none⟩), .string T] w fun e w' => e = .returned (errV s (0 + 1)) ∧ Below w.heap.size w w' := by
  have hn := next_c B q p g cap d a m b v rs fell w h
  have HN := Lib.hid hn; have HS := Lib.hid hs
  clear h hn hs
  go_enter Tryz.func37, Tryz.ntmps37
  go_wp2_with fail
  refine (HN.out).mono ?_
  rintro e w1 ⟨rfl, h1⟩
  go_wp2_with fail
  refine (blocks_bad s _ T _ (HS.out.below (h1.below w.heap.size) (Nat.le_refl _)) hT (.inr (.inr hlong))).mono ?_
  rintro e w2 ⟨rfl, b2⟩
  have HB : Hid (Below w.heap.size w w2) := Lib.hid ((h1.below _).trans (b2.mono (by rw [h1.size]; exact Nat.le_refl _)))
  clear h1 b2
  go_wp2_with fail
  go_ret
  exact ⟨rfl, HB.out⟩

set_option maxHeartbeats 1600000 in
set_option maxRecDepth 100000 in
/-- There is no room, or no number. -/
theorem add_full (s : Nat → Addr) (B q p g cap : Nat) (d : DS) (a m b : Nat) (v : Value) (rs : List (List UInt8)) (fell : Bool) (T : ByteArray) (w : World) (hs : Sent s w) (h : LogMem w B q p g cap d a m b v rs fell) (hT : T.size ≤ 6000) (hfull : m - (layR b rs).length < nblk T.size ∨ 1073741824 ≤ b + rs.length + 1) :
    Calls Tryz.prog 37 #[.pointer (some ⟨q, 0, none⟩), .string T] w fun e w' => e = .returned (errV s (6 + 1)) ∧ Below w.heap.size w w' := by
  obtain ⟨z1, z2, z3⟩ := h.sizes
  have hbase := h.base
  have hn := next_c B q p g cap d a m b v rs fell w h
  have HN := Lib.hid hn; have HS := Lib.hid hs; have HM := Lib.hid h
  clear h hn hs
  go_enter Tryz.func37, Tryz.ntmps37
  go_wp2_with fail
  refine (HN.out).mono ?_
  rintro e w1 ⟨rfl, h1⟩
  have HM1 := Lib.hid (HM.out.same h1)
  have H1 := Lib.hid h1; clear h1
  go_wp2_with fail
  refine (blocks_okx _ (b + rs.length + 1) T _ (by omega) (by omega) (by omega) hT).mono ?_
  rintro e w2 ⟨⟨gb, rfl, _, _⟩, b2⟩
  have HM2 := Lib.hid (HM1.out.below b2 (Nat.le_refl _))
  have HB : Hid (Below w.heap.size w w2) := Lib.hid ((H1.out.below _).trans (b2.mono (by rw [H1.out.size]; exact Nat.le_refl _)))
  clear b2
  go_wp2_with fail
  refine (room_c B q p g cap d a m b v rs fell _ HM2.out).mono ?_
  rintro e w3 ⟨rfl, h3⟩
  have HB3 : Hid (Below w.heap.size w w3) := Lib.hid (HB.out.trans (h3.below _))
  have HM3 := Lib.hid (HM2.out.same h3)
  have hr : ((m - (layR b rs).length : Nat) : Int) < (nblk T.size : Nat) ∨ ¬ ((m - (layR b rs).length : Nat) : Int) < (nblk T.size : Nat) := by omega
  obtain ⟨r, hre⟩ : ∃ r, m - (layR b rs).length = r := ⟨_, rfl⟩
  rw [hre] at hr hfull ⊢
  clear h3
  rcases hr with hr | hr
  · obtain ⟨_, _, gF, _⟩ := sent_err s w3 (HS.out.below HB3.out (Nat.le_refl _))
    go_wp2_with fail
    go_ret
    exact ⟨rfl, HB3.out⟩
  · go_wp2_with fail
    refine (next_c B q p g cap d a m b v rs fell _ HM3.out).mono ?_
    rintro e w4 ⟨rfl, h4⟩
    have HB4 : Hid (Below w.heap.size w w4) := Lib.hid (HB3.out.trans (h4.below _))
    obtain ⟨_, _, gF, _⟩ := sent_err s w4 (HS.out.below HB4.out (Nat.le_refl _))
    have hge : (1073741824 : Int) ≤ ((b + rs.length + 1 : Nat) : Int) := by omega
    clear h4
    go_wp2_with fail
    go_ret
    exact ⟨rfl, HB4.out⟩

set_option maxHeartbeats 1600000 in
set_option maxRecDepth 100000 in
/-- The power failed during an earlier call. -/
theorem add_fell (s : Nat → Addr) (B q p g cap : Nat) (d : DS) (a m b : Nat) (v : Value) (rs : List (List UInt8)) (T : ByteArray) (w : World) (hs : Sent s w) (h : LogMem w B q p g cap d a m b v rs true) (hT : T.size ≤ 6000) (hroom : nblk T.size ≤ m - (layR b rs).length) (hnext : b + rs.length + 1 < 1073741824) :
    Calls Tryz.prog 37 #[.pointer (some ⟨q, 0, none⟩), .string T] w fun e w' => e = .returned (errV s (13 + 1)) ∧ Below w.heap.size w w' := by
  obtain ⟨z1, z2, z3⟩ := h.sizes
  have hbase := h.base
  have hn := next_c B q p g cap d a m b v rs true w h
  have HN := Lib.hid hn; have HS := Lib.hid hs; have HM := Lib.hid h
  clear h hn hs
  go_enter Tryz.func37, Tryz.ntmps37
  go_wp2_with fail
  refine (HN.out).mono ?_
  rintro e w1 ⟨rfl, h1⟩
  have HM1 := Lib.hid (HM.out.same h1)
  have H1 := Lib.hid h1; clear h1
  go_wp2_with fail
  refine (blocks_okx _ (b + rs.length + 1) T _ (by omega) (by omega) (by omega) hT).mono ?_
  rintro e w2 ⟨⟨gb, rfl, _, _⟩, b2⟩
  have HM2 := Lib.hid (HM1.out.below b2 (Nat.le_refl _))
  have HB : Hid (Below w.heap.size w w2) := Lib.hid ((H1.out.below _).trans (b2.mono (by rw [H1.out.size]; exact Nat.le_refl _)))
  clear b2
  go_wp2_with fail
  refine (room_c B q p g cap d a m b v rs true _ HM2.out).mono ?_
  rintro e w3 ⟨rfl, h3⟩
  have HB3 : Hid (Below w.heap.size w w3) := Lib.hid (HB.out.trans (h3.below _))
  have HM3 := Lib.hid (HM2.out.same h3)
  have hr : ¬ ((m - (layR b rs).length : Nat) : Int) < (nblk T.size : Nat) := by omega
  obtain ⟨r, hre⟩ : ∃ r, m - (layR b rs).length = r := ⟨_, rfl⟩
  rw [hre] at hr ⊢
  clear h3 hroom
  go_wp2_with fail
  refine (next_c B q p g cap d a m b v rs true _ HM3.out).mono ?_
  rintro e w4 ⟨he, h4⟩
  obtain ⟨N, he2, hge⟩ : ∃ N : Int, e = .returned (.int .i64 N) ∧ ¬ (1073741824 : Int) ≤ N := ⟨_, he, by omega⟩
  subst he2
  clear he
  have HB4 : Hid (Below w.heap.size w w4) := Lib.hid (HB3.out.trans (h4.below _))
  have gD := (sent_err s w4 (HS.out.below HB4.out (Nat.le_refl _))).2.2.2
  have c6 := (HM3.out.same h4).cells.2.2.2.2.2.2
  clear h4 hre hnext hbase z1 z2 z3 hT
  go_wp2_with fail
  go_ret
  exact ⟨rfl, HB4.out⟩
end Go.Proofs.YtaibmdjcppeopaaGreatDoor
