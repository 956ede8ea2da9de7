/- Deal's look ahead by contract: what Add would say. Conditions: the book is one that the calls have made; the sentinels lie where the program's text lays them. -/
import Derived.Test.YtogmlbjbjgkdcaaDoorBkE
import Derived.Test.YtogmlbjbjgkdcaaDoorDlC
namespace Go.Proofs.YtogmlbjbjgkdcaaDoor
open Go Go.RowKit

set_option maxRecDepth 100000 in
set_option maxHeartbeats 1600000 in
theorem check_nil (s : Nat → Addr) (o : Od) (w : World) (hs : Sent s w) :
    Calls Tryd.prog 22 #[.pointer none, .agg #[.int .i64 o.id, .int .i64 o.tn, .bool o.sell, .int .i64 o.price, .int .i64 o.lots, .int .i64 o.seq]] w fun e w' => e = .returned (errV s 2) ∧ Below w.heap.size w w' := by
  rw [show errV s 2 = .iface 125 (.pointer (some (s 1))) from rfl]
  obtain ⟨W, hW⟩ : ∃ W, W = w.alloc (.cells #[.int .i64 o.id, .int .i64 o.tn, .bool o.sell, .int .i64 o.price, .int .i64 o.lots, .int .i64 o.seq] 36) := ⟨_, rfl⟩
  have hb : Below w.heap.size w W := by rw [hW]; exact (Below.refl _ _).alloc (Nat.le_refl _) _
  have e1 : W.cell? ⟨1, 0, none⟩ = some (.iface 125 (.pointer (some (s 1)))) := (hs.below hb (Nat.le_refl _)).cell 1 (by omega)
  rw [hW] at e1
  clear hs hW hb
  go_enter Tryd.func22, Tryd.ntmps22
  go_wp2_with fail
  go_ret
  exact ⟨rfl, by (repeat' (first | (with_reducible exact Below.refl _ _) | (with_reducible refine below_drewN ?_ _) | (with_reducible refine Below.drew ?_) | (with_reducible refine Below.alloc ?_ ?_ _) | (with_reducible refine Below.setCell ?_ ?_ _) | (with_reducible refine Below.trans ?_ (Below.mono (by with_reducible assumption) ?_)) | omega | (simp only [World.size_alloc, World.size_setCell, World.size_drew, Go.Proofs.YtogmlbjbjgkdcaaDoor.World.size_drewN] at *; omega) | (with_reducible refine Below.size (B := 0) ?_)))⟩

set_option maxRecDepth 100000 in
set_option maxHeartbeats 3200000 in
theorem check_c (s : Nat → Addr) (q R : Nat) (b : RB) (o : Od) (w : World) (hs : Sent s w) (h : BBk w q R b) (hn : b.L.length ≤ 1000) :
    Calls Tryd.prog 22 #[.pointer (some ⟨q, 0, none⟩), .agg #[.int .i64 o.id, .int .i64 o.tn, .bool o.sell, .int .i64 o.price, .int .i64 o.lots, .int .i64 o.seq]] w fun e w' => e = .returned (errV s (addR13 b o).2) ∧ Below w.heap.size w w' := by
  obtain ⟨k, hk, hkk⟩ : ∃ k, (addR13 b o).2 = k ∧ ((goodO o = false ∧ k = 1) ∨ (goodO o = true ∧ pos b.L o.id < b.L.length ∧ k = 6) ∨ (goodO o = true ∧ ¬ pos b.L o.id < b.L.length ∧ 32 ≤ b.L.length ∧ k = 7) ∨ (goodO o = true ∧ ¬ pos b.L o.id < b.L.length ∧ ¬ 32 ≤ b.L.length ∧ k = 0)) := by
    refine ⟨_, rfl, ?_⟩
    unfold addR13
    cases hg : goodO o
    · exact .inl ⟨rfl, rfl⟩
    · by_cases hp : pos b.L o.id < b.L.length
      · exact .inr (.inl ⟨rfl, hp, by rw [if_pos rfl, if_pos hp]⟩)
      · by_cases hf : 32 ≤ b.L.length
        · exact .inr (.inr (.inl ⟨rfl, hp, hf, by rw [if_pos rfl, if_neg hp, if_pos hf]⟩))
        · exact .inr (.inr (.inr ⟨rfl, hp, hf, by rw [if_pos rfl, if_neg hp, if_neg hf]⟩))
  rw [hk]
  clear hk
  have HG := Lib.hid (fun W => good_c o W)
  have HA := Lib.hid (fun W (hW : BBk W q R b) => of_c q R b o.id W hW hn)
  have HLN := Lib.hid (fun W (hW : BBk W q R b) => len_c q R b W hW)
  have H0 := Lib.hid (h.alloc (.cells #[.int .i64 o.id, .int .i64 o.tn, .bool o.sell, .int .i64 o.price, .int .i64 o.lots, .int .i64 o.seq] 36))
  have HS := Lib.hid (hs.below ((Below.refl w.heap.size w).alloc (Nat.le_refl _) (.cells #[.int .i64 o.id, .int .i64 o.tn, .bool o.sell, .int .i64 o.price, .int .i64 o.lots, .int .i64 o.seq] 36)) (Nat.le_refl _))
  obtain ⟨y, hy⟩ : ∃ y, (b.L[pos b.L o.id]?).getD od0 = y := ⟨_, rfl⟩
  rw [hy] at HA
  clear h hs hy
  rcases hkk with ⟨hg, rfl⟩ | ⟨hg, hp, rfl⟩ | ⟨hg, hp, hf, rfl⟩ | ⟨hg, hp, hf, rfl⟩
  · rw [hg] at HG
    rw [show errV s 1 = .iface 125 (.pointer (some (s 0))) from rfl]
    clear hg
    go_enter Tryd.func22, Tryd.ntmps22
    go_wp2_with fail
    refine (HG.out _).mono ?_
    rintro e w1 ⟨rfl, hb1⟩
    have e1 : w1.cell? ⟨0, 0, none⟩ = some (.iface 125 (.pointer (some (s 0)))) := (HS.out.below hb1 (Nat.le_refl _)).cell 0 (by omega)
    go_wp2_with fail
    go_ret
    exact ⟨rfl, by (repeat' (first | (with_reducible exact Below.refl _ _) | (with_reducible refine below_drewN ?_ _) | (with_reducible refine Below.drew ?_) | (with_reducible refine Below.alloc ?_ ?_ _) | (with_reducible refine Below.setCell ?_ ?_ _) | (with_reducible refine Below.trans ?_ (Below.mono (by with_reducible assumption) ?_)) | omega | (simp only [World.size_alloc] at *; omega) | (with_reducible refine Below.size (B := 0) ?_)))⟩
  · rw [hg] at HG
    rw [show errV s 6 = .iface 125 (.pointer (some (s 5))) from rfl]
    rw [decide_eq_true hp] at HA
    clear hg hp
    go_enter Tryd.func22, Tryd.ntmps22
    go_wp2_with fail
    refine (HG.out _).mono ?_
    rintro e w1 ⟨rfl, hb1⟩
    have H1 := Lib.hid (H0.out.on hb1)
    have S1 := Lib.hid (HS.out.below hb1 (Nat.le_refl _))
    have ob : BOdBlk w1 w.heap.size o := (BOdBlk.new w o).below hb1 (by simp)
    obtain ⟨p0, p1, p2, p3, p4, p5, pl⟩ := ob.cells
    clear ob
    go_wp2_with fail
    refine (HA.out _ H1.out).mono ?_
    rintro e w2 ⟨rfl, hb2⟩
    have e1 : w2.cell? ⟨5, 0, none⟩ = some (.iface 125 (.pointer (some (s 5)))) := (S1.out.below hb2 (Nat.le_refl _)).cell 5 (by omega)
    have l1 := lt_of_cell e1
    go_wp2_with fail
    go_ret
    exact ⟨rfl, by (repeat' (first | (with_reducible exact Below.refl _ _) | (with_reducible refine below_drewN ?_ _) | (with_reducible refine Below.drew ?_) | (with_reducible refine Below.alloc ?_ ?_ _) | (with_reducible refine Below.setCell ?_ ?_ _) | (with_reducible refine Below.trans ?_ (Below.mono (by with_reducible assumption) ?_)) | omega | (simp only [World.size_alloc] at *; omega) | (with_reducible refine Below.size (B := 0) ?_)))⟩
  · rw [hg] at HG
    rw [show errV s 7 = .iface 125 (.pointer (some (s 6))) from rfl]
    rw [decide_eq_false hp] at HA
    clear hg hp
    have hf' : (32 : Int) ≤ (b.L.length : Int) := by omega
    go_enter Tryd.func22, Tryd.ntmps22
    go_wp2_with fail
    refine (HG.out _).mono ?_
    rintro e w1 ⟨rfl, hb1⟩
    have H1 := Lib.hid (H0.out.on hb1)
    have S1 := Lib.hid (HS.out.below hb1 (Nat.le_refl _))
    have ob : BOdBlk w1 w.heap.size o := (BOdBlk.new w o).below hb1 (by simp)
    obtain ⟨p0, p1, p2, p3, p4, p5, pl⟩ := ob.cells
    clear ob
    go_wp2_with fail
    refine (HA.out _ H1.out).mono ?_
    rintro e w2 ⟨rfl, hb2⟩
    have H2 := Lib.hid (H1.out.on hb2)
    have e1 : w2.cell? ⟨6, 0, none⟩ = some (.iface 125 (.pointer (some (s 6)))) := (S1.out.below hb2 (Nat.le_refl _)).cell 6 (by omega)
    have l1 := lt_of_cell e1
    go_wp2_with fail
    refine (HLN.out _ (H2.out.alloc _)).mono ?_
    rintro e w3 ⟨rfl, rfl⟩
    go_wp2_with fail
    go_ret
    exact ⟨rfl, by (repeat' (first | (with_reducible exact Below.refl _ _) | (with_reducible refine below_drewN ?_ _) | (with_reducible refine Below.drew ?_) | (with_reducible refine Below.alloc ?_ ?_ _) | (with_reducible refine Below.setCell ?_ ?_ _) | (with_reducible refine Below.trans ?_ (Below.mono (by with_reducible assumption) ?_)) | omega | (simp only [World.size_alloc] at *; omega) | (with_reducible refine Below.size (B := 0) ?_)))⟩
  · rw [hg] at HG
    rw [show errV s 0 = .nilIface from rfl]
    rw [decide_eq_false hp] at HA
    clear hg hp
    have hf' : ¬ (32 : Int) ≤ (b.L.length : Int) := by omega
    go_enter Tryd.func22, Tryd.ntmps22
    go_wp2_with fail
    refine (HG.out _).mono ?_
    rintro e w1 ⟨rfl, hb1⟩
    have H1 := Lib.hid (H0.out.on hb1)
    have ob : BOdBlk w1 w.heap.size o := (BOdBlk.new w o).below hb1 (by simp)
    obtain ⟨p0, p1, p2, p3, p4, p5, pl⟩ := ob.cells
    clear ob
    go_wp2_with fail
    refine (HA.out _ H1.out).mono ?_
    rintro e w2 ⟨rfl, hb2⟩
    have H2 := Lib.hid (H1.out.on hb2)
    go_wp2_with fail
    refine (HLN.out _ (H2.out.alloc _)).mono ?_
    rintro e w3 ⟨rfl, rfl⟩
    go_wp2_with fail
    go_ret
    exact ⟨rfl, by (repeat' (first | (with_reducible exact Below.refl _ _) | (with_reducible refine below_drewN ?_ _) | (with_reducible refine Below.drew ?_) | (with_reducible refine Below.alloc ?_ ?_ _) | (with_reducible refine Below.setCell ?_ ?_ _) | (with_reducible refine Below.trans ?_ (Below.mono (by with_reducible assumption) ?_)) | omega | (simp only [World.size_alloc] at *; omega) | (with_reducible refine Below.size (B := 0) ?_)))⟩
end Go.Proofs.YtogmlbjbjgkdcaaDoor
