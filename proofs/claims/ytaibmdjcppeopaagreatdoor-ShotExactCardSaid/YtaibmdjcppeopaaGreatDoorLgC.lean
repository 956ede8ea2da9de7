/- The log of package log as memory holds it, and what a call of it may write. No conditions. -/
import Derived.Test.YtaibmdjcppeopaaGreatDoorLgP
import Derived.Test.YtaibmdjcppeopaaGreatDoorBlkW
import Derived.Test.YtaibmdjcppeopaaGreatDoorFrOw
namespace Go.Proofs.YtaibmdjcppeopaaGreatDoor
open Go Go.RowKit

/-- Between the worlds w and w' nothing that was there has turned but the blocks of S. -/
structure ChgS (S : Nat → Prop) (w w' : World) : Prop where
  os : w'.os = w.os
  tape : w'.tape = w.tape
  output : w'.output = w.output
  size : w.heap.size ≤ w'.heap.size
  block : ∀ k, k < w.heap.size → ¬ S k → w'.heap[k]? = w.heap[k]?
theorem ChgS.refl (S : Nat → Prop) (w : World) : ChgS S w w := ⟨rfl, rfl, rfl, Nat.le_refl _, fun _ _ _ => rfl⟩
theorem ChgS.trans {S T : Nat → Prop} {a b c : World} (h : ChgS S a b) (k : ChgS T b c) (hT : ∀ i, i < a.heap.size → T i → S i) : ChgS S a c :=
  ⟨k.os.trans h.os, k.tape.trans h.tape, k.output.trans h.output, Nat.le_trans h.size k.size, fun i hi hs =>
    (k.block i (Nat.lt_of_lt_of_le hi h.size) (fun ht => hs (hT i hi ht))).trans (h.block i hi hs)⟩
theorem ChgS.mono {S T : Nat → Prop} {a b : World} (h : ChgS S a b) (hT : ∀ i, i < a.heap.size → S i → T i) : ChgS T a b :=
  ⟨h.os, h.tape, h.output, h.size, fun k hk ht => h.block k hk fun hs => ht (hT k hk hs)⟩
theorem ChgS.of_below {S : Nat → Prop} {a b : World} (h : Below a.heap.size a b) : ChgS S a b := ⟨h.os, h.tape, h.output, h.size, fun k hk _ => h.block k hk⟩
theorem ChgS.of_chg {S : Nat → Prop} {p q : Nat} {a b : World} (h : Chg p q a b) (hp : S p) (hq : S q) : ChgS S a b :=
  ⟨h.os, h.tape, h.output, h.size, fun k hk hs => h.block k hk (fun e => hs (e ▸ hp)) (fun e => hs (e ▸ hq))⟩
theorem ChgS.below {S : Nat → Prop} {B : Nat} {a b : World} (h : ChgS S a b) (hS : ∀ k, S k → B ≤ k) (hB : B ≤ a.heap.size) : Below B a b := ⟨h.os, h.tape, h.output, h.size, fun k hk => h.block k (by omega) fun hs => by have := hS k hs; omega⟩
theorem ChgS.drew {S : Nat → Prop} {a w : World} (h : ChgS S a w) : ChgS S a w.drew := ⟨h.os, h.tape, h.output, h.size, h.block⟩
theorem ChgS.drewN {S : Nat → Prop} {a w : World} (h : ChgS S a w) (n : Nat) : ChgS S a (w.drewN n) := ⟨h.os, h.tape, h.output, h.size, h.block⟩
theorem ChgS.alloc {S : Nat → Prop} {a w : World} (h : ChgS S a w) (o : Obj) : ChgS S a (w.alloc o) :=
  ⟨h.os, h.tape, h.output, Nat.le_trans h.size (by simp), fun k hk h1 => (Below.heap_alloc w o k (Nat.lt_of_lt_of_le hk h.size)).trans (h.block k hk h1)⟩
theorem ChgS.setCell {S : Nat → Prop} {a w : World} (h : ChgS S a w) {ad : Addr} (ha : S ad.block ∨ a.heap.size ≤ ad.block) (u : Value) : ChgS S a (w.setCell ad u) :=
  ⟨h.os, h.tape, h.output, Nat.le_trans h.size (by simp [World.setCell]), fun k hk h1 => (Below.heap_setCell w ad u k (by rcases ha with ha | ha; · rintro rfl; exact h1 ha
                                                                                                                          · omega)).trans (h.block k hk h1)⟩
theorem ChgS.grown {S : Nat → Prop} {a w w' : World} {row : Option Nat} (h : ChgS S a w) (hg : w.grownBy w' row) (hr : ∀ k, row = some k → S k ∨ a.heap.size ≤ k) : ChgS S a w' :=
  ⟨hg.os.trans h.os, hg.tape.trans h.tape, hg.output.trans h.output, Nat.le_trans h.size hg.size, fun k hk h1 =>
    (hg.block k (Nat.lt_of_lt_of_le hk h.size) (fun e => by rcases hr k e.symm with hh | hh; · exact h1 hh
                                                            · omega)).trans (h.block k hk h1)⟩
theorem ChgS.row {S : Nat → Prop} {a b : World} (h : ChgS S a b) {k : Nat} {o : Obj} (hk : a.heap[k]? = some o) (h1 : ¬ S k) : b.heap[k]? = some o :=
  (h.block k (Array.getElem?_eq_some_iff.1 hk).1 h1).trans hk
theorem ChgS.own {S : Nat → Prop} {a b : World} (h : ChgS S a b) {base n : Nat} {e : TypeId} {size : Nat} {v : Value} {xs : List Value} (hv : a.ownsRow base e size v n xs) (hn : ∀ k, v.ownBlock = some k → ¬ S k) : b.ownsRow base e size v n xs :=
  own_same hv fun k hk => h.block k (hv.lt k hk).2 (hn k hk)

/-- An owned row is a slice of its length. -/
theorem own_form {w : World} {base n : Nat} {e : TypeId} {size : Nat} {v : Value} {xs : List Value} (h : w.ownsRow base e size v n xs) : ∃ A c, v = .slice A n c := by
  rcases h.2 with ⟨rfl, rfl⟩ | ⟨g, cap, _, rfl, _⟩
  · exact ⟨none, 0, rfl⟩
  · exact ⟨_, cap, rfl⟩
/-- A value reads as a row of strings. -/
def Reads (w : World) (v : Value) (F : List (List UInt8)) : Prop := ∃ A c, v = .slice A F.length c ∧ F.length ≤ c ∧ SRow w w.heap.size A (F.map bst)
theorem own_reads {w : World} {base n : Nat} {v : Value} {F : List (List UInt8)} (h : w.ownsRow base 9 1 v n (strVs F)) : Reads w v F := by
  have hn : F.length = n := by have := h.1; rw [strVs_len] at this; omega
  rcases h.2 with ⟨rfl, h0⟩ | _
  · obtain rfl : F = [] := List.eq_nil_of_length_eq_zero (by omega)
    exact ⟨none, 0, rfl, Nat.le_refl _, fun h => absurd h (Nat.lt_irrefl 0)⟩
  · by_cases h0 : 0 < n
    · obtain ⟨g, cap, e, hc, hs, _⟩ := own_srow h h0
      exact ⟨_, cap, e, hc, hs⟩
    · obtain rfl : F = [] := List.eq_nil_of_length_eq_zero (by omega)
      obtain ⟨A, c, e⟩ := own_form h
      exact ⟨A, c, by rw [e]; congr 1; omega, Nat.zero_le _, fun h => absurd h (Nat.lt_irrefl 0)⟩
theorem Reads.of {w : World} {B : Nat} {A : Option Addr} {c : Nat} {zs : List ByteArray} (h : SRow w B A zs) (hB : B ≤ w.heap.size) (hc : zs.length ≤ c) : Reads w (.slice A zs.length c) (rows zs) := by
  refine ⟨A, c, by rw [rows_len], by rw [rows_len]; exact hc, ?_⟩
  have e : (rows zs).map bst = zs := by
    unfold rows; rw [List.map_map]
    conv => rhs; rw [← List.map_id zs]
    exact List.map_congr_left fun s _ => (bst_of s).symm
  rw [e]
  exact h.below (Below.refl _ _) (Nat.le_refl _) |> fun h => fun h0 => by
    obtain ⟨a, e1, e2, e3⟩ := h h0
    exact ⟨a, e1, by omega, e3⟩

/-- The blocks that a call of a log may write. -/
def LogS (q p g : Nat) (v : Value) : Nat → Prop := fun k => k = q ∨ k = p ∨ k = g ∨ v.ownBlock = some k
/-- The cells of a log: u blocks are taken. -/
def logV (p a m b : Nat) (v : Value) (u : Nat) (fell : Bool) : Array Value := #[.pointer (some ⟨p, 0, none⟩), .int .i64 (a : Int), .int .i64 ((a + m : Nat) : Int), .int .i64 (b : Int), v, .int .i64 ((a + u : Nat) : Int), .bool fell]
/-- A log in memory: q its own block, p its disk's, g that of the disk's bytes; v its records. -/
structure LogMem (w : World) (B q p g cap : Nat) (d : DS) (a m b : Nat) (v : Value) (rs : List (List UInt8)) (fell : Bool) : Prop where
  blk : w.heap[q]? = some (.cells (logV p a m b v (layR b rs).length fell) 80 (0, 0))
  disk : DiskAt w p g cap d
  own : w.ownsRow B 9 1 v rs.length (strVs rs)
  nil0 : rs = [] → v = .slice none 0 0
  lo : B ≤ g
  ne : p < q
  fits : a + m ≤ d.n
  room : (layR b rs).length ≤ m
  base : b ≤ 1073741824
  apart : ∀ k, v.ownBlock = some k → k ≠ q ∧ k ≠ p ∧ k ≠ g
theorem LogMem.lt {w : World} {B q p g cap : Nat} {d : DS} {a m b : Nat} {v : Value} {rs : List (List UInt8)} {fell : Bool} (h : LogMem w B q p g cap d a m b v rs fell) : q < w.heap.size ∧ p < q ∧ g < p ∧ B ≤ g :=
  ⟨lt_of_block h.blk, h.ne, h.disk.ne, h.lo⟩
theorem DS.n_le {d : DS} (h : d.Ok) : d.n ≤ 4096 := by have := h.len; unfold DS.n; omega
theorem LogMem.sizes {w : World} {B q p g cap : Nat} {d : DS} {a m b : Nat} {v : Value} {rs : List (List UInt8)} {fell : Bool} (h : LogMem w B q p g cap d a m b v rs fell) : a + m ≤ 4096 ∧ rs.length ≤ (layR b rs).length ∧ (layR b rs).length ≤ m :=
  ⟨Nat.le_trans h.fits (DS.n_le h.disk.ok), layR_ge b rs, h.room⟩
/-- Nothing of the log has turned. -/
theorem LogMem.kept {w w' : World} {S : Nat → Prop} {B q p g cap : Nat} {d : DS} {a m b : Nat} {v : Value} {rs : List (List UInt8)} {fell : Bool} (h : LogMem w B q p g cap d a m b v rs fell) (hc : ChgS S w w') (hS : ∀ k, LogS q p g v k → ¬ S k) : LogMem w' B q p g cap d a m b v rs fell := by
  have hl := h.lt
  exact ⟨hc.row h.blk (hS q (.inl rfl)), h.disk.same (hc.block p (by omega) (hS p (.inr (.inl rfl)))) (hc.block g (by omega) (hS g (.inr (.inr (.inl rfl))))), hc.own h.own fun k hk => hS k (.inr (.inr (.inr hk))), h.nil0, h.lo, h.ne, h.fits, h.room, h.base, h.apart⟩
theorem LogMem.lts {w : World} {B q p g cap : Nat} {d : DS} {a m b : Nat} {v : Value} {rs : List (List UInt8)} {fell : Bool} (h : LogMem w B q p g cap d a m b v rs fell) : ∀ k, LogS q p g v k → B ≤ k ∧ k < w.heap.size := by
  have hl := h.lt
  rintro k (rfl | rfl | rfl | hk)
  · omega
  · omega
  · omega
  · exact h.own.lt k hk
theorem LogMem.below {w w' : World} {B C q p g cap : Nat} {d : DS} {a m b : Nat} {v : Value} {rs : List (List UInt8)} {fell : Bool} (h : LogMem w B q p g cap d a m b v rs fell) (hb : Below C w w') (hC : w.heap.size ≤ C) : LogMem w' B q p g cap d a m b v rs fell :=
  h.kept (S := fun k => w.heap.size ≤ k) ⟨hb.os, hb.tape, hb.output, hb.size, fun k hk _ => hb.block k (by omega)⟩ fun k hk hs => by have := (h.lts k hk).2; omega
end Go.Proofs.YtaibmdjcppeopaaGreatDoor
