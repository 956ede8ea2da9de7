/- The walk of the law ShotExact: whatever the arguments, it returns true. Condition: the sentinels lie as the program's text lays them. -/
import Derived.Test.YtaibmdjcppeopaaGreatDoorShY
namespace Go.Proofs.YtaibmdjcppeopaaGreatDoor
open Go Go.RowKit

theorem own_mono {w : World} {B B' n : Nat} {v : Value} {xs : List Value} (h : w.ownsRow B' 9 1 v n xs) (hB : B ≤ B') : w.ownsRow B 9 1 v n xs := own_le h hB
/-- The law's own row of texts: not nil, its cells lie apart from the store. -/
structure SureS (w : World) (B u q p g : Nat) (l v : Value) (F : List (List UInt8)) : Prop where
  own : w.ownsRow B 9 1 l F.length (strVs F)
  some_ : l ≠ .slice none 0 0
  apart : ∀ k, l.ownBlock = some k → ¬ StoS u q p g v k
theorem SureS.addr {w : World} {B u q p g : Nat} {l v : Value} {F : List (List UInt8)} (h : SureS w B u q p g l v F) : ∃ gu cu, l = .slice (some ⟨gu, 0, none⟩) F.length cu ∧ F.length ≤ cu ∧ B ≤ gu ∧ gu < w.heap.size := by
  rcases h.own.2 with ⟨h1, _⟩ | ⟨gu, cu, _, h1, hb, hg, h2, _⟩
  · exact absurd h1 h.some_
  · exact ⟨gu, cu, h1, by simpa using h2, hb, (Array.getElem?_eq_some_iff.1 hg).1⟩
theorem SureS.kept {w w' : World} {S : Nat → Prop} {B u q p g : Nat} {l v : Value} {F : List (List UInt8)} (h : SureS w B u q p g l v F) (hc : ChgS S w w') (hS : ∀ k, S k → StoS u q p g v k ∨ w.heap.size ≤ k) : SureS w' B u q p g l v F :=
  ⟨hc.own h.own fun k hk hs => by rcases hS k hs with h1 | h1; · exact h.apart k hk h1
                                  · have := (h.own.lt k hk).2; omega, h.some_, h.apart⟩
theorem SureS.below {w w' : World} {C B u q p g : Nat} {l v : Value} {F : List (List UInt8)} (h : SureS w B u q p g l v F) (hb : Below C w w') (hC : w.heap.size ≤ C) : SureS w' B u q p g l v F :=
  ⟨own_same h.own fun k hk => hb.block k (by have := (h.own.lt k hk).2; omega), h.some_, h.apart⟩
theorem SureS.same {w w' : World} {B u q p g : Nat} {l v : Value} {F : List (List UInt8)} (h : SureS w B u q p g l v F) (hs : Same w w') : SureS w' B u q p g l v F :=
  ⟨own_same h.own fun k _ => hs.block k, h.some_, h.apart⟩
/-- The store was written: its records may lie elsewhere since. -/
theorem SureS.after {w w' : World} {B u q p g : Nat} {l v v' : Value} {F : List (List UInt8)} (h : SureS w B u q p g l v F) (hc : ChgS (StoS u q p g v) w w') (hv : ∀ k, v'.ownBlock = some k → v.ownBlock = some k ∨ w.heap.size ≤ k) : SureS w' B u q p g l v' F := by
  have h1 := h.kept hc fun i hi => .inl hi
  exact ⟨h1.own, h1.some_, fun i hi hS => by
    rcases hS with h0 | h2 | h2 | h2 | h2
    · exact h.apart i hi (.inl h0)
    · exact h.apart i hi (.inr (.inl h2))
    · exact h.apart i hi (.inr (.inr (.inl h2)))
    · exact h.apart i hi (.inr (.inr (.inr (.inl h2))))
    · rcases hv i h2 with h3 | h3
      · exact h.apart i hi (.inr (.inr (.inr (.inr h3))))
      · have := (h.own.lt i hi).2; omega⟩
theorem rowsD_64 {d : DS} {a m : Nat} (h : a + m ≤ d.n) : ∀ x ∈ rowsD d a m, x.length = 64 := fun x hx => by
  obtain ⟨i, hi⟩ := List.getElem?_of_mem hx
  have hl := (List.getElem?_eq_some_iff.1 hi).1
  rw [rowsD_len] at hl
  rw [rowsD_get hl] at hi
  rw [← Option.some.inj hi]
  have := DS.blk_len (has_nat (d := d) (i := a + i) (by omega))
  rwa [Int.toNat_natCast] at this
theorem rblocks_okx (x : Int) (q : Nat) (d : ByteArray) (w : World) (hx : x = (q : Int)) (h1 : 1 ≤ q) (h2 : q ≤ 2147483647) (hd : d.size ≤ 6000) :
    Calls Tryz.prog 21 #[.int .i64 x, .string d] w fun e w' => (∃ v base, e = .returned (.tuple #[v, .bool true]) ∧ w'.ownsRow base 9 1 v (nblk d.size) (strVs (framesF q d.data.toList))) ∧ Below w.heap.size w w' := by
  subst hx; exact rblocks_ok q d w h1 h2 hd

/-- The law's own reference store lies at gu. -/
def UAt (w : World) (gu N gR k cR U : Nat) (a : Int) (T : ByteArray) : Prop := w.heap[gu]? = some (.cells #[.string T, .int .i64 (N : Int), .int .i64 a, .slice (some ⟨gR, 0, none⟩) k cR, .int .i64 (U : Int)] 34 (0, 0))
theorem UAt.kept {w w' : World} {S : Nat → Prop} {gu N gR k cR U : Nat} {a : Int} {T : ByteArray} (h : UAt w gu N gR k cR U a T) (hc : ChgS S w w') (hS : ¬ S gu) : UAt w' gu N gR k cR U a T := hc.row h hS
theorem UAt.lt {w : World} {gu N gR k cR U : Nat} {a : Int} {T : ByteArray} (h : UAt w gu N gR k cR U a T) : gu < w.heap.size := lt_of_block h
theorem UAt.below {w w' : World} {C gu N gR k cR U : Nat} {a : Int} {T : ByteArray} (h : UAt w gu N gR k cR U a T) (hb : Below C w w') (hC : w.heap.size ≤ C) : UAt w' gu N gR k cR U a T :=
  (hb.block gu (Nat.lt_of_lt_of_le h.lt hC)).trans h
theorem UAt.same {w w' : World} {gu N gR k cR U : Nat} {a : Int} {T : ByteArray} (h : UAt w gu N gR k cR U a T) (hs : Same w w') : UAt w' gu N gR k cR U a T := (hs.block gu).trans h
theorem UAt.cells {w : World} {gu N gR k cR U : Nat} {a : Int} {T : ByteArray} (h : UAt w gu N gR k cR U a T) : w.cell? ⟨gu, 0, none⟩ = some (.string T) ∧ w.cell? ⟨gu, 1, none⟩ = some (.int .i64 (N : Int)) ∧ w.cell? ⟨gu, 2, none⟩ = some (.int .i64 a) ∧ w.cell? ⟨gu, 3, none⟩ = some (.slice (some ⟨gR, 0, none⟩) k cR) ∧ w.cell? ⟨gu, 4, none⟩ = some (.int .i64 (U : Int)) :=
  ⟨cell_of_heap h 0, cell_of_heap h 1, cell_of_heap h 2, cell_of_heap h 3, cell_of_heap h 4⟩
/-- The state of the law: the store; its blocks as the law has them, the reference's store of them. -/
structure SxSt (w : World) (us q p g cap z m n K gu N nx U cl gl gR cR : Nat) (a : Int) (T : ByteArray) (rs : List (List UInt8)) (v : Value) (d : DS) (wr : World) : Prop where
  side : a = 0 ↔ nx = z
  used : (layR N rs).length = U
  numb : N ≤ 1073741824
  size : T.size ≤ 6000
  row : SureS wr w.heap.size us q p g (.slice (some ⟨gl, 0, none⟩) n cl) v (rowsD d 0 n)
  recs : SureS wr w.heap.size us q p g (.slice (some ⟨gR, 0, none⟩) rs.length cR) v rs
  live : LiveS wr w.heap.size us q p g cap z m N nx T v rs K d
  cnt : d.n = n
  blk : UAt wr gu N gR rs.length cR U a T
  apart : ¬ StoS us q p g v gu
  lo : w.heap.size ≤ gu
  has : Below w.heap.size w wr
theorem SxSt.below {w wr w' : World} {us q p g cap z m n K gu N nx U cl gl gR cR : Nat} {a : Int} {T : ByteArray} {rs : List (List UInt8)} {v : Value} {d : DS} (h : SxSt w us q p g cap z m n K gu N nx U cl gl gR cR a T rs v d wr) (hb : Below wr.heap.size wr w') : SxSt w us q p g cap z m n K gu N nx U cl gl gR cR a T rs v d w' :=
  ⟨h.side, h.used, h.numb, h.size, h.row.below hb (Nat.le_refl _), h.recs.below hb (Nat.le_refl _), h.live.below hb (Nat.le_refl _), h.cnt, h.blk.below hb (Nat.le_refl _), h.apart, h.lo, h.has.trans (hb.mono h.has.size)⟩
theorem SxSt.same {w wr w' : World} {us q p g cap z m n K gu N nx U cl gl gR cR : Nat} {a : Int} {T : ByteArray} {rs : List (List UInt8)} {v : Value} {d : DS} (h : SxSt w us q p g cap z m n K gu N nx U cl gl gR cR a T rs v d wr) (hb : Same wr w') : SxSt w us q p g cap z m n K gu N nx U cl gl gR cR a T rs v d w' :=
  h.below (hb.below _)
theorem SxSt.drewN {w W : World} {us q p g cap z m n K gu N nx U cl gl gR cR : Nat} {a : Int} {T : ByteArray} {rs : List (List UInt8)} {v : Value} {d : DS} (h : SxSt w us q p g cap z m n K gu N nx U cl gl gR cR a T rs v d W) (k : Nat) : SxSt w us q p g cap z m n K gu N nx U cl gl gR cR a T rs v d (W.drewN k) := h.same (Same.drewN _ k)
theorem SxSt.drew {w W : World} {us q p g cap z m n K gu N nx U cl gl gR cR : Nat} {a : Int} {T : ByteArray} {rs : List (List UInt8)} {v : Value} {d : DS} (h : SxSt w us q p g cap z m n K gu N nx U cl gl gR cR a T rs v d W) : SxSt w us q p g cap z m n K gu N nx U cl gl gR cR a T rs v d W.drew := h.same (Same.drew _)
theorem SxSt.cells {w W : World} {us q p g cap z m n K gu N nx U cl gl gR cR : Nat} {a : Int} {T : ByteArray} {rs : List (List UInt8)} {v : Value} {d : DS} (h : SxSt w us q p g cap z m n K gu N nx U cl gl gR cR a T rs v d W) : W.cell? ⟨gu, 0, none⟩ = some (.string T) ∧ W.cell? ⟨gu, 1, none⟩ = some (.int .i64 (N : Int)) ∧ W.cell? ⟨gu, 3, none⟩ = some (.slice (some ⟨gR, 0, none⟩) rs.length cR) :=
  ⟨h.blk.cells.1, h.blk.cells.2.1, h.blk.cells.2.2.2.1⟩
theorem SxSt.state_c {w W : World} {us q p g cap z m n K gu N nx U cl gl gR cR : Nat} {a : Int} {T : ByteArray} {rs : List (List UInt8)} {v : Value} {d : DS} (h : SxSt w us q p g cap z m n K gu N nx U cl gl gR cR a T rs v d W) :
    Calls Tryz.prog 11 #[.pointer (some ⟨us, 0, none⟩)] W fun e w' => e = .returned (.string T) ∧ SxSt w us q p g cap z m n K gu N nx U cl gl gR cR a T rs v d w' :=
  (Go.Proofs.YtaibmdjcppeopaaGreatDoor.state_c _ us q p g cap d z m N nx T v rs false false W h.live.mem).mono fun _ _ ⟨k1, k2⟩ => ⟨k1, k2 ▸ h⟩
theorem SxSt.srecs_c {w W : World} {us q p g cap z m n K gu N nx U cl gl gR cR : Nat} {a : Int} {T : ByteArray} {rs : List (List UInt8)} {v : Value} {d : DS} (h : SxSt w us q p g cap z m n K gu N nx U cl gl gR cR a T rs v d W) :
    Calls Tryz.prog 13 #[.pointer (some ⟨us, 0, none⟩)] W fun e w' => (∃ x, e = .returned x ∧ Reads w' x rs) ∧ SxSt w us q p g cap z m n K gu N nx U cl gl gR cR a T rs v d w' :=
  (Go.Proofs.YtaibmdjcppeopaaGreatDoor.srecs_c _ us q p g cap d z m N nx T v rs false false W h.live.mem).mono fun _ _ ⟨⟨x, k1, k2⟩, k3⟩ => ⟨⟨x, k1, own_reads k2⟩, h.below k3⟩
theorem SxSt.same_c {w W : World} {us q p g cap z m n K gu N nx U cl gl gR cR : Nat} {a : Int} {T : ByteArray} {rs : List (List UInt8)} {v : Value} {d : DS} (h : SxSt w us q p g cap z m n K gu N nx U cl gl gR cR a T rs v d W) {x : Value} (hr : Reads W x rs) (hl : rs.length ≤ 30) :
    Calls Tryz.prog 12 #[x, .slice (some ⟨gR, 0, none⟩) rs.length cR] W fun e w' => e = .returned (.bool true) ∧ SxSt w us q p g cap z m n K gu N nx U cl gl gR cR a T rs v d w' := by
  have hsm := Go.Proofs.YtaibmdjcppeopaaGreatDoor.same_c _ _ rs rs W hr (own_reads h.recs.own) (by omega) (by omega)
  rw [decide_eq_true rfl] at hsm
  exact hsm.mono fun _ _ ⟨k1, k2⟩ => ⟨k1, h.same k2⟩
theorem SxSt.seq_c {w W : World} {us q p g cap z m n K gu N nx U cl gl gR cR : Nat} {a : Int} {T : ByteArray} {rs : List (List UInt8)} {v : Value} {d : DS} (h : SxSt w us q p g cap z m n K gu N nx U cl gl gR cR a T rs v d W) {x : Int} (hx : ((N + rs.length : Nat) : Int) = x) :
    Calls Tryz.prog 14 #[.pointer (some ⟨us, 0, none⟩)] W fun e w' => e = .returned (.int .i64 x) ∧ SxSt w us q p g cap z m n K gu N nx U cl gl gR cR a T rs v d w' := by
  subst hx
  exact (Go.Proofs.YtaibmdjcppeopaaGreatDoor.seq_c _ us q p g cap d z m N nx T v rs false false W h.live.mem).mono fun _ _ ⟨k1, k2⟩ => ⟨k1, h.same k2⟩
theorem SxSt.image_c {w W : World} {us q p g cap z m n K gu N nx U cl gl gR cR : Nat} {a : Int} {T : ByteArray} {rs : List (List UInt8)} {v : Value} {d : DS} (h : SxSt w us q p g cap z m n K gu N nx U cl gl gR cR a T rs v d W) {J : ByteArray} (hJ : bst (rowsD d 0 n).flatten = J) :
    Calls Tryz.prog 15 #[.pointer (some ⟨p, 0, none⟩)] W fun e w' => e = .returned (.string J) ∧ SxSt w us q p g cap z m n K gu N nx U cl gl gR cR a T rs v d w' := by
  have h1 := Go.Proofs.YtaibmdjcppeopaaGreatDoor.image_c p g cap d W h.live.mem.log.disk
  rw [image_rows h.live.mem.log.disk.ok.whole h.cnt, hJ] at h1
  exact h1.mono fun _ _ ⟨k1, k2⟩ => ⟨k1, k2 ▸ h⟩
theorem SxSt.joined_c {w W : World} {us q p g cap z m n K gu N nx U cl gl gR cR : Nat} {a : Int} {T : ByteArray} {rs : List (List UInt8)} {v : Value} {d : DS} (h : SxSt w us q p g cap z m n K gu N nx U cl gl gR cR a T rs v d W) {J : ByteArray} (hJ : bst (rowsD d 0 n).flatten = J) (hn : n ≤ 30) :
    Calls Tryz.prog 16 #[.slice (some ⟨gl, 0, none⟩) n cl] W fun e w' => e = .returned (.string J) ∧ SxSt w us q p g cap z m n K gu N nx U cl gl gR cR a T rs v d w' := by
  have h1 := joined_le _ (rowsD d 0 n) W (own_reads h.row.own) (fun x hx => Nat.le_of_eq (rowsD_64 (by rw [h.cnt]; omega) x hx)) (by rw [rowsD_len]; omega)
  rw [hJ] at h1
  exact h1.mono fun _ _ ⟨k1, k2⟩ => ⟨k1, k2 ▸ h⟩
theorem UAt.renew {W : World} {gu N gR k cR U N' gR' k' cR' U' : Nat} {a a' : Int} {T T' : ByteArray} (h : UAt W gu N gR k cR U a T) {v0 v1 v2 v3 v4 : Value} (h0 : v0 = .string T') (h1 : v1 = .int .i64 (N' : Int)) (h2 : v2 = .int .i64 a') (h3 : v3 = .slice (some ⟨gR', 0, none⟩) k' cR') (h4 : v4 = .int .i64 (U' : Int)) :
    UAt (((((W.setCell ⟨gu, 0, none⟩ v0).setCell ⟨gu, 1, none⟩ v1).setCell ⟨gu, 2, none⟩ v2).setCell ⟨gu, 3, none⟩ v3).setCell ⟨gu, 4, none⟩ v4) gu N' gR' k' cR' U' a' T' ∧ ChgS (fun i => i = gu) W (((((W.setCell ⟨gu, 0, none⟩ v0).setCell ⟨gu, 1, none⟩ v1).setCell ⟨gu, 2, none⟩ v2).setCell ⟨gu, 3, none⟩ v3).setCell ⟨gu, 4, none⟩ v4) := by
  subst h0; subst h1; subst h2; subst h3; subst h4
  refine ⟨?_, (((((ChgS.refl (fun i => i = gu) W).setCell (ad := ⟨gu, 0, none⟩) (.inl rfl) _).setCell (ad := ⟨gu, 1, none⟩) (.inl rfl) _).setCell (ad := ⟨gu, 2, none⟩) (.inl rfl) _).setCell (ad := ⟨gu, 3, none⟩) (.inl rfl) _).setCell (ad := ⟨gu, 4, none⟩) (.inl rfl) _⟩
  unfold UAt at h ⊢
  rw [set_cells (set_cells (set_cells (set_cells (set_cells h))))]; rfl
theorem sel_rows {d : DS} {z n N nx : Nat} {T : List UInt8} (h : Tells7 d z N nx T) (hn : 2 * z ≤ n) : selF z (snapF ((rowsD d 0 n).take z)) (snapF (((rowsD d 0 n).drop z).take z)) = (N, T, nx) := by
  rw [show (rowsD d 0 n).take z = rowsD d 0 z from by conv => lhs; rw [show n = z + (n - z) by omega, rowsD_take d z (n - z)], rows_rest d (by omega), show n - z = z + (n - 2 * z) by omega,
    show rowsD d z (z + (n - 2 * z)) = rowsD d z z ++ rowsD d (z + z) (n - 2 * z) from rowsD_app _ _ _ _, List.take_left' (rowsD_len _ _ _)]
  exact h
theorem sadd_long (s : Nat → Addr) (B u q p g cap : Nat) (d : DS) (z m N nx : Nat) (T X : ByteArray) (v : Value) (rs : List (List UInt8)) (fell lf : Bool) (w : World) (hs : Sent s w) (h : StoMem w B u q p g cap d z m N T nx v rs fell lf) (hT : X.size ≤ 9223372036854775807) (hl : 6000 < X.size) :
    Calls Tryz.prog 20 #[.pointer (some ⟨u, 0, none⟩), .string X] w fun e w' => e = .returned (errV s (0 + 1)) ∧ Below w.heap.size w w' := by
  have h1 := add_long s B q p g cap d (2 * z) m N v rs lf X w hs h.log hT hl
  simp only [errV_pos] at h1 ⊢
  exact sadd_err s B u q p g cap d z m N nx T X v rs fell lf _ w hs h (by omega) (by omega) h1
theorem sadd_full (s : Nat → Addr) (B u q p g cap : Nat) (d : DS) (z m N nx : Nat) (T X : ByteArray) (v : Value) (rs : List (List UInt8)) (fell lf : Bool) (w : World) (hs : Sent s w) (h : StoMem w B u q p g cap d z m N T nx v rs fell lf) (hT : X.size ≤ 6000) (hl : m - (layR N rs).length < nblk X.size ∨ 1073741824 ≤ N + rs.length + 1) :
    Calls Tryz.prog 20 #[.pointer (some ⟨u, 0, none⟩), .string X] w fun e w' => e = .returned (errV s (6 + 1)) ∧ Below w.heap.size w w' := by
  have h1 := add_full s B q p g cap d (2 * z) m N v rs lf X w hs h.log hT hl
  simp only [errV_pos] at h1 ⊢
  exact sadd_err s B u q p g cap d z m N nx T X v rs fell lf _ w hs h (by omega) (by omega) h1
theorem SxSt.le {w W : World} {us q p g cap z m n K K' gu N nx U cl gl gR cR : Nat} {a : Int} {T : ByteArray} {rs : List (List UInt8)} {v : Value} {d : DS} (h : SxSt w us q p g cap z m n K gu N nx U cl gl gR cR a T rs v d W) (hk : K ≤ K') : SxSt w us q p g cap z m n K' gu N nx U cl gl gR cR a T rs v d W :=
  ⟨h.side, h.used, h.numb, h.size, h.row, h.recs, h.live.le hk, h.cnt, h.blk, h.apart, h.lo, h.has⟩
theorem SureS.put {w w' : World} {B u q p g gu : Nat} {l v : Value} {F : List (List UInt8)} (h : SureS w B u q p g l v F) (hc : ChgS (fun i => i = gu) w w') (hne : l.ownBlock ≠ some gu) : SureS w' B u q p g l v F :=
  ⟨hc.own h.own fun k hk hs => hne (by rw [hk, hs]), h.some_, h.apart⟩
def SxRel (w : World) (us q p g cap z m n gu L : Nat) (lv i : Value) (wr : World) : Prop :=
  ∃ (j N nx U cl gl gR cR : Nat) (a : Int) (T : ByteArray) (rs : List (List UInt8)) (v : Value) (d : DS), i = .int .i64 (j : Int) ∧ j ≤ L ∧ lv = .slice (some ⟨gl, 0, none⟩) n cl ∧ n ≤ cl ∧ SxSt w us q p g cap z m n (5000 + 5000 * j) gu N nx U cl gl gR cR a T rs v d wr

set_option maxHeartbeats 25600000 in
set_option maxRecDepth 100000 in
theorem shot_any (s : Nat → Addr) (T : ByteArray) (x : Int) (A : Option Addr) (c : Nat) (zs : List ByteArray) (w : World) (hs : Sent s w) (hT : T.size ≤ 9223372036854775807) (_x0 : -9223372036854775808 ≤ x) (_x1 : x ≤ 9223372036854775807)
    (hA : SRow w w.heap.size A zs) (_hl : zs.length ≤ 9223372036854775807) (_hcz : zs.length ≤ c) :
    Calls Tryz.prog 3 #[.string T, .int .i64 x, .slice A zs.length c] w fun e w' => e = .returned (.bool true) ∧ Below w.heap.size w w' := by
  have HA := Lib.hid hA
  clear hA
  by_cases hbig : 1920 < T.size
  · have hbi : (1920 : Int) < (T.size : Int) := by omega
    go_enter Tryz.func3, Tryz.ntmps3
    go_wp2_with fail
    refine (awake7_c s _ hs).mono ?_
    rintro e w1 ⟨rfl, b1⟩
    go_wp2_with fail
    go_ret
    exact ⟨rfl, b1⟩
  have hbi : ¬ (1920 : Int) < (T.size : Int) := by omega
  by_cases h20 : 12 < zs.length
  · have h20i : (12 : Int) < (zs.length : Int) := by omega
    go_enter Tryz.func3, Tryz.ntmps3
    go_wp2_with fail
    refine (awake7_c s _ hs).mono ?_
    rintro e w1 ⟨rfl, b1⟩
    go_wp2_with fail
    go_ret
    exact ⟨rfl, b1⟩
  have h20i : ¬ (12 : Int) < (zs.length : Int) := by omega
  obtain ⟨n, hn⟩ : ∃ n, T.size / 64 = n := ⟨_, rfl⟩
  have hn30 : n ≤ 30 := by omega
  have hclamp : clampI ((T.size : Int) / 64) 4096 = n := by unfold clampI; omega
  have hsl := size_len T
  by_cases hbad : x < 1 ∨ 108 < x ∨ (n : Int) ≤ 2 * x
  · as_aux_lemma =>
      have HBAD := Lib.hid hbad
      have HN := Lib.hid hn; have HCL := Lib.hid hclamp
      have hwz : 1 ≤ x → x ≤ 108 → IntKind.i64.wrap (2 * x) = 2 * x := fun h1 h2 => IntWalk.i64_in _ (by omega)
      have HWZ := Lib.hid hwz
      clear hbad hn hclamp hwz
      go_enter Tryz.func3, Tryz.ntmps3
      go_wp2_with fail
      refine (awake7_c s _ hs).mono ?_
      rintro e w1 ⟨rfl, b1⟩
      have B1 := Lib.hid b1; clear b1
      go_wp2_with fail
      refine (dsk_of_c T _ hT).mono ?_
      rintro e w2 ⟨p, g, cap, rfl, hd, b2, hg⟩
      have HD2 := Lib.hid hd
      have B2 : Hid (Below w.heap.size w w2) := Lib.hid (B1.out.trans (b2.mono B1.out.size))
      clear hd b2
      go_wp2_with fail
      refine (rparts_c T _ (by omega)).mono ?_
      rintro e w3 ⟨⟨ga, ca, rfl, _⟩, b3⟩
      have HD3 := Lib.hid (HD2.out.below b3 HD2.out.lt.1)
      have B3 : Hid (Below w.heap.size w w3) := Lib.hid (B2.out.trans (b3.mono B2.out.size))
      clear b3 HD2
      rw [HN.out]
      have hob := sopen_bad s p g cap _ x w3 (hs.below B3.out (Nat.le_refl _)) HD3.out (by
        have e : (newD (T.data.toList.take (64 * clampI ((T.size : Int) / 64) 4096))).n = n := by
          have := HN.out
          unfold DS.n newD; rw [HCL.out]; simp only [List.length_take, hsl]; omega
        rw [e]; exact HBAD.out)
      have HOB := Lib.hid hob
      clear hob HD3
      go_wp2_with fail
      refine (HOB.out).mono ?_
      rintro e w4 ⟨rfl, h4⟩
      have B4 : Hid (Below w.heap.size w w4) := Lib.hid (B3.out.trans (h4.below _))
      have HK1 := Lib.hid (kind_errV s 1 w4 (hs.below B4.out (Nat.le_refl _)) (by omega))
      clear h4 HOB
      by_cases g1 : x < 1
      · go_wp2_with fail
        refine (HK1.out).mono ?_
        rintro e w5 ⟨rfl, b5⟩
        have B5 : Hid (Below w.heap.size w w5) := Lib.hid (B4.out.trans (b5.mono B4.out.size))
        clear b5
        go_wp2_with fail
        go_ret
        exact ⟨rfl, B5.out⟩
      by_cases g2 : 108 < x
      · go_wp2_with fail
        refine (HK1.out).mono ?_
        rintro e w5 ⟨rfl, b5⟩
        have B5 : Hid (Below w.heap.size w w5) := Lib.hid (B4.out.trans (b5.mono B4.out.size))
        clear b5
        go_wp2_with fail
        go_ret
        exact ⟨rfl, B5.out⟩
      have g3 : (n : Int) ≤ 2 * x := by have := HBAD.out; omega
      have hwz := HWZ.out (by omega) (by omega)
      go_wp2_with fail
      refine (HK1.out).mono ?_
      rintro e w5 ⟨rfl, b5⟩
      have B5 : Hid (Below w.heap.size w w5) := Lib.hid (B4.out.trans (b5.mono B4.out.size))
      clear b5
      go_wp2_with fail
      go_ret
      exact ⟨rfl, B5.out⟩
  obtain ⟨z, rfl⟩ : ∃ z : Nat, x = (z : Int) := ⟨x.toNat, by omega⟩
  have hz0 : 0 < z := by omega
  have hz1 : z ≤ 108 := by omega
  have hzn : 2 * z < n := by omega
  obtain ⟨m, hm⟩ : ∃ m, 2 * z + m = n := ⟨n - 2 * z, by omega⟩
  have f1 : ¬ (z : Int) < 1 := by omega
  have f2 : ¬ (108 : Int) < (z : Int) := by omega
  have f3 : ¬ (n : Int) ≤ 2 * (z : Int) := by omega
  have hwz : IntKind.i64.wrap (2 * (z : Int)) = 2 * (z : Int) := IntWalk.i64_in _ (by omega)
  have HN := Lib.hid hn; have HCL := Lib.hid hclamp; have HM := Lib.hid hm
  clear hn hclamp _x0 _x1 hbad hm
  go_enter Tryz.func3, Tryz.ntmps3
  go_wp2_with fail
  refine (awake7_c s _ hs).mono ?_
  rintro e w1 ⟨rfl, b1⟩
  have B1 := Lib.hid b1; clear b1
  go_wp2_with fail
  refine (dsk_of_c T _ hT).mono ?_
  rintro e w2 ⟨p, g, cap, rfl, hd, b2, hg⟩
  obtain ⟨D0, hD0⟩ : ∃ D0, newD (T.data.toList.take (64 * clampI ((T.size : Int) / 64) 4096)) = D0 := ⟨_, rfl⟩
  rw [hD0] at hd
  have hD0' : newD (T.data.toList.take (64 * (T.data.toList.length / 64))) = D0 := by rw [hsl, HN.out, ← hD0, HCL.out]
  have hD0n : D0.n = n := by rw [← hD0, HCL.out]; have := HN.out; unfold DS.n newD; simp only [List.length_take, hsl]; omega
  have hparts : rowsD D0 0 n = partsF T.data.toList := by have := parts_rows T.data.toList; rw [hD0', hD0n] at this; exact this
  have hD0o : D0.on = true := by rw [← hD0]; rfl
  have hD0f : D0.fuse < 0 := by rw [← hD0]; show (-1 : Int) < 0; omega
  have hD0w : D0.wr = 0 := by rw [← hD0]; rfl
  have HD2 := Lib.hid hd; have HP := Lib.hid hparts
  have B2 : Hid (Below w.heap.size w w2) := Lib.hid (B1.out.trans (b2.mono B1.out.size))
  have hgw : w.heap.size ≤ g := Nat.le_trans B1.out.size hg
  have hpg := hd.lt
  clear hd b2 hD0 hD0' hparts
  go_wp2_with fail
  refine (rparts_c T _ (by omega)).mono ?_
  rintro e w3 ⟨⟨ga, ca, rfl, oa⟩, b3⟩
  rw [HN.out, ← HP.out] at oa
  have HD3 := Lib.hid (HD2.out.below b3 HD2.out.lt.1)
  have B3 : Hid (Below w.heap.size w w3) := Lib.hid (B2.out.trans (b3.mono B2.out.size))
  have hga := (oa.lt ga rfl)
  have hca : n ≤ ca := by
    rcases oa.2 with ⟨h1, _⟩ | ⟨_, c1, _, h1, _, _, h2, _⟩
    · cases h1
    · simp only [Value.slice.injEq] at h1; omega
  have HOA := Lib.hid oa
  clear b3 HD2 oa
  rw [HN.out]
  obtain ⟨N, nx, T0, hts⟩ := tells_exists D0 z
  have hnb := hts.facts
  have hFl : (rowsD D0 0 n).length = n := rowsD_len _ _ _
  have hsel : selF z (snapF ((rowsD D0 0 n).take z)) (snapF (((rowsD D0 0 n).drop z).take z)) = (N, T0, nx) := by
    rw [show (rowsD D0 0 n).take z = rowsD D0 0 z from by conv => lhs; rw [show n = z + (n - z) by omega, rowsD_take D0 z (n - z)], rows_rest D0 (by omega), show n - z = z + (n - 2 * z) by omega,
      show rowsD D0 z (z + (n - 2 * z)) = rowsD D0 z z ++ rowsD D0 (z + z) (n - 2 * z) from rowsD_app _ _ _ _, List.take_left' (rowsD_len _ _ _)]
    exact hts
  have HTS := Lib.hid hts; have HSEL := Lib.hid hsel
  have HALL : Hid (∀ W, Below w3.heap.size w3 W → SRow W W.heap.size (some ⟨ga, 0, none⟩) ((rowsD D0 0 n).map bst)) := Lib.hid fun W hW => own_rows (own_same HOA.out fun k hk => hW.block k (HOA.out.lt k hk).2)
  clear hts hsel
  by_cases hN : 1073741824 < N
  · as_aux_lemma =>
      have HF := Lib.hid (sopen_form s p g cap D0 z N nx T0 (z : Int) w3 (hs.below B3.out (Nat.le_refl _)) HD3.out rfl hz0 hz1 (by omega) hD0o HTS.out hN)
      have hNi : (1073741824 : Int) < (N : Int) := by omega
      clear HTS HOA
      go_wp2_with fail
      refine (HF.out).mono ?_
      rintro e w4 ⟨rfl, b4⟩
      have B4 : Hid (Below w.heap.size w w4) := Lib.hid (B3.out.trans (b4.mono B3.out.size))
      have hrs := rst_c ga ca z N nx (rowsD D0 0 n) T0 w4 (HALL.out w4 b4) hz0 hz1 (by omega) (by omega) (by omega) (by omega) HSEL.out
      rw [hFl] at hrs
      have HRS := Lib.hid hrs
      clear hrs b4 HF HD3 HALL HSEL
      go_wp2_with fail
      refine (HRS.out).mono ?_
      rintro e w5 ⟨⟨rs, u, a, rfl, _, _, ou, _⟩, b5⟩
      obtain ⟨AR, cR, rfl⟩ := own_form ou
      clear ou
      have B5 : Hid (Below w.heap.size w w5) := Lib.hid (B4.out.trans (b5.mono B4.out.size))
      have HK3 : Hid (∀ W, Below w.heap.size w W → Calls Tryz.prog 8 #[errV s 3] W fun e w' => e = .returned (.int .i64 3) ∧ Below W.heap.size W w') := Lib.hid fun W hW => kind_errV s 3 W (hs.below hW (Nat.le_refl _)) (by omega)
      have HBA : Hid (∀ o, Below w.heap.size w (w5.alloc o)) := Lib.hid fun o => B5.out.alloc B5.out.size o
      clear b5 HRS
      go_wp2_with fail
      refine (HK3.out _ (HBA.out _)).mono ?_
      rintro e w6 ⟨rfl, b6⟩
      have B6 : Hid (Below w.heap.size w w6) := Lib.hid ((HBA.out _).trans (b6.mono (HBA.out _).size))
      clear b6
      go_wp2_with fail
      go_ret
      exact ⟨rfl, B6.out⟩
  have hNi : ¬ (1073741824 : Int) < (N : Int) := by omega
  obtain ⟨rs0, hf0⟩ := follows_exists (rowsD D0 (2 * z) m) N (by omega)
  have hop := lives_open s w p g cap D0 z m N nx 0 T0 rs0 (z : Int) w3 hs B3.out HD3.out hgw rfl hz0 hz1 (by have := HM.out; omega) (by have := HM.out; omega) hD0o hD0f HTS.out (by omega) (by omega) (by have := HM.out; omega) hf0
  have HOP := Lib.hid hop; have HF0 := Lib.hid hf0
  clear hop hf0
  go_wp2_with fail
  refine (HOP.out).mono ?_
  rintro e w4 ⟨us, q, v4, d4, rfl, hl4, hc4, hq4, hv4, hn4, hout4, hb4⟩
  have oa4 := hc4.own HOA.out (fun k hk hS => by
    have h1 : ga = k := Option.some.inj hk
    rcases hS with h | h <;> omega)
  have hrs := rst_c ga ca z N nx (rowsD D0 0 n) T0 w4 (own_rows oa4) hz0 hz1 (by omega) (by omega) (by omega) (by omega) HSEL.out
  rw [hFl] at hrs
  have HRS := Lib.hid hrs; have HL4 := Lib.hid hl4; have HO4 := Lib.hid hout4; have HB4 := Lib.hid hb4; have HOA4 := Lib.hid oa4
  have hgal := (oa4.lt ga rfl).2
  clear hrs hl4 hc4 hv4 hout4 hb4 oa4 HOP HOA HALL HD3 HSEL
  go_wp2_with fail
  refine (HRS.out).mono ?_
  rintro e w5 ⟨⟨rs, u5, a, rfl, ha, hfo, ou, hne⟩, b5⟩
  rw [rows_rest D0 (by omega), show n - 2 * z = m by have := HM.out; omega] at hfo
  obtain rfl := follows_uniq hfo HF0.out
  obtain ⟨AR, cR, rfl⟩ := own_form ou
  obtain ⟨U, hU⟩ : ∃ U, (layR N rs).length = U := ⟨_, rfl⟩
  have hUm : U ≤ m := by rw [← hU]; exact HL4.out.mem.log.room
  have HU := Lib.hid hU
  obtain ⟨gR, rfl⟩ : ∃ gR, AR = some ⟨gR, 0, none⟩ := by
    rcases ou.2 with ⟨h1, _⟩ | ⟨gr, _, _, h1, _⟩
    · exact absurd h1 hne
    · simp only [Value.slice.injEq] at h1; exact ⟨gr, h1.1⟩
  obtain ⟨W5, hW5⟩ : ∃ W5, w5.alloc (.cells #[.string (bst T0), .int .i64 (N : Int), .int .i64 a, .slice (some ⟨gR, 0, none⟩) rs.length cR, .int .i64 (U : Int)] 34) = W5 := ⟨_, rfl⟩
  have b55 : Below w5.heap.size w5 W5 := by rw [← hW5]; exact (Below.refl _ _).alloc (Nat.le_refl _) _
  have hu5 : UAt W5 w5.heap.size N gR rs.length cR U a (bst T0) := by rw [← hW5]; exact heap_alloc_new w5 _
  have b45 : Below w4.heap.size w4 W5 := b5.trans (b55.mono b5.size)
  have oa5 := own_same HOA4.out fun k hk => b45.block k (HOA4.out.lt k hk).2
  have him := rimg_c ga ca z U (rowsD D0 0 n) (bst T0) (N : Int) a (some ⟨gR, 0, none⟩) rs.length cR W5 (own_rows oa5) hz1 (by have := HM.out; omega) (by omega) (by omega) (by omega)
  rw [hFl] at him
  have HIM := Lib.hid him
  have HL5 := Lib.hid (HL4.out.below b45 (Nat.le_refl _))
  have HB5 : Hid (Below w.heap.size w W5) := Lib.hid (HB4.out.trans (b45.mono HB4.out.size))
  have hsu5 : SureS W5 w.heap.size us q p g (.slice (some ⟨gR, 0, none⟩) rs.length cR) v4 rs := SureS.below ⟨own_mono ou HB4.out.size, hne, fun k hk hS => by have h1 := (ou.lt k hk).1; have h2 := (HL4.out.mem.lts k hS).2; omega⟩ b55 (Nat.le_refl _)
  have HSU := Lib.hid hsu5
  obtain ⟨gu, hgu⟩ : ∃ gu, w5.heap.size = gu := ⟨_, rfl⟩
  have hgu4 : w4.heap.size ≤ gu := by rw [← hgu]; exact b5.size
  rw [hgu] at hu5
  have hap5 : ¬ StoS us q p g v4 gu := fun hS => by have h2 := (HL4.out.mem.lts _ hS).2; omega
  have HUA := Lib.hid hu5
  have hlo : w.heap.size ≤ gu := by have := HB4.out.size; omega
  have HW5 := Lib.hid hW5
  have HGU := Lib.hid hgu
  rw [hU]
  clear him oa5 ou hne b5 b45 b55 hfo hU hsu5 HRS HL4 HB4 HOA4 hW5 hu5 hgu
  go_wp2_with fail
  rw [HW5.out, HGU.out]
  refine (HIM.out).mono ?_
  rintro e w6 ⟨⟨lv, rfl, ol, hnl⟩, b6⟩
  rw [← HU.out, ← rows_open (d := D0) (e := d4) HL5.out.at_ HF0.out HM.out HO4.out] at ol
  have HL6 := Lib.hid (HL5.out.below b6 (Nat.le_refl _))
  have HB6 : Hid (Below w.heap.size w w6) := Lib.hid (HB5.out.trans (b6.mono HB5.out.size))
  have HSR := Lib.hid (HSU.out.below b6 (Nat.le_refl _))
  have HU6 := Lib.hid (HUA.out.below b6 (Nat.le_refl _))
  have hsl6 : SureS w6 w.heap.size us q p g lv v4 (rowsD d4 0 n) := ⟨by rw [rowsD_len]; exact own_mono ol HB5.out.size, hnl, fun k hk hS => by have h1 := (ol.lt k hk).1; have h2 := (HL5.out.mem.lts k hS).2; omega⟩
  obtain ⟨gl, cl, hle, hcl, _, _⟩ := hsl6.addr
  rw [rowsD_len] at hcl hle
  subst hle
  have hst : SxRel w us q p g cap z m n gu zs.length (.slice (some ⟨gl, 0, none⟩) n cl) (.int .i64 0) w6 :=
    ⟨0, N, nx, U, cl, gl, gR, cR, a, bst T0, rs, v4, d4, rfl, Nat.zero_le _, rfl, hcl, ha, HU.out, by omega, by rw [bst_size]; exact hnb.2.2.2.2, hsl6, HSR.out, HL6.out.le (by have := HM.out; omega), by omega, HU6.out, hap5, hlo, HB6.out⟩
  have HST := Lib.hid hst
  clear hst ol hnl b6 hsl6 HL5 HB5 HL6 HB6 HSR HSU HIM HO4 HTS HU6 HUA
  go_wp2_with fail
  go_loopw [8, 12] (fun lv i wr => SxRel w us q p g cap z m n gu zs.length lv i wr) (fun _ i _ => zs.length + 1 - (intOf i).toNat)
  case atStart => exact HST.out
  case round =>
    obtain ⟨j, N, nx, U, cl, gl, gR, cR, a, T1, rs, v, d, rfl, hj, rfl, hcl, h⟩ := hrel
    clear HST
    have jle : (j : Int) ≤ (zs.length : Int) := by omega
    have hrm : rs.length ≤ 30 := by have h1 := layR_ge N rs; have h2 := h.live.mem.log.room; have := HM.out; omega
    have hN30 := h.numb
    have hT1 := h.size
    obtain ⟨K, hK⟩ : ∃ K, 5000 + 5000 * j = K := ⟨_, rfl⟩
    rw [hK] at h
    have HK := Lib.hid hK
    have h0 := h
    have H0 := Lib.hid h
    clear h hK
    go_upto_region 19 with fail
    go_cut [122] (fun cc wx => cc = .bool false ∧ SxSt w us q p g cap z m n K gu N nx U cl gl gR cR a T1 rs v d wx)
    case first => as_aux_lemma =>
      obtain ⟨JJ, hJJ⟩ : ∃ JJ, bst (rowsD d 0 n).flatten = JJ := ⟨_, rfl⟩
      obtain ⟨NX, hNX⟩ : ∃ NX : Int, ((N + rs.length : Nat) : Int) = NX := ⟨_, rfl⟩
      have hnx : (NX != (N : Int) + (rs.length : Int)) = false := by rw [bne_eq_false_iff_eq]; omega
      have hwN : IntKind.i64.wrap ((N : Int) + (rs.length : Int)) = (N : Int) + (rs.length : Int) := IntWalk.i64_in _ (by omega)
      have C1 := Lib.hid fun (W : World) (h : SxSt w us q p g cap z m n K gu N nx U cl gl gR cR a T1 rs v d W) => h.state_c
      have C2 := Lib.hid fun (W : World) (h : SxSt w us q p g cap z m n K gu N nx U cl gl gR cR a T1 rs v d W) => h.srecs_c
      have C3 := Lib.hid fun (W : World) (x : Value) (h : SxSt w us q p g cap z m n K gu N nx U cl gl gR cR a T1 rs v d W) (hr : Reads W x rs) => h.same_c hr hrm
      have C4 := Lib.hid fun (W : World) (h : SxSt w us q p g cap z m n K gu N nx U cl gl gR cR a T1 rs v d W) => h.seq_c hNX
      have C5 := Lib.hid fun (W : World) (h : SxSt w us q p g cap z m n K gu N nx U cl gl gR cR a T1 rs v d W) => h.image_c hJJ
      have C6 := Lib.hid fun (W : World) (h : SxSt w us q p g cap z m n K gu N nx U cl gl gR cR a T1 rs v d W) => h.joined_c hJJ hn30
      have HSS : Hid (∀ W : World, SxSt w us q p g cap z m n K gu N nx U cl gl gR cR a T1 rs v d W → W.cell? ⟨gu, 0, none⟩ = some (.string T1) ∧ W.cell? ⟨gu, 1, none⟩ = some (.int .i64 (N : Int)) ∧ W.cell? ⟨gu, 3, none⟩ = some (.slice (some ⟨gR, 0, none⟩) rs.length cR)) := Lib.hid fun W h => h.cells
      clear hJJ hNX H0
      go_region_held3 (fun W => W.cell? ⟨gu, 0, none⟩ = some (.string T1) ∧ W.cell? ⟨gu, 1, none⟩ = some (.int .i64 (N : Int)) ∧ W.cell? ⟨gu, 3, none⟩ = some (.slice (some ⟨gR, 0, none⟩) rs.length cR))
        ((refine HSS.out _ ?_; (repeat' (first | (with_reducible assumption) | (with_reducible exact Hid.out (by with_reducible assumption)) | (with_reducible refine SxSt.drewN ?_ _) | (with_reducible refine SxSt.drew ?_))); done))
        (first
          | (go_at_call 11; (with_reducible refine (C1.out _ (by (repeat' (first | (with_reducible assumption) | (with_reducible exact Hid.out (by with_reducible assumption)) | (with_reducible refine SxSt.drewN ?_ _) | (with_reducible refine SxSt.drew ?_))))).mono ?_); rintro e w5 ⟨rfl, k5⟩)
          | (go_at_call 13; (with_reducible refine (C2.out _ (by (repeat' (first | (with_reducible assumption) | (with_reducible exact Hid.out (by with_reducible assumption)) | (with_reducible refine SxSt.drewN ?_ _) | (with_reducible refine SxSt.drew ?_))))).mono ?_); rintro e w6 ⟨⟨x6, rfl, r6⟩, k6⟩)
          | (go_at_call 12; (with_reducible refine (C3.out _ x6 (by (repeat' (first | (with_reducible assumption) | (with_reducible exact Hid.out (by with_reducible assumption)) | (with_reducible refine SxSt.drewN ?_ _) | (with_reducible refine SxSt.drew ?_)))) (by exact r6)).mono ?_); rintro e w7 ⟨rfl, k7⟩)
          | (go_at_call 14; (with_reducible refine (C4.out _ (by (repeat' (first | (with_reducible assumption) | (with_reducible exact Hid.out (by with_reducible assumption)) | (with_reducible refine SxSt.drewN ?_ _) | (with_reducible refine SxSt.drew ?_))))).mono ?_); rintro e w8 ⟨rfl, k8⟩)
          | (go_at_call 15; (with_reducible refine (C5.out _ (by (repeat' (first | (with_reducible assumption) | (with_reducible exact Hid.out (by with_reducible assumption)) | (with_reducible refine SxSt.drewN ?_ _) | (with_reducible refine SxSt.drew ?_))))).mono ?_); rintro e w9 ⟨rfl, k9⟩)
          | (go_at_call 16; (with_reducible refine (C6.out _ (by (repeat' (first | (with_reducible assumption) | (with_reducible exact Hid.out (by with_reducible assumption)) | (with_reducible refine SxSt.drewN ?_ _) | (with_reducible refine SxSt.drew ?_))))).mono ?_); rintro e w10 ⟨rfl, k10⟩))
      all_goals go_wp2_with fail
      all_goals go_meet
      all_goals exact ⟨rfl, by (repeat' (first | (with_reducible assumption) | (with_reducible exact Hid.out (by with_reducible assumption)) | (with_reducible refine SxSt.drewN ?_ _) | (with_reducible refine SxSt.drew ?_)))⟩
    case rest =>
    obtain ⟨rfl, hsx⟩ := hcut
    have H1 := Lib.hid hsx
    clear hsx H0 h0
    by_cases hjl : j < zs.length
    case neg => as_aux_lemma =>
      have hje : j = zs.length := by omega
      have HB := Lib.hid H1.out.has
      clear H1
      subst hje
      go_wp2_with fail
      have HO := Lib.hid (snil_open s 1 wc (hs.below HB.out (Nat.le_refl _)))
      refine (HO.out).mono ?_
      rintro e w20 ⟨rfl, h20a⟩
      have B20 : Hid (Below w.heap.size w w20) := Lib.hid (HB.out.trans (h20a.below _))
      clear h20a HB HO
      go_wp2_with fail
      refine (kind_errV s 2 _ (hs.below B20.out (Nat.le_refl _)) (by omega)).mono ?_
      rintro e w21 ⟨rfl, b21⟩
      have B21 : Hid (Below w.heap.size w w21) := Lib.hid (B20.out.trans (b21.mono B20.out.size))
      clear b21 B20
      go_wp2_with fail
      refine (snil_add s _ _ (hs.below B21.out (Nat.le_refl _))).mono ?_
      rintro e w22 ⟨rfl, rfl⟩
      go_wp2_with fail
      refine (kind_errV s 2 _ (hs.below B21.out (Nat.le_refl _)) (by omega)).mono ?_
      rintro e w22 ⟨rfl, b22⟩
      have B22 : Hid (Below w.heap.size w w22) := Lib.hid (B21.out.trans (b22.mono B21.out.size))
      clear b22 B21
      go_wp2_with fail
      refine (snil_keep s _ _ (hs.below B22.out (Nat.le_refl _))).mono ?_
      rintro e w23 ⟨rfl, rfl⟩
      go_wp2_with fail
      refine (kind_errV s 2 _ (hs.below B22.out (Nat.le_refl _)) (by omega)).mono ?_
      rintro e w23 ⟨rfl, b23⟩
      have B23 : Hid (Below w.heap.size w w23) := Lib.hid (B22.out.trans (b23.mono B22.out.size))
      clear b23 B22
      go_wp2_with fail
      refine (snil_state _).mono ?_
      rintro e w24 ⟨rfl, rfl⟩
      go_wp2_with fail
      refine (snil_records _).mono ?_
      rintro e w24 ⟨rfl, rfl⟩
      go_wp2_with fail
      refine (snil_seq _).mono ?_
      rintro e w24 ⟨rfl, rfl⟩
      go_wp2_with fail
      go_ret
      exact ⟨rfl, B23.out⟩
    obtain ⟨zz, hzz⟩ : ∃ zz, zs[j]? = some zz := ⟨_, List.getElem?_eq_getElem hjl⟩
    have HCZ : Hid (∀ W, Below w.heap.size w W → ∃ aZ, A = some aZ ∧ W.cell? (aZ.add j) = some (.string zz)) := Lib.hid fun W hW => by
      obtain ⟨aZ, e, _, h⟩ := (HA.out.below hW (Nat.le_refl _)).cell hzz
      exact ⟨aZ, e, h⟩
    obtain ⟨aZ, rfl, caZ⟩ := HCZ.out wc H1.out.has
    have j0 : (0 : Int) ≤ (j : Int) := by omega
    have j1 : (j : Int) < (zs.length : Int) := by omega
    have j2 : ¬ j = zs.length := by omega
    by_cases hz7 : 7000 < zz.size
    · have hz7i : (7000 : Int) < (zz.size : Int) := by omega
      have HB := Lib.hid H1.out.has
      clear H1
      go_wp2_with fail
      go_ret
      exact ⟨rfl, HB.out⟩
    have hz7i : ¬ (7000 : Int) < (zz.size : Int) := by omega
    go_upto_region 25 with fail
    go_cut [141] (fun cc wx => ∃ pl : Bool, cc = .bool pl ∧ (pl = true → 0 < zz.size) ∧ wc = wx)
    case first => as_aux_lemma =>
      by_cases hp0 : 0 < zz.size
      · cases hpl : (((zz[0].toNat : Nat) : Int) == 43) with
        | true =>
          go_wp2_with fail
          go_meet
          exact ⟨true, rfl, fun _ => hp0, rfl⟩
        | false =>
          go_wp2_with fail
          go_meet
          exact ⟨false, rfl, fun _ => hp0, rfl⟩
      · go_wp2_with fail
        go_meet
        exact ⟨false, rfl, (fun h => by cases h), rfl⟩
    case rest =>
    obtain ⟨pl, rfl, hpl, rfl⟩ := hcut
    clear caZ
    cases pl with
    | true =>
      obtain ⟨X, hXe⟩ : ∃ X, zz.extract 1 zz.size = X := ⟨_, rfl⟩
      have hX1 : X.size ≤ 7000 := by rw [← hXe, ByteArray.size_extract]; omega
      have hp1 : (1 : Int) ≤ (zz.size : Int) := by have := hpl rfl; omega
      obtain ⟨k0, hk0⟩ : ∃ k0, nblk X.size = k0 := ⟨_, rfl⟩
      have HSZ : Hid (∀ W, Calls Tryz.prog 18 #[.string X] W fun e w' => e = .returned (.int .i64 (k0 : Nat)) ∧ W = w') := Lib.hid fun W => by
        have h := rsize_c X W (by omega)
        rw [hk0] at h; exact h
      have HK0 := Lib.hid hk0
      have hz14 : z ≤ 14 := by omega
      clear hk0
      by_cases hbad : z < k0 ∨ 1073741824 < N + rs.length + 1
      · as_aux_lemma =>
          have hkb := skeep_bad s w.heap.size us q p g cap d z m N nx T1 X v rs wc (hs.below H1.out.has (Nat.le_refl _)) H1.out.live.mem hX1 (by rw [HK0.out]; exact hbad)
          have HKB := Lib.hid hkb
          have HBAD := Lib.hid hbad
          clear hkb hbad
          go_wp2_with fail
          refine (HKB.out).mono ?_
          rintro e x1 ⟨rfl, b1⟩
          have H2 := Lib.hid (H1.out.below b1)
          obtain ⟨u0, u1, u2, u3, u4⟩ := H2.out.blk.cells
          have HK1 := Lib.hid (kind_errV s 1 x1 (hs.below H2.out.has (Nat.le_refl _)) (by omega))
          clear b1 HKB H1
          by_cases hzk : z < k0
          · have hzi : (z : Int) < (k0 : Int) := by omega
            go_wp2_with fail
            refine (HSZ.out _).mono ?_
            rintro e x2 ⟨rfl, rfl⟩
            go_wp2_with fail
            refine (HK1.out).mono ?_
            rintro e x3 ⟨rfl, b3⟩
            have H3 := Lib.hid (H2.out.below b3)
            clear b3 H2 u0 u1 u2 u3 u4
            go_wp2_with fail
            have HNX : Hid (SxRel w us q p g cap z m n gu zs.length (.slice (some ⟨gl, 0, none⟩) n cl) (.int .i64 ((j : Int) + 1)) x3) := Lib.hid ⟨j + 1, N, nx, U, cl, gl, gR, cR, a, T1, rs, v, d, ret_v (by omega), hjl, rfl, hcl, H3.out.le (by have := HK.out; omega)⟩
            clear H3
            go_roundw
            case rel => exact HNX.out
            case measure => simp [intOf]; omega
          · have hzi : ¬ (z : Int) < (k0 : Int) := by omega
            have hni : 1073741824 ≤ (N : Int) + (rs.length : Int) := by have := HBAD.out; omega
            go_wp2_with fail
            refine (HSZ.out _).mono ?_
            rintro e x2 ⟨rfl, rfl⟩
            go_wp2_with fail
            refine (HK1.out).mono ?_
            rintro e x3 ⟨rfl, b3⟩
            have H3 := Lib.hid (H2.out.below b3)
            clear b3 H2 u0 u1 u2 u3 u4
            go_wp2_with fail
            have HNX : Hid (SxRel w us q p g cap z m n gu zs.length (.slice (some ⟨gl, 0, none⟩) n cl) (.int .i64 ((j : Int) + 1)) x3) := Lib.hid ⟨j + 1, N, nx, U, cl, gl, gR, cR, a, T1, rs, v, d, ret_v (by omega), hjl, rfl, hcl, H3.out.le (by have := HK.out; omega)⟩
            clear H3
            go_roundw
            case rel => exact HNX.out
            case measure => simp [intOf]; omega
      · as_aux_lemma =>
          have hX6 : X.size ≤ 6000 := by have := HK0.out; unfold nblk at this; omega
          have hzi : ¬ (z : Int) < (k0 : Int) := by omega
          have hni : decide ((1073741824 : Int) ≤ (N : Int) + (rs.length : Int)) = false := decide_eq_false (by omega)
          have hkb := lives_keep s w us q p g cap z m N nx K T1 X v rs d wc hs H1.out.has H1.out.live hX6 (by rw [HK0.out]; omega) (by omega) (by have := HK.out; have := HM.out; omega)
          have HKB := Lib.hid hkb
          have HNB : Hid (N + rs.length + 1 ≤ 1073741824) := Lib.hid (by omega)
          clear hkb hbad
          go_wp2_with fail
          refine (HKB.out).mono ?_
          rintro e x1 ⟨rfl, d1, hl1, hc1, hn1, hrow1, hold1, hb1⟩
          have hnone : ∀ k, (Value.slice none 0 0).ownBlock = some k → v.ownBlock = some k ∨ wc.heap.size ≤ k := fun k hk => by cases hk
          have hr1 := H1.out.row.after hc1 hnone
          have hu1 := H1.out.blk.kept hc1 H1.out.apart
          obtain ⟨u0, u1, u2, u3, u4⟩ := hu1.cells
          have hsides := H1.out.live.sel.facts.1
          have hgR := H1.out.recs.own.lt gR rfl
          obtain ⟨Bs, hBs⟩ : ∃ Bs, framesF (N + rs.length + 1) X.data.toList = Bs := ⟨_, rfl⟩
          have hBl : Bs.length = k0 := by rw [← hBs, framesF_len, size_len, HK0.out]
          rw [hBs, HK0.out, ← hBl] at hrow1
          have hkeep := rows_keep (d := d) (n := n) H1.out.live.zpos hsides hl1.at_ HM.out hrow1 (by omega) hold1
          have HRK : Hid (∀ W, Below x1.heap.size x1 W → Calls Tryz.prog 19 #[.agg #[.string T1, .int .i64 (N : Int), .int .i64 a, .slice (some ⟨gR, 0, none⟩) rs.length cR, .int .i64 (U : Int)], .slice (some ⟨gl, 0, none⟩) n cl, .int .i64 (z : Int), .string X] W fun e w' =>
              (∃ y, e = .returned y ∧ w'.ownsRow x1.heap.size 9 1 y n (strVs (rowsD d1 0 n)) ∧ y ≠ .slice none 0 0) ∧ Below W.heap.size W w') := Lib.hid fun W hW => by
            have h := rkeep_c (some ⟨gl, 0, none⟩) cl z nx k0 (rowsD d 0 n) Bs T1 X N a (some ⟨gR, 0, none⟩) rs.length cR U W (own_rows (by simpa only [rowsD_len] using (hr1.below hW (Nat.le_refl _)).own)) H1.out.live.zpos hz1 (by rw [rowsD_len]; omega) (by rw [rowsD_len]; exact hcl) H1.out.side hsides hX6 (by omega) hBs hBl
            rw [rowsD_len, hkeep] at h
            exact h.mono fun _ _ ⟨⟨y, k1, k2, k3⟩, k4⟩ => ⟨⟨y, k1, own_mono k2 hW.size, k3⟩, k4⟩
          have HSS : Hid (∀ W : World, Below x1.heap.size x1 W → W.cell? ⟨gu, 0, none⟩ = some (.string T1) ∧ W.cell? ⟨gu, 1, none⟩ = some (.int .i64 (N : Int)) ∧ W.cell? ⟨gu, 2, none⟩ = some (.int .i64 a) ∧ W.cell? ⟨gu, 3, none⟩ = some (.slice (some ⟨gR, 0, none⟩) rs.length cR) ∧ W.cell? ⟨gu, 4, none⟩ = some (.int .i64 (U : Int))) := Lib.hid fun W hW => (hu1.below hW (Nat.le_refl _)).cells
          have hap1 : ¬ StoS us q p g (.slice none 0 0) gu := fun hS => by
            rcases hS with h0 | h2 | h2 | h2 | h2
            · exact H1.out.apart (.inl h0)
            · exact H1.out.apart (.inr (.inl h2))
            · exact H1.out.apart (.inr (.inr (.inl h2)))
            · exact H1.out.apart (.inr (.inr (.inr (.inl h2))))
            · cases h2
          have HLV1 := Lib.hid hl1; have HU1 := Lib.hid hu1; have HB1 := Lib.hid hb1
          have HGU1 := Lib.hid hu1.lt
          have HD1N : Hid (d1.n = n) := Lib.hid (hn1.trans H1.out.cnt)
          have HAP1 := Lib.hid hap1
          have HX6 := Lib.hid hX6
          clear hap1 hX6
          clear hl1 hc1 hn1 hrow1 hold1 hb1 hnone hr1 hu1 hBs hBl hkeep hsides hgR HKB H1
          go_wp2_with fail
          refine (HSZ.out _).mono ?_
          rintro e x2 ⟨rfl, rfl⟩
          go_wp2_with fail
          clear u0 u1 u2 u3 u4
          go_cut [8] (fun lv wx => ∃ gl' cl', lv = .slice (some ⟨gl', 0, none⟩) n cl' ∧ n ≤ cl' ∧ x1.heap.size ≤ gl' ∧ wx.ownsRow x1.heap.size 9 1 (.slice (some ⟨gl', 0, none⟩) n cl') n (strVs (rowsD d1 0 n)) ∧ Below x1.heap.size x1 wx)
          case first => as_aux_lemma =>
            go_region_held3 (fun W => W.cell? ⟨gu, 0, none⟩ = some (.string T1) ∧ W.cell? ⟨gu, 1, none⟩ = some (.int .i64 (N : Int)) ∧ W.cell? ⟨gu, 2, none⟩ = some (.int .i64 a) ∧ W.cell? ⟨gu, 3, none⟩ = some (.slice (some ⟨gR, 0, none⟩) rs.length cR) ∧ W.cell? ⟨gu, 4, none⟩ = some (.int .i64 (U : Int)))
              ((refine HSS.out _ ?_; (repeat' (first | (with_reducible exact Below.refl _ _) | (with_reducible refine below_drewN ?_ _) | (with_reducible refine Below.drew ?_) | (with_reducible refine Below.alloc ?_ ?_ _) | (with_reducible refine Below.setCell ?_ ?_ _) | (with_reducible refine Below.trans ?_ (Below.mono (by with_reducible assumption) ?_)) | omega | (simp only [World.size_drew] at *; omega) | (with_reducible refine Below.size (B := 0) ?_))); done))
              ((go_at_call 19; (with_reducible refine (HRK.out _ (by (repeat' (first | (with_reducible exact Below.refl _ _) | (with_reducible refine below_drewN ?_ _) | (with_reducible refine Below.drew ?_) | (with_reducible refine Below.alloc ?_ ?_ _) | (with_reducible refine Below.setCell ?_ ?_ _) | (with_reducible refine Below.trans ?_ (Below.mono (by with_reducible assumption) ?_)) | omega | (simp only [World.size_alloc, World.size_setCell, World.size_drew, Go.Proofs.YtaibmdjcppeopaaGreatDoor.World.size_drewN] at *; omega) | (with_reducible refine Below.size (B := 0) ?_))))).mono ?_); rintro e w5 ⟨⟨y5, rfl, o5, n5⟩, b5⟩))
            all_goals go_wp2_with fail
            all_goals go_meet
            all_goals (
              obtain ⟨gl', cl', hle, hcl', hge⟩ : ∃ gl' cl', y5 = .slice (some ⟨gl', 0, none⟩) n cl' ∧ n ≤ cl' ∧ x1.heap.size ≤ gl' := by
                rcases o5.2 with ⟨h1, _⟩ | ⟨g1, c1, _, h1, h2, _, h3, _⟩
                · exact absurd h1 n5
                · exact ⟨g1, c1, h1, by simpa using h3, h2⟩
              subst hle
              exact ⟨gl', cl', rfl, hcl', hge, o5, by (repeat' (first | (with_reducible exact Below.refl _ _) | (with_reducible refine below_drewN ?_ _) | (with_reducible refine Below.drew ?_) | (with_reducible refine Below.alloc ?_ ?_ _) | (with_reducible refine Below.setCell ?_ ?_ _) | (with_reducible refine Below.trans ?_ (Below.mono (by with_reducible assumption) ?_)) | omega | (simp only [World.size_drew] at *; omega) | (with_reducible refine Below.size (B := 0) ?_)))⟩)
          case rest =>
          obtain ⟨gl', cl', rfl, hcl', hge, ol, bx⟩ := hcut
          have HLV := Lib.hid (HLV1.out.below bx (Nat.le_refl _))
          have HUT := Lib.hid (HU1.out.below bx (Nat.le_refl _))
          have HBT : Hid (Below w.heap.size w wc) := Lib.hid (HB1.out.trans (bx.mono HB1.out.size))
          have HROW : Hid (SureS wc w.heap.size us q p g (.slice (some ⟨gl', 0, none⟩) n cl') (.slice none 0 0) (rowsD d1 0 n)) := Lib.hid ⟨by rw [rowsD_len]; exact own_mono ol HB1.out.size, by simp, fun k hk hS => by have h1 : gl' = k := Option.some.inj hk; have h2 := (HLV1.out.mem.lts k hS).2; omega⟩
          have hglu : gl' ≠ gu := by have := HGU1.out; omega
          clear ol bx HLV1 HU1 HB1 HSS HRK
          obtain ⟨N', hN'⟩ : ∃ N', N + rs.length + 1 = N' := ⟨_, rfl⟩
          rw [hN'] at HLV
          obtain ⟨nx', hnx'⟩ : ∃ nx', z - nx = nx' := ⟨_, rfl⟩
          rw [hnx'] at HLV
          have hN1 : N' ≤ 1073741824 := by rw [← hN']; exact HNB.out
          have hrs := rst_c gl' cl' z N' nx' (rowsD d1 0 n) X.data.toList wc (own_rows (by simpa only [rowsD_len] using HROW.out.own)) hz0 hz1 (by rw [rowsD_len]; omega) (by rw [rowsD_len]; omega) (by rw [rowsD_len]; exact hcl') (by omega) (sel_rows HLV.out.sel (by omega))
          rw [rowsD_len, ← bst_of] at hrs
          have HRS := Lib.hid hrs
          have HN' := Lib.hid hN'; have HNX' := Lib.hid hnx'
          clear hrs hN' hnx'
          go_wp2_with fail
          refine (HRS.out).mono ?_
          rintro e y2 ⟨⟨rs2, u2, a2, rfl, ha2, hfo, ou, hne⟩, b2⟩
          rw [rows_rest d1 (by omega), show n - 2 * z = m by have := HM.out; omega] at hfo
          have he2 := follows_uniq hfo HLV.out.at_.follows
          rw [← he2] at HLV
          obtain ⟨AR2, cR2, rfl⟩ := own_form ou
          obtain ⟨gR2, rfl⟩ : ∃ gR2, AR2 = some ⟨gR2, 0, none⟩ := by
            rcases ou.2 with ⟨h1, _⟩ | ⟨gr, _, _, h1, _⟩
            · exact absurd h1 hne
            · simp only [Value.slice.injEq] at h1; exact ⟨gr, h1.1⟩
          obtain ⟨U2, hU2⟩ : ∃ U2, (layR N' rs2).length = U2 := ⟨_, rfl⟩
          rw [hU2]
          have hlv2 := HLV.out.below b2 (Nat.le_refl _)
          have hro2 := HROW.out.below b2 (Nat.le_refl _)
          have hu2 := HUT.out.below b2 (Nat.le_refl _)
          have hbt2 : Below w.heap.size w y2 := HBT.out.trans (b2.mono HBT.out.size)
          have hre2 : SureS y2 w.heap.size us q p g (.slice (some ⟨gR2, 0, none⟩) rs2.length cR2) (.slice none 0 0) rs2 := ⟨own_mono ou HBT.out.size, hne, fun k hk hS => by have h1 := (ou.lt k hk).1; have h2 := (HLV.out.mem.lts k hS).2; omega⟩
          have hgR2 : gR2 ≠ gu := by have h1 := (ou.lt gR2 rfl).1; have h2 := HUT.out.lt; omega
          have hcnt : (d1).n = n := HD1N.out
          have HF : Hid (∀ v0 v1 v2 v3 v4, v0 = .string X → v1 = .int .i64 (N' : Int) → v2 = .int .i64 a2 → v3 = .slice (some ⟨gR2, 0, none⟩) rs2.length cR2 → v4 = .int .i64 (U2 : Int) →
              SxRel w us q p g cap z m n gu zs.length (.slice (some ⟨gl', 0, none⟩) n cl') (.int .i64 ((j : Int) + 1)) (((((y2.setCell ⟨gu, 0, none⟩ v0).setCell ⟨gu, 1, none⟩ v1).setCell ⟨gu, 2, none⟩ v2).setCell ⟨gu, 3, none⟩ v3).setCell ⟨gu, 4, none⟩ v4)) := Lib.hid fun v0 v1 v2 v3 v4 h0 h1 h2 h3 h4 => by
            obtain ⟨k1, k2⟩ := hu2.renew h0 h1 h2 h3 h4
            exact ⟨j + 1, N', nx', U2, cl', gl', gR2, cR2, a2, X, rs2, (.slice none 0 0), d1, ret_v (by omega), hjl, rfl, hcl', ha2, hU2, hN1, HX6.out, hro2.put k2 (fun h => hglu (Option.some.inj h)), hre2.put k2 (fun h => hgR2 (Option.some.inj h)), (hlv2.kept k2 fun k hk he => HAP1.out (he ▸ hk)).le (by have := HK.out; have := HM.out; omega), hcnt, k1, HAP1.out, hlo, hbt2.trans (k2.below (fun k hk => by rw [hk]; exact hlo) hbt2.size)⟩
          obtain ⟨u0, u1, u2, u3, u4⟩ := hu2.cells
          have fz0 := frozen_of_heap hu2 0
          have fz1 := frozen_of_heap hu2 1
          have fz2 := frozen_of_heap hu2 2
          have fz3 := frozen_of_heap hu2 3
          have fz4 := frozen_of_heap hu2 4
          clear hlv2 hro2 hu2 hbt2 hre2 hcnt hU2 he2 hfo ou hne b2 ha2 HLV HROW HUT HRS
          go_wp2_with fail
          go_roundw
          case rel => exact HF.out _ _ _ _ _ rfl rfl rfl rfl rfl
          case measure => simp [intOf]; omega
    | false =>
      clear hpl
      obtain ⟨k0, hk0⟩ : ∃ k0, nblk zz.size = k0 := ⟨_, rfl⟩
      have HSZ : Hid (∀ W, Calls Tryz.prog 18 #[.string zz] W fun e w' => e = .returned (.int .i64 (k0 : Nat)) ∧ W = w') := Lib.hid fun W => by
        have h := rsize_c zz W (by omega)
        rw [hk0] at h; exact h
      have HK0 := Lib.hid hk0
      have hUm2 : U ≤ m := by rw [← H1.out.used]; exact H1.out.live.mem.log.room
      have hU30 : U ≤ 30 := by have := HM.out; omega
      clear hk0
      by_cases h6 : 6000 < zz.size
      · as_aux_lemma =>
          have hkb := sadd_long s w.heap.size us q p g cap d z m N nx T1 zz v rs false false wc (hs.below H1.out.has (Nat.le_refl _)) H1.out.live.mem (by omega) h6
          have HKB := Lib.hid hkb
          clear hkb
          go_wp2_with fail
          refine (HKB.out).mono ?_
          rintro e x1 ⟨rfl, b1⟩
          have H2 := Lib.hid (H1.out.below b1)
          obtain ⟨u0, u1, u2, u3, u4⟩ := H2.out.blk.cells
          have HK1 := Lib.hid (kind_errV s 1 x1 (hs.below H2.out.has (Nat.le_refl _)) (by omega))
          clear b1 HKB H1
          have h6i : (6000 : Int) < (zz.size : Int) := by omega
          go_wp2_with fail
          refine (HSZ.out _).mono ?_
          rintro e x2 ⟨rfl, rfl⟩
          go_wp2_with fail
          refine (HK1.out).mono ?_
          rintro e x3 ⟨rfl, b3⟩
          have H3 := Lib.hid (H2.out.below b3)
          clear b3 H2 u0 u1 u2 u3 u4
          go_wp2_with fail
          have HNX : Hid (SxRel w us q p g cap z m n gu zs.length (.slice (some ⟨gl, 0, none⟩) n cl) (.int .i64 ((j : Int) + 1)) x3) := Lib.hid ⟨j + 1, N, nx, U, cl, gl, gR, cR, a, T1, rs, v, d, ret_v (by omega), hjl, rfl, hcl, H3.out.le (by have := HK.out; omega)⟩
          clear H3
          go_roundw
          case rel => exact HNX.out
          case measure => simp [intOf]; omega
      have h6i : ¬ (6000 : Int) < (zz.size : Int) := by omega
      by_cases hfull : m - U < k0
      · as_aux_lemma =>
          have hkb := sadd_full s w.heap.size us q p g cap d z m N nx T1 zz v rs false false wc (hs.below H1.out.has (Nat.le_refl _)) H1.out.live.mem (by omega) (.inl (by rw [HK0.out, H1.out.used]; exact hfull))
          have HKB := Lib.hid hkb
          clear hkb
          go_wp2_with fail
          refine (HKB.out).mono ?_
          rintro e x1 ⟨rfl, b1⟩
          have H2 := Lib.hid (H1.out.below b1)
          obtain ⟨u0, u1, u2, u3, u4⟩ := H2.out.blk.cells
          have HK1 := Lib.hid (kind_errV s 7 x1 (hs.below H2.out.has (Nat.le_refl _)) (by omega))
          clear b1 HKB H1
          have hfi : (n : Int) - 2 * (z : Int) - (U : Int) < (k0 : Int) := by have := HM.out; omega
          go_wp2_with fail
          refine (HSZ.out _).mono ?_
          rintro e x2 ⟨rfl, rfl⟩
          go_wp2_with fail
          refine (HK1.out).mono ?_
          rintro e x3 ⟨rfl, b3⟩
          have H3 := Lib.hid (H2.out.below b3)
          clear b3 H2 u0 u1 u2 u3 u4
          go_wp2_with fail
          have HNX : Hid (SxRel w us q p g cap z m n gu zs.length (.slice (some ⟨gl, 0, none⟩) n cl) (.int .i64 ((j : Int) + 1)) x3) := Lib.hid ⟨j + 1, N, nx, U, cl, gl, gR, cR, a, T1, rs, v, d, ret_v (by omega), hjl, rfl, hcl, H3.out.le (by have := HK.out; omega)⟩
          clear H3
          go_roundw
          case rel => exact HNX.out
          case measure => simp [intOf]; omega
      by_cases hnum : 1073741824 ≤ N + rs.length + 1
      · as_aux_lemma =>
          have hkb := sadd_full s w.heap.size us q p g cap d z m N nx T1 zz v rs false false wc (hs.below H1.out.has (Nat.le_refl _)) H1.out.live.mem (by omega) (.inr hnum)
          have HKB := Lib.hid hkb
          clear hkb
          go_wp2_with fail
          refine (HKB.out).mono ?_
          rintro e x1 ⟨rfl, b1⟩
          have H2 := Lib.hid (H1.out.below b1)
          obtain ⟨u0, u1, u2, u3, u4⟩ := H2.out.blk.cells
          have HK1 := Lib.hid (kind_errV s 7 x1 (hs.below H2.out.has (Nat.le_refl _)) (by omega))
          clear b1 HKB H1
          have hfi : decide ((n : Int) - 2 * (z : Int) - (U : Int) < (k0 : Int)) = false := decide_eq_false (by have := HM.out; omega)
          have hni : (1073741824 : Int) ≤ (N : Int) + (rs.length : Int) + 1 := by omega
          go_wp2_with fail
          refine (HSZ.out _).mono ?_
          rintro e x2 ⟨rfl, rfl⟩
          go_wp2_with fail
          refine (HK1.out).mono ?_
          rintro e x3 ⟨rfl, b3⟩
          have H3 := Lib.hid (H2.out.below b3)
          clear b3 H2 u0 u1 u2 u3 u4
          go_wp2_with fail
          have HNX : Hid (SxRel w us q p g cap z m n gu zs.length (.slice (some ⟨gl, 0, none⟩) n cl) (.int .i64 ((j : Int) + 1)) x3) := Lib.hid ⟨j + 1, N, nx, U, cl, gl, gR, cR, a, T1, rs, v, d, ret_v (by omega), hjl, rfl, hcl, H3.out.le (by have := HK.out; omega)⟩
          clear H3
          go_roundw
          case rel => exact HNX.out
          case measure => simp [intOf]; omega
      as_aux_lemma =>
        have hfi : decide ((n : Int) - 2 * (z : Int) - (U : Int) < (k0 : Int)) = false := decide_eq_false (by have := HM.out; omega)
        have hni : decide ((1073741824 : Int) ≤ (N : Int) + (rs.length : Int) + 1) = false := decide_eq_false (by omega)
        have HZ6 : Hid (zz.size ≤ 6000) := Lib.hid (by omega)
        have hk1 : 1 ≤ k0 := by rw [← HK0.out]; exact (nblk_bd (by omega)).1
        have hadd := lives_add s w us q p g cap z m N nx K T1 zz v rs d wc hs H1.out.has H1.out.live (by omega) (by rw [HK0.out, H1.out.used]; omega) (by omega) (by have := HK.out; omega)
        have HKB := Lib.hid hadd
        have HNB : Hid (N + rs.length + 1 < 1073741824) := Lib.hid (by omega)
        have hroom : k0 ≤ m - U := by omega
        clear hadd
        go_wp2_with fail
        refine (HKB.out).mono ?_
        rintro e x1 ⟨rfl, vA, d1, hl1, hc1, hv3, hn1, hout1, hb1⟩
        have hr1 := H1.out.row.after hc1 hv3
        have hu1 := H1.out.blk.kept hc1 H1.out.apart
        have hgu0 := H1.out.blk.lt
        have hap1 : ¬ StoS us q p g vA gu := fun hS => by
          rcases hS with h0 | h2 | h2 | h2 | h2
          · exact H1.out.apart (.inl h0)
          · exact H1.out.apart (.inr (.inl h2))
          · exact H1.out.apart (.inr (.inr (.inl h2)))
          · exact H1.out.apart (.inr (.inr (.inr (.inl h2))))
          · rcases hv3 gu h2 with h3 | h3
            · exact H1.out.apart (.inr (.inr (.inr (.inr h3))))
            · omega
        obtain ⟨u0, u1, u2, u3, u4⟩ := hu1.cells
        obtain ⟨F, hF⟩ : ∃ F, rowsD d 0 n = F := ⟨_, rfl⟩
        rw [hF] at hr1
        have hFlen : F.length = n := by rw [← hF, rowsD_len]
        obtain ⟨FF, hFF⟩ : ∃ FF, framesF (N + rs.length + 1) zz.data.toList = FF := ⟨_, rfl⟩
        have hFFl : FF.length = k0 := by rw [← hFF, framesF_len, size_len, HK0.out]
        have hrows := rows_add (n := n) H1.out.live.at_ hl1.at_ HM.out hout1 hF H1.out.used hFF hFFl
        obtain ⟨V, hV⟩ : ∃ V : Nat, 2 * z + U = V := ⟨_, rfl⟩
        obtain ⟨V2, hV2⟩ : ∃ V2 : Nat, V + k0 = V2 := ⟨_, rfl⟩
        rw [hV, hV2] at hrows
        have hVi : 2 * (z : Int) + (U : Int) = (V : Int) := by omega
        have hV2i : (V : Int) + (k0 : Int) = (V2 : Int) := by omega
        have hV2n : V2 ≤ n := by have := HM.out; omega
        have hVcl : (V : Int) ≤ (cl : Int) := by omega
        have hV2ni : (V2 : Int) ≤ (n : Int) := by omega
        have HLV1 := Lib.hid hl1; have HU1 := Lib.hid hu1; have HB1 := Lib.hid hb1; have HR1 := Lib.hid hr1; have HAP1 := Lib.hid hap1; have HROWS := Lib.hid hrows
        have HGU1 := Lib.hid hu1.lt
        have HD1N : Hid (d1.n = n) := Lib.hid (hn1.trans H1.out.cnt)
        have HFL := Lib.hid hFlen; have HFFL := Lib.hid hFFl; have HFF := Lib.hid hFF; have HV := Lib.hid hV; have HV2 := Lib.hid hV2
        clear hl1 hc1 hv3 hn1 hout1 hb1 hr1 hu1 hgu0 hap1 hF hFlen hFF hFFl hrows hV hV2 HKB H1
        go_wp2_with fail
        refine (HSZ.out _).mono ?_
        rintro e x2 ⟨rfl, rfl⟩
        go_wp2_with fail
        refine (rblocks_okx _ (N + rs.length + 1) zz _ (by omega) (by omega) (by have := HNB.out; omega) HZ6.out).mono ?_
        rintro e x4 ⟨⟨vb, bas, rfl, ob⟩, b4⟩
        rw [HK0.out, HFF.out] at ob
        obtain ⟨Ab, cb, rfl⟩ := own_form ob
        obtain ⟨gb, rfl⟩ : ∃ gb, Ab = some ⟨gb, 0, none⟩ := by
          rcases ob.2 with ⟨_, h2⟩ | ⟨gr, _, _, h1, _⟩
          · omega
          · simp only [Value.slice.injEq] at h1; exact ⟨gr, h1.1⟩
        have hob := ob
        have hgbl := (ob.lt gb rfl).2
        have HLV4 := Lib.hid (HLV1.out.below b4 (Nat.le_refl _)); have HU4 := Lib.hid (HU1.out.below b4 (Nat.le_refl _)); have HR4 := Lib.hid (HR1.out.below b4 (Nat.le_refl _))
        have HB4 : Hid (Below w.heap.size w x4) := Lib.hid (HB1.out.trans (b4.mono HB1.out.size))
        have HG4 : Hid (gu < x4.heap.size) := Lib.hid (Nat.lt_of_lt_of_le HGU1.out b4.size)
        have hgl4 := (HR4.out.own.lt gl rfl).2
        have v4' := HU4.out.cells.2.2.2.2
        have v4a : (x4.alloc (.cells #[] 9)).cell? ⟨gu, 4, none⟩ = some (.int .i64 (U : Int)) := (World.cell?_of_block (a := ⟨gu, 4, none⟩) (Below.heap_alloc x4 _ gu HG4.out)).trans v4'
        clear v4'
        have HOB := Lib.hid hob
        have hnews : ∀ i xx, (strVs (F.take V))[i]? = some xx → (x4.alloc (.cells #[] 9)).cell? ((⟨gl, 0, none⟩ : Addr).add i) = some xx := fun i xx hx => by
          have hiV : i < V := by have := (List.getElem?_eq_some_iff.1 hx).1; rw [strVs_len, List.length_take] at this; omega
          rw [strVs_get, List.getElem?_take_of_lt hiV, ← strVs_get] at hx
          have h1 := HR4.out.own.cells (g := gl) rfl i xx hx
          exact (World.cell?_of_block (a := (⟨gl, 0, none⟩ : Addr).add i) (by rw [block_addS]; exact Below.heap_alloc x4 _ gl hgl4)).trans h1
        have HNW := Lib.hid hnews
        have hmade : (x4.alloc (.cells #[] 9)).ownsRow x4.heap.size 9 1 (.slice (some ⟨x4.heap.size, 0, none⟩) 0 0) 0 [] := World.ownsRow_made x4 #[] 0 (Nat.le_refl _) (by unfold maxLen; omega) rfl
        have HMD := Lib.hid hmade
        have hV30 : V ≤ 30 := by omega
        have hcl0 : (0 : Int) ≤ (V : Int) := by omega
        obtain ⟨ti, hti, hz0', hz1', hz2'⟩ := Tryz.infoSt
        clear hnews hmade ob hob b4 u0 u1 u2 u3 u4 HLV1 HU1 HR1 HB1 HSZ
        go_wp2_with (at_builtin; refine wpList_append_own_at _ rfl _ _ 22 rfl x4.heap.size 9 ti _ 1 16 Tryz.underlying22 hti hz0' hz1' hz2' rfl (by decide) _ 0 [] rfl HMD.out ⟨gl, 0, none⟩ V cl (strVs (F.take V)) rfl ?a0 ?a1 ?a2 ?a3 ?a4 ?a5 ?_)
        case a0 => rw [strVs_len, List.length_take, HFL.out, Nat.mul_one]; omega
        case a1 => exact HNW.out
        case a2 => exact strVs_one _
        case a3 => unfold maxLen; omega
        case a4 => omega
        case a5 => first | omega | (rw [World.size_alloc]; omega)
        intro u8 w8 o8 g8 hnil8 _
        have b48 : Below x4.heap.size x4 w8 := ((Below.refl _ x4).alloc (Nat.le_refl _) _).grown g8 (by rw [World.size_alloc]; omega) (fun k hk => by simp [Value.ownBlock] at hk; omega)
        have o8' : w8.ownsRow x4.heap.size 9 1 u8 V (strVs (F.take V)) := by simpa using o8
        obtain ⟨Am, cm, rfl⟩ := own_form o8'
        obtain ⟨gm, rfl⟩ : ∃ gm, Am = some ⟨gm, 0, none⟩ := by
          rcases o8'.2 with ⟨_, h2⟩ | ⟨gr, _, _, h1, _⟩
          · omega
          · simp only [Value.slice.injEq] at h1; exact ⟨gr, h1.1⟩
        have HO8 := Lib.hid o8'
        have hs48 := b48.size
        have B48 := Lib.hid b48
        have hcb8 := (own_same HOB.out fun k hk => b48.block k (HOB.out.lt k hk).2).cells (g := gb) rfl
        have HCB8 := Lib.hid hcb8
        clear hnil8 g8 o8 o8' b48 hcb8 HMD HNW HOB v4a
        go_wp2_with (at_builtin; refine wpList_append_own_at _ rfl _ _ 22 rfl x4.heap.size 9 ti _ 1 16 Tryz.underlying22 hti hz0' hz1' hz2' rfl (by decide) _ V (strVs (F.take V)) rfl HO8.out ⟨gb, 0, none⟩ k0 cb (strVs FF) rfl ?e0 ?e1 ?e2 ?e3 ?e4 ?e5 ?_)
        case e0 => rw [strVs_len, Nat.mul_one]; exact HFFL.out
        case e1 => exact HCB8.out
        case e2 => exact strVs_one _
        case e3 => unfold maxLen; omega
        case e4 => omega
        case e5 => exact hs48
        intro u9 w9 o9 g9 hn9 _
        have hgm := (HO8.out.lt gm rfl).1
        have b49 : Below x4.heap.size x4 w9 := B48.out.grown g9 hs48 (fun k hk => by have h1 : gm = k := Option.some.inj hk; omega)
        rw [HV2.out] at o9
        obtain ⟨A9, c9, rfl⟩ := own_form o9
        obtain ⟨g9b, rfl⟩ : ∃ gm, A9 = some ⟨gm, 0, none⟩ := by
          rcases o9.2 with ⟨_, h2⟩ | ⟨gr, _, _, h1, _⟩
          · omega
          · simp only [Value.slice.injEq] at h1; exact ⟨gr, h1.1⟩
        have hgm9 := (o9.lt g9b rfl).1
        have HO9 := Lib.hid o9
        have B49 := Lib.hid b49
        have hs49 := b49.size
        have v4b := (HU4.out.below b49 (Nat.le_refl _)).cells.2.2.2.2
        have hr9 := (HR4.out.below b49 (Nat.le_refl _)).own.cells (g := gl) rfl
        have HR9 := Lib.hid hr9
        have hV2cl : (V2 : Int) ≤ (cl : Int) := by omega
        have hV20 : (0 : Int) ≤ (V2 : Int) := by omega
        clear o9 g9 hn9 b49 hr9 B48 HO8 HCB8
        by_cases hct : cl = V2
        · have hV2n2 : n = V2 := by omega
          have hdr : F.drop V2 = [] := List.drop_eq_nil_of_le (by rw [HFL.out]; omega)
          have HCX : Hid (∀ i xx, (strVs (F.drop V2))[i]? = some xx → w9.cell? ((⟨gl, 0, none⟩ : Addr).add i) = some xx) := Lib.hid fun i xx hx => by rw [hdr] at hx; cases hx
          have HN2 := Lib.hid hV2n2
          clear hV2n2 hdr
          go_wp2_with (at_builtin; refine wpList_append_own_at _ rfl _ _ 22 rfl x4.heap.size 9 ti _ 1 16 Tryz.underlying22 hti hz0' hz1' hz2' rfl (by decide) _ V2 (strVs (F.take V) ++ strVs FF) rfl HO9.out ⟨gl, 0, none⟩ _ _ (strVs (F.drop V2)) rfl ?f0 ?f1 ?f2 ?f3 ?f4 ?f5 ?_)
          case f0 => rw [strVs_len, List.length_drop, HFL.out, Nat.mul_one]
          case f1 => exact HCX.out
          case f2 => exact strVs_one _
          case f3 => unfold maxLen; omega
          case f4 => omega
          case f5 => exact hs49
          intro u10 w10 o10 g10 hn10 _
          have b410 : Below x4.heap.size x4 w10 := B49.out.grown g10 hs49 (fun k hk => by have h1 : g9b = k := Option.some.inj hk; omega)
          have o10' : w10.ownsRow x4.heap.size 9 1 u10 n (strVs (rowsD d1 0 n)) := by
            rw [← HROWS.out]
            unfold strVs at o10 ⊢
            rw [List.map_append, List.map_append, List.append_assoc]
            exact o10
          obtain ⟨A10, cl', rfl⟩ := own_form o10'
          obtain ⟨gl', hA10, hcl', hge⟩ : ∃ g1, A10 = some ⟨g1, 0, none⟩ ∧ n ≤ cl' ∧ x4.heap.size ≤ g1 := by
            rcases o10'.2 with ⟨_, h1⟩ | ⟨g1, c1, _, h1, h2, _, h3, _⟩
            · omega
            · simp only [Value.slice.injEq] at h1
              exact ⟨g1, h1.1, by rw [h1.2.2]; simpa using h3, h2⟩
          subst hA10
          have HLV := Lib.hid (HLV4.out.below b410 (Nat.le_refl _))
          have HUT := Lib.hid (HU4.out.below b410 (Nat.le_refl _))
          have HBT : Hid (Below w.heap.size w w10) := Lib.hid (HB4.out.trans (b410.mono HB4.out.size))
          have HROW : Hid (SureS w10 w.heap.size us q p g (.slice (some ⟨gl', 0, none⟩) n cl') vA (rowsD d1 0 n)) := Lib.hid ⟨by rw [rowsD_len]; exact own_mono o10' HB4.out.size, by simp, fun k hk hS => by have h1 : gl' = k := Option.some.inj hk; have h2 := (HLV4.out.mem.lts k hS).2; omega⟩
          have hglu : gl' ≠ gu := by have := HG4.out; omega
          clear o10 o10' g10 hn10 b410 HLV4 HU4 HB4 HR4 HO9 HCX B49 v4b hV2cl hVcl hV2ni hVi hV2i
          obtain ⟨N', hN'⟩ : ∃ N', N = N' := ⟨_, rfl⟩
          rw [hN'] at HLV
          obtain ⟨nx', hnx'⟩ : ∃ nx', nx = nx' := ⟨_, rfl⟩
          rw [hnx'] at HLV
          have hN1 : N' ≤ 1073741824 := by rw [← hN']; exact hN30
          have hrs := rst_c gl' cl' z N' nx' (rowsD d1 0 n) T1.data.toList w10 (own_rows (by simpa only [rowsD_len] using HROW.out.own)) hz0 hz1 (by rw [rowsD_len]; omega) (by rw [rowsD_len]; omega) (by rw [rowsD_len]; exact hcl') (by omega) (sel_rows HLV.out.sel (by omega))
          rw [rowsD_len, ← bst_of] at hrs
          have HRS := Lib.hid hrs
          have HN' := Lib.hid hN'; have HNX' := Lib.hid hnx'
          clear hrs hN' hnx'
          go_wp2_with fail
          refine (HRS.out).mono ?_
          rintro e y2 ⟨⟨rs2, u2, a2, rfl, ha2, hfo, ou, hne⟩, b2⟩
          rw [rows_rest d1 (by omega), show n - 2 * z = m by have := HM.out; omega] at hfo
          have he2 := follows_uniq hfo HLV.out.at_.follows
          rw [← he2] at HLV
          obtain ⟨AR2, cR2, rfl⟩ := own_form ou
          obtain ⟨gR2, rfl⟩ : ∃ gR2, AR2 = some ⟨gR2, 0, none⟩ := by
            rcases ou.2 with ⟨h1, _⟩ | ⟨gr, _, _, h1, _⟩
            · exact absurd h1 hne
            · simp only [Value.slice.injEq] at h1; exact ⟨gr, h1.1⟩
          obtain ⟨U2, hU2⟩ : ∃ U2, (layR N' rs2).length = U2 := ⟨_, rfl⟩
          rw [hU2]
          have hlv2 := HLV.out.below b2 (Nat.le_refl _)
          have hro2 := HROW.out.below b2 (Nat.le_refl _)
          have hu2 := HUT.out.below b2 (Nat.le_refl _)
          have hbt2 : Below w.heap.size w y2 := HBT.out.trans (b2.mono HBT.out.size)
          have hre2 : SureS y2 w.heap.size us q p g (.slice (some ⟨gR2, 0, none⟩) rs2.length cR2) vA rs2 := ⟨own_mono ou HBT.out.size, hne, fun k hk hS => by have h1 := (ou.lt k hk).1; have h2 := (HLV.out.mem.lts k hS).2; omega⟩
          have hgR2 : gR2 ≠ gu := by have h1 := (ou.lt gR2 rfl).1; have h2 := HUT.out.lt; omega
          have hcnt : (d1).n = n := HD1N.out
          have HF : Hid (∀ v0 v1 v2 v3 v4, v0 = .string T1 → v1 = .int .i64 (N' : Int) → v2 = .int .i64 a2 → v3 = .slice (some ⟨gR2, 0, none⟩) rs2.length cR2 → v4 = .int .i64 (U2 : Int) →
              SxRel w us q p g cap z m n gu zs.length (.slice (some ⟨gl', 0, none⟩) n cl') (.int .i64 ((j : Int) + 1)) (((((y2.setCell ⟨gu, 0, none⟩ v0).setCell ⟨gu, 1, none⟩ v1).setCell ⟨gu, 2, none⟩ v2).setCell ⟨gu, 3, none⟩ v3).setCell ⟨gu, 4, none⟩ v4)) := Lib.hid fun v0 v1 v2 v3 v4 h0 h1 h2 h3 h4 => by
            obtain ⟨k1, k2⟩ := hu2.renew h0 h1 h2 h3 h4
            exact ⟨j + 1, N', nx', U2, cl', gl', gR2, cR2, a2, T1, rs2, vA, d1, ret_v (by omega), hjl, rfl, hcl', ha2, hU2, hN1, hT1, hro2.put k2 (fun h => hglu (Option.some.inj h)), hre2.put k2 (fun h => hgR2 (Option.some.inj h)), (hlv2.kept k2 fun k hk he => HAP1.out (he ▸ hk)).le (by have := HK.out; have := HM.out; omega), hcnt, k1, HAP1.out, hlo, hbt2.trans (k2.below (fun k hk => by rw [hk]; exact hlo) hbt2.size)⟩
          obtain ⟨u0, u1, u2, u3, u4⟩ := hu2.cells
          have fz0 := frozen_of_heap hu2 0
          have fz1 := frozen_of_heap hu2 1
          have fz2 := frozen_of_heap hu2 2
          have fz3 := frozen_of_heap hu2 3
          have fz4 := frozen_of_heap hu2 4
          clear hlv2 hro2 hu2 hbt2 hre2 hcnt hU2 he2 hfo ou hne b2 ha2 HLV HROW HUT HRS
          go_wp2_with fail
          go_roundw
          case rel => exact HF.out _ _ _ _ _ rfl rfl rfl rfl rfl
          case measure => simp [intOf]; omega
        · have HCX : Hid (∀ i xx, (strVs (F.drop V2))[i]? = some xx → w9.cell? ((⟨gl, V2, none⟩ : Addr).add i) = some xx) := Lib.hid fun i xx hx => by
            rw [strVs_get, List.getElem?_drop, ← strVs_get] at hx
            have h1 := HR9.out _ xx hx
            rw [addr_add] at h1 ⊢
            rw [Nat.zero_add] at h1
            exact h1
          go_wp2_with (at_builtin; refine wpList_append_own_at _ rfl _ _ 22 rfl x4.heap.size 9 ti _ 1 16 Tryz.underlying22 hti hz0' hz1' hz2' rfl (by decide) _ V2 (strVs (F.take V) ++ strVs FF) rfl HO9.out ⟨gl, V2, none⟩ _ _ (strVs (F.drop V2)) rfl ?h0 ?h1 ?h2 ?h3 ?h4 ?h5 ?_)
          case h0 => rw [strVs_len, List.length_drop, HFL.out, Nat.mul_one]
          case h1 => exact HCX.out
          case h2 => exact strVs_one _
          case h3 => unfold maxLen; omega
          case h4 => omega
          case h5 => exact hs49
          intro u10 w10 o10 g10 hn10 _
          have b410 : Below x4.heap.size x4 w10 := B49.out.grown g10 hs49 (fun k hk => by have h1 : g9b = k := Option.some.inj hk; omega)
          have o10' : w10.ownsRow x4.heap.size 9 1 u10 n (strVs (rowsD d1 0 n)) := by
            rw [← HROWS.out]
            unfold strVs at o10 ⊢
            rw [List.map_append, List.map_append, List.append_assoc]
            exact o10
          obtain ⟨A10, cl', rfl⟩ := own_form o10'
          obtain ⟨gl', hA10, hcl', hge⟩ : ∃ g1, A10 = some ⟨g1, 0, none⟩ ∧ n ≤ cl' ∧ x4.heap.size ≤ g1 := by
            rcases o10'.2 with ⟨_, h1⟩ | ⟨g1, c1, _, h1, h2, _, h3, _⟩
            · omega
            · simp only [Value.slice.injEq] at h1
              exact ⟨g1, h1.1, by rw [h1.2.2]; simpa using h3, h2⟩
          subst hA10
          have HLV := Lib.hid (HLV4.out.below b410 (Nat.le_refl _))
          have HUT := Lib.hid (HU4.out.below b410 (Nat.le_refl _))
          have HBT : Hid (Below w.heap.size w w10) := Lib.hid (HB4.out.trans (b410.mono HB4.out.size))
          have HROW : Hid (SureS w10 w.heap.size us q p g (.slice (some ⟨gl', 0, none⟩) n cl') vA (rowsD d1 0 n)) := Lib.hid ⟨by rw [rowsD_len]; exact own_mono o10' HB4.out.size, by simp, fun k hk hS => by have h1 : gl' = k := Option.some.inj hk; have h2 := (HLV4.out.mem.lts k hS).2; omega⟩
          have hglu : gl' ≠ gu := by have := HG4.out; omega
          clear o10 o10' g10 hn10 b410 HLV4 HU4 HB4 HR4 HO9 HCX B49 v4b hV2cl hVcl hV2ni hVi hV2i
          obtain ⟨N', hN'⟩ : ∃ N', N = N' := ⟨_, rfl⟩
          rw [hN'] at HLV
          obtain ⟨nx', hnx'⟩ : ∃ nx', nx = nx' := ⟨_, rfl⟩
          rw [hnx'] at HLV
          have hN1 : N' ≤ 1073741824 := by rw [← hN']; exact hN30
          have hrs := rst_c gl' cl' z N' nx' (rowsD d1 0 n) T1.data.toList w10 (own_rows (by simpa only [rowsD_len] using HROW.out.own)) hz0 hz1 (by rw [rowsD_len]; omega) (by rw [rowsD_len]; omega) (by rw [rowsD_len]; exact hcl') (by omega) (sel_rows HLV.out.sel (by omega))
          rw [rowsD_len, ← bst_of] at hrs
          have HRS := Lib.hid hrs
          have HN' := Lib.hid hN'; have HNX' := Lib.hid hnx'
          clear hrs hN' hnx'
          go_wp2_with fail
          refine (HRS.out).mono ?_
          rintro e y2 ⟨⟨rs2, u2, a2, rfl, ha2, hfo, ou, hne⟩, b2⟩
          rw [rows_rest d1 (by omega), show n - 2 * z = m by have := HM.out; omega] at hfo
          have he2 := follows_uniq hfo HLV.out.at_.follows
          rw [← he2] at HLV
          obtain ⟨AR2, cR2, rfl⟩ := own_form ou
          obtain ⟨gR2, rfl⟩ : ∃ gR2, AR2 = some ⟨gR2, 0, none⟩ := by
            rcases ou.2 with ⟨h1, _⟩ | ⟨gr, _, _, h1, _⟩
            · exact absurd h1 hne
            · simp only [Value.slice.injEq] at h1; exact ⟨gr, h1.1⟩
          obtain ⟨U2, hU2⟩ : ∃ U2, (layR N' rs2).length = U2 := ⟨_, rfl⟩
          rw [hU2]
          have hlv2 := HLV.out.below b2 (Nat.le_refl _)
          have hro2 := HROW.out.below b2 (Nat.le_refl _)
          have hu2 := HUT.out.below b2 (Nat.le_refl _)
          have hbt2 : Below w.heap.size w y2 := HBT.out.trans (b2.mono HBT.out.size)
          have hre2 : SureS y2 w.heap.size us q p g (.slice (some ⟨gR2, 0, none⟩) rs2.length cR2) vA rs2 := ⟨own_mono ou HBT.out.size, hne, fun k hk hS => by have h1 := (ou.lt k hk).1; have h2 := (HLV.out.mem.lts k hS).2; omega⟩
          have hgR2 : gR2 ≠ gu := by have h1 := (ou.lt gR2 rfl).1; have h2 := HUT.out.lt; omega
          have hcnt : (d1).n = n := HD1N.out
          have HF : Hid (∀ v0 v1 v2 v3 v4, v0 = .string T1 → v1 = .int .i64 (N' : Int) → v2 = .int .i64 a2 → v3 = .slice (some ⟨gR2, 0, none⟩) rs2.length cR2 → v4 = .int .i64 (U2 : Int) →
              SxRel w us q p g cap z m n gu zs.length (.slice (some ⟨gl', 0, none⟩) n cl') (.int .i64 ((j : Int) + 1)) (((((y2.setCell ⟨gu, 0, none⟩ v0).setCell ⟨gu, 1, none⟩ v1).setCell ⟨gu, 2, none⟩ v2).setCell ⟨gu, 3, none⟩ v3).setCell ⟨gu, 4, none⟩ v4)) := Lib.hid fun v0 v1 v2 v3 v4 h0 h1 h2 h3 h4 => by
            obtain ⟨k1, k2⟩ := hu2.renew h0 h1 h2 h3 h4
            exact ⟨j + 1, N', nx', U2, cl', gl', gR2, cR2, a2, T1, rs2, vA, d1, ret_v (by omega), hjl, rfl, hcl', ha2, hU2, hN1, hT1, hro2.put k2 (fun h => hglu (Option.some.inj h)), hre2.put k2 (fun h => hgR2 (Option.some.inj h)), (hlv2.kept k2 fun k hk he => HAP1.out (he ▸ hk)).le (by have := HK.out; have := HM.out; omega), hcnt, k1, HAP1.out, hlo, hbt2.trans (k2.below (fun k hk => by rw [hk]; exact hlo) hbt2.size)⟩
          obtain ⟨u0, u1, u2, u3, u4⟩ := hu2.cells
          have fz0 := frozen_of_heap hu2 0
          have fz1 := frozen_of_heap hu2 1
          have fz2 := frozen_of_heap hu2 2
          have fz3 := frozen_of_heap hu2 3
          have fz4 := frozen_of_heap hu2 4
          clear hlv2 hro2 hu2 hbt2 hre2 hcnt hU2 he2 hfo ou hne b2 ha2 HLV HROW HUT HRS
          go_wp2_with fail
          go_roundw
          case rel => exact HF.out _ _ _ _ _ rfl rfl rfl rfl rfl
          case measure => simp [intOf]; omega
end Go.Proofs.YtaibmdjcppeopaaGreatDoor
