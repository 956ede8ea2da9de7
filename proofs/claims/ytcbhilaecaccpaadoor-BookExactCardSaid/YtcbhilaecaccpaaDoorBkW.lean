/- BookExact's two books side by side: the program's and the reference's, and the order of a deed. Conditions: the sentinels lie as the program's text lays them. -/
import Derived.Test.YtcbhilaecaccpaaDoorBkA
import Derived.Test.YtcbhilaecaccpaaDoorOdE
import Derived.Test.YtcbhilaecaccpaaDoorOdV
import Derived.Test.YtcbhilaecaccpaaDoorOdT
namespace Go.Proofs.YtcbhilaecaccpaaDoor
open Go Go.RowKit

theorem RBk.same {w w' : World} {q R : Nat} {b : RB} (h : RBk w q R b) (hs : ∀ k, k = q ∨ k = R → w'.heap[k]? = w.heap[k]?) : RBk w' q R b := by
  obtain ⟨v, h1, h2, h3⟩ := h
  exact ⟨v, (hs q (.inl rfl)).trans h1, h2.same fun k hk => hs k (.inr (by rw [hk] at h3; exact h3)), h3⟩
theorem BBk.kept {w w' : World} {q R p P : Nat} {b : RB} (h : BBk w q R b) (hc : Chg p P w w') (h1 : q ≠ p) (h2 : q ≠ P) (h3 : R ≠ p) (h4 : R ≠ P) : BBk w' q R b :=
  h.same fun k hk => by rcases hk with rfl | rfl; exact hc.block _ h.lt.1 h1 h2; exact hc.block _ h.lt.2.1 h3 h4
theorem RBk.kept {w w' : World} {q R p P : Nat} {b : RB} (h : RBk w q R b) (hc : Chg p P w w') (h1 : q ≠ p) (h2 : q ≠ P) (h3 : R ≠ p) (h4 : R ≠ P) : RBk w' q R b :=
  h.same fun k hk => by rcases hk with rfl | rfl; exact hc.block _ h.lt.1 h1 h2; exact hc.block _ h.lt.2.1 h3 h4

/-- The two books and the order of a deed, with their rows. -/
structure BxR (w0 w : World) (q R u U V : Nat) (x : Od) (b b' : RB) : Prop where
  bk : BkAt w0 w q R b
  rf : RBk w u U b'
  blk : BOdBlk w V x
  n1 : q ≠ u
  n2 : q ≠ U
  n3 : R ≠ u
  n4 : R ≠ U
  m1 : V ≠ q
  m2 : V ≠ R
  m3 : V ≠ u
  m4 : V ≠ U
  low : w0.heap.size ≤ u
theorem BxR.on {w0 w w' : World} {q R u U V : Nat} {x : Od} {b b' : RB} (hb : Below w.heap.size w w') (h : BxR w0 w q R u U V x b b') : BxR w0 w' q R u U V x b b' :=
  ⟨h.bk.on hb, h.rf.on hb, h.blk.on hb, h.n1, h.n2, h.n3, h.n4, h.m1, h.m2, h.m3, h.m4, h.low⟩
theorem BxR.own {w0 w w' : World} {q R R' u U V : Nat} {x : Od} {b b' b2 : RB} (h : BxR w0 w q R u U V x b b') (t : BBk w' q R' b2) (hc : Chg q R w w') (hR : R' = R ∨ w.heap.size ≤ R') : BxR w0 w' q R' u U V x b2 b' := by
  have h1 := h.rf.lt
  have h2 := lt_of_block h.blk
  refine ⟨h.bk.chg t hc, h.rf.kept hc h.n1.symm h.n3.symm h.n2.symm h.n4.symm, hc.row h.blk h.m1 h.m2, h.n1, h.n2, ?_, ?_, h.m1, ?_, h.m3, h.m4, h.low⟩ <;> rcases hR with rfl | hR
  · exact h.n3
  · omega
  · exact h.n4
  · omega
  · exact h.m2
  · omega
theorem BxR.ref {w0 w w' : World} {q R u U U' V : Nat} {x : Od} {b b' b2 : RB} (h : BxR w0 w q R u U V x b b') (t : RBk w' u U' b2) (hc : Chg u U w w') (hU : U' = U ∨ w.heap.size ≤ U') : BxR w0 w' q R u U' V x b b2 := by
  have h1 := h.bk.book.lt
  have h2 := lt_of_block h.blk
  refine ⟨⟨h.bk.book.kept hc h.n1 h.n2 h.n3 h.n4, h.bk.below.trans (hc.below h.low (Nat.le_trans h.low h.rf.lt.2.2) h.bk.below.size), h.bk.lowq⟩, t, hc.row h.blk h.m3 h.m4, h.n1, ?_, h.n3, ?_, h.m1, h.m2, h.m3, ?_, h.low⟩ <;> rcases hU with rfl | hU
  · exact h.n2
  · omega
  · exact h.n4
  · omega
  · exact h.m4
  · omega
def Bx (w0 w : World) (q u V : Nat) (x : Od) (b b' : RB) : Prop := ∃ R U, BxR w0 w q R u U V x b b'
section
variable {w0 w w' : World} {q u V : Nat} {x : Od} {b b' : RB}
theorem Bx.on (hb : Below w.heap.size w w') (h : Bx w0 w q u V x b b') : Bx w0 w' q u V x b b' := by obtain ⟨R, U, h⟩ := h; exact ⟨R, U, h.on hb⟩
theorem Bx.drew (h : Bx w0 w q u V x b b') : Bx w0 w.drew q u V x b b' := h.on ((Below.refl _ _).drew)
theorem Bx.drewN (h : Bx w0 w q u V x b b') (n : Nat) : Bx w0 (w.drewN n) q u V x b b' := h.on (below_drewN (Below.refl _ _) n)
theorem Bx.alloc (h : Bx w0 w q u V x b b') (o : Obj) : Bx w0 (w.alloc o) q u V x b b' := h.on ((Below.refl _ _).alloc (Nat.le_refl _) _)
theorem Bx.below (h : Bx w0 w q u V x b b') : Below w0.heap.size w0 w := by obtain ⟨R, U, h⟩ := h; exact h.bk.below
theorem Bx.sent {s : Nat → Addr} (h : Bx w0 w q u V x b b') (hs : Sent s w0) : Sent s w := hs.below h.below (Nat.le_refl _)
theorem Bx.blk (h : Bx w0 w q u V x b b') : BOdBlk w V x := by obtain ⟨R, U, h⟩ := h; exact h.blk
theorem Bx.add_c {s : Nat → Addr} (h : Bx w0 w q u V x b b') (hs : Sent s w0) (hG : GB b) (hc : b.came ≤ 1000) (o : Od) :
    Calls Tryd.prog 14 #[.pointer (some ⟨q, 0, none⟩), .agg #[.int .i64 o.id, .int .i64 o.tn, .bool o.sell, .int .i64 o.price, .int .i64 o.lots, .int .i64 o.seq]] w fun e w' => e = .returned (errV s (addR13 b o).2) ∧ Bx w0 w' q u V x (addR13 b o).1 b' := by
  obtain ⟨R, U, k⟩ := h
  exact (Go.Proofs.YtcbhilaecaccpaaDoor.add_c s q R b o w (hs.below k.bk.below (Nat.le_refl _)) k.bk.book (Nat.le_trans hG.len (by omega)) hc).mono fun _ _ ⟨he, ⟨R', hR, hl⟩, hC⟩ => ⟨he, R', U, k.own hR hC hl⟩
theorem Bx.cut_c {s : Nat → Addr} (h : Bx w0 w q u V x b b') (hs : Sent s w0) (hG : GB b) (id n : Int) :
    Calls Tryd.prog 12 #[.pointer (some ⟨q, 0, none⟩), .int .i64 id, .int .i64 n] w fun e w' => e = .returned (errV s (cutR13 b id n).2) ∧ Bx w0 w' q u V x (cutR13 b id n).1 b' := by
  obtain ⟨R, U, k⟩ := h
  exact (Go.Proofs.YtcbhilaecaccpaaDoor.cut_c s q R b id n w (hs.below k.bk.below (Nat.le_refl _)) k.bk.book (Nat.le_trans hG.len (by omega)) (fun z hz => (hG.lots z hz).2)).mono fun _ _ ⟨he, hR, hC⟩ => ⟨he, R, U, k.own hR hC (.inl rfl)⟩
theorem Bx.drop_c {s : Nat → Addr} (h : Bx w0 w q u V x b b') (hs : Sent s w0) (hG : GB b) (id : Int) :
    Calls Tryd.prog 8 #[.pointer (some ⟨q, 0, none⟩), .int .i64 id] w fun e w' => e = .returned (.tuple #[.agg #[.int .i64 ((dropR13 b id).2.1).id, .int .i64 ((dropR13 b id).2.1).tn, .bool ((dropR13 b id).2.1).sell, .int .i64 ((dropR13 b id).2.1).price, .int .i64 ((dropR13 b id).2.1).lots, .int .i64 ((dropR13 b id).2.1).seq], errV s (dropR13 b id).2.2]) ∧ Bx w0 w' q u V x (dropR13 b id).1 b' := by
  obtain ⟨R, U, k⟩ := h
  exact (Go.Proofs.YtcbhilaecaccpaaDoor.drop_c s q R b id w (hs.below k.bk.below (Nat.le_refl _)) k.bk.book (Nat.le_trans hG.len (by omega))).mono fun _ _ ⟨he, hR, hC⟩ => ⟨he, R, U, k.own hR hC (.inl rfl)⟩
theorem Bx.radd_c (h : Bx w0 w q u V x b b') (hG : GB b') (hc : b'.came ≤ 1000) (o : Od) :
    Calls Tryd.prog 15 #[.pointer (some ⟨u, 0, none⟩), .agg #[.int .i64 o.id, .int .i64 o.tn, .bool o.sell, .int .i64 o.price, .int .i64 o.lots, .int .i64 o.seq]] w fun e w' => e = .returned (.int .i64 ((addR13 b' o).2 : Nat)) ∧ Bx w0 w' q u V x b (addR13 b' o).1 := by
  obtain ⟨R, U, k⟩ := h
  exact (radd13_c u U b' o w k.rf (Nat.le_trans hG.len (by omega)) hc).mono fun _ _ ⟨he, ⟨U', hU, hl⟩, hC⟩ => ⟨he, R, U', k.ref hU hC hl⟩
theorem Bx.rcut_c (h : Bx w0 w q u V x b b') (hG : GB b') (id n : Int) :
    Calls Tryd.prog 13 #[.pointer (some ⟨u, 0, none⟩), .int .i64 id, .int .i64 n] w fun e w' => e = .returned (.int .i64 ((cutR13 b' id n).2 : Nat)) ∧ Bx w0 w' q u V x b (cutR13 b' id n).1 := by
  obtain ⟨R, U, k⟩ := h
  exact (rcut13_c u U b' id n w k.rf (Nat.le_trans hG.len (by omega)) (fun z hz => (hG.lots z hz).2)).mono fun _ _ ⟨he, ⟨U', hU, hl⟩, hC⟩ => ⟨he, R, U', k.ref hU hC hl⟩
theorem Bx.rdrop_c (h : Bx w0 w q u V x b b') (hG : GB b') (id : Int) :
    Calls Tryd.prog 9 #[.pointer (some ⟨u, 0, none⟩), .int .i64 id] w fun e w' => e = .returned (.tuple #[.agg #[.int .i64 ((dropR13 b' id).2.1).id, .int .i64 ((dropR13 b' id).2.1).tn, .bool ((dropR13 b' id).2.1).sell, .int .i64 ((dropR13 b' id).2.1).price, .int .i64 ((dropR13 b' id).2.1).lots, .int .i64 ((dropR13 b' id).2.1).seq], .int .i64 ((dropR13 b' id).2.2 : Nat)]) ∧ Bx w0 w' q u V x b (dropR13 b' id).1 := by
  obtain ⟨R, U, k⟩ := h
  exact (rdrop13_c u U b' id w k.rf (Nat.le_trans hG.len (by omega))).mono fun _ _ ⟨he, ⟨U', hU, hl⟩, hC⟩ => ⟨he, R, U', k.ref hU hC hl⟩
theorem Bx.kind_c {s : Nat → Addr} (h : Bx w0 w q u V x b b') (hs : Sent s w0) (k : Nat) (hk : k ≤ 14) :
    Calls Tryd.prog 11 #[errV s k] w fun e w' => e = .returned (.int .i64 (k : Nat)) ∧ Bx w0 w' q u V x b b' :=
  (kind_errV s k w (h.sent hs) hk).mono fun _ _ ⟨he, hb⟩ => ⟨he, h.on hb⟩
theorem Bx.form_c (h : Bx w0 w q u V x b b') (o : Od) :
    Calls Tryd.prog 10 #[.agg #[.int .i64 o.id, .int .i64 o.tn, .bool o.sell, .int .i64 o.price, .int .i64 o.lots, .int .i64 o.seq]] w fun e w' => e = .returned (.agg #[.int .i64 o.id, .int .i64 o.tn, .bool o.sell, .int .i64 o.price, .int .i64 o.lots, .int .i64 o.seq]) ∧ Bx w0 w' q u V x b b' :=
  (Go.Proofs.YtcbhilaecaccpaaDoor.form_c o w).mono fun _ _ ⟨he, hb⟩ => ⟨he, h.on hb⟩
end
theorem addR13_le (b : RB) (o : Od) : (addR13 b o).2 ≤ 14 := by unfold addR13; (repeat' split) <;> exact Nat.le_of_ble_eq_true rfl
theorem cutR13_le (b : RB) (id n : Int) : (cutR13 b id n).2 ≤ 14 := by unfold cutR13; (repeat' split) <;> exact Nat.le_of_ble_eq_true rfl
theorem dropR13_le (b : RB) (id : Int) : (dropR13 b id).2.2 ≤ 14 := by unfold dropR13; (repeat' split) <;> exact Nat.le_of_ble_eq_true rfl
end Go.Proofs.YtcbhilaecaccpaaDoor
