/- The walk of the law LogKeeps: whatever the arguments, it returns true. Condition: the sentinels lie as the program's text lays them. -/
import Derived.Test.YtmfchjbpbfkgiaaGreatDoorLgQ
import Derived.Test.YtmfchjbpbfkgiaaGreatDoorOpenL
import Derived.Deep.RegionHeld3
import Derived.Deep.DeepCutAuto
import Derived.Deep.CutBlock
namespace Go.Proofs.YtmfchjbpbfkgiaaGreatDoor
open Go Go.RowKit

/-- An append whose guard says yes. -/
theorem wpList_append_yes {ops : Array Oper} {rest : List Oper} {o : Oper} {a : Act} {w : World} {Q : Exit → Act → World → Prop} (hw : Region.wanted o (yielded ops a.tmps) = true) (s x : Operand) (t : TypeId)
    (ho : o.op = .call { callee := .builtin .append, args := #[s, x], argTypes := #[t, t] })
    (base : Nat) (e : TypeId) (i : TypeInfo) (z : Value) (size bytes : Nat) (ht : Tryz.prog.underlying t = some (.slice e)) (hi : Tryz.prog.info? e = some i) (hz : i.zero = some z)
    (hsize : i.size = size) (hby : i.bytes = bytes) (hzs : z.cells.size = size) (hsz : 0 < size)
    (v : Value) (n : Nat) (xs : List Value) (hs : a.eval s = v) (hown : w.ownsRow base e size v n xs)
    (ad : Addr) (m c : Nat) (news : List Value) (hx : a.eval x = .slice (some ad) m c) (hl : news.length = m * size) (hnews : ∀ j u, news[j]? = some u → w.cell? (ad.add j) = some u) (h1 : ∀ u ∈ news, u.oneCell' = true)
    (h63 : n + m ≤ maxLen) (hbytes : (n + m) * bytes ≤ 140737488355328) (hbase : base ≤ w.heap.size)
    (h : ∀ v' w', w'.ownsRow base e size v' (n + m) (xs ++ news) → w.grownBy w' v.ownBlock → (v' = .slice none 0 0 ↔ v = .slice none 0 0 ∧ m = 0) → (v'.ownBlock = v.ownBlock ∨ v'.ownBlock = some w.heap.size) → wpList Tryz.prog ops Q rest (a.put o.dst v') w') :
    wpList Tryz.prog ops Q (o :: rest) a w := by
  refine wpList_step fun K hK => ?_
  rw [if_pos hw]
  obtain ⟨v', w', hr, h2, h3, h4, h5⟩ := run_append_own_at (P := Tryz.prog) w base t o.type e i z size bytes ht hi hz hsize hby hzs hsz v n xs hown ad m c news hl hnews h1 h63 hbytes hbase
  unfold Oper.wp execOp
  simp only [ho, resolve, invoke, builtin, Sem.run_bind, Sem.run_pure, Result.andThen_ok, List.map_toArray, List.map_cons, List.map_nil, hs, hx, hr]
  exact hK _ _ (h v' w' h2 h3 h4 h5)

/-- The power goes at rest: nothing that the blocks hold has turned. -/
theorem rest_disk {d : DS} {a m b : Nat} {rs : List (List UInt8)} (h : LogAt d a m b rs) (hn0 : 0 < d.n) (ho : d.on = true) :
    (d.setFuse 0 0).write ((0 : Nat) : Int) zeroF = (14, (d.setFuse 0 0).torn1 ((0 : Nat) : Int) zeroF) ∧ LogAt ((d.setFuse 0 0).torn1 ((0 : Nat) : Int) zeroF).come a m b rs ∧ ((d.setFuse 0 0).torn1 ((0 : Nat) : Int) zeroF).come.on = true ∧ ((d.setFuse 0 0).torn1 ((0 : Nat) : Int) zeroF).come.fuse < 0 ∧
      ((d.setFuse 0 0).torn1 ((0 : Nat) : Int) zeroF).come.wr = d.wr ∧ ((d.setFuse 0 0).torn1 ((0 : Nat) : Int) zeroF).come.n = d.n ∧ (d.setFuse 0 0).wr = d.wr ∧ (d.setFuse 0 0).n = d.n := by
  have e1 : d.setFuse 0 0 = { d with fuse := 0, torn := 0 } := by unfold DS.setFuse; rw [if_pos ho]; rfl
  obtain ⟨D, hD⟩ : ∃ D, d.setFuse 0 0 = D := ⟨_, rfl⟩
  have hDn : D.n = d.n := by rw [← hD, e1]; rfl
  have hDo : D.on = true := by rw [← hD, e1]; exact ho
  have hDf : D.fuse = 0 := by rw [← hD, e1]
  have hDt : D.torn = 0 := by rw [← hD, e1]
  have hDb : ∀ j, D.blk j = d.blk j := fun j => by rw [← hD, e1]; rfl
  have hDw : D.wr = d.wr := by rw [← hD, e1]
  rw [hD]
  have hi : 0 < D.n := by rw [hDn]; exact hn0
  have hw := write_cut (d := D) (i := 0) (s := zeroF) hi rfl hDo hDf
  have hbl := torn_blk (d := D) (i := 0) (s := zeroF) hi rfl (by omega)
  have hTn := torn_n (d := D) (i := 0) (s := zeroF) hi rfl
  have hoff : (D.torn1 ((0 : Nat) : Int) zeroF).on = false := rfl
  have hc : (D.torn1 ((0 : Nat) : Int) zeroF).come = { D.torn1 ((0 : Nat) : Int) zeroF with on := true, fuse := -1 } := by unfold DS.come; rw [hoff]; rfl
  refine ⟨hw, ?_, by rw [hc], by rw [hc]; show (-1 : Int) < 0; omega, by rw [hc]; exact hDw, by rw [hc]; exact hTn.trans hDn, hDw, hDn⟩
  refine h.same (by rw [hc]; exact hTn.trans hDn) fun i _ => ?_
  rw [hc]
  show (D.torn1 ((0 : Nat) : Int) zeroF).blk (a + i) = _
  rw [hbl, hDt]
  by_cases h0 : a + i = 0
  · rw [if_pos h0, h0, hDb]; rfl
  · rw [if_neg h0, hDb]
theorem come_disk {E : DS} (ho : E.on = false) : E.come.on = true ∧ E.come.fuse < 0 ∧ E.come.wr = E.wr ∧ E.come.n = E.n ∧ ∀ a m, rowsD E.come a m = rowsD E a m := by
  have hc : E.come = { E with on := true, fuse := -1 } := by unfold DS.come; rw [ho]; rfl
  exact ⟨by rw [hc], by rw [hc]; show (-1 : Int) < 0; omega, by rw [hc], by rw [hc]; rfl, fun a m => by rw [hc]; rfl⟩

theorem log2_logS {q p g : Nat} {v : Value} {i : Nat} (h : i = p ∨ i = g) : LogS q p g v i := by
  rcases h with h | h
  · exact .inr (.inl h)
  · exact .inr (.inr (.inl h))
/-- The law's own row of what is sure: not nil, its cells its own. -/
structure SureAt (w : World) (B q p g : Nat) (u v : Value) (rs : List (List UInt8)) : Prop where
  own : w.ownsRow B 9 1 u rs.length (strVs rs)
  some_ : u ≠ .slice none 0 0
  apart : ∀ k, u.ownBlock = some k → ¬ LogS q p g v k
theorem SureAt.addr {w : World} {B q p g : Nat} {u v : Value} {rs : List (List UInt8)} (h : SureAt w B q p g u v rs) : ∃ gu cu, u = .slice (some ⟨gu, 0, none⟩) rs.length cu ∧ B ≤ gu ∧ gu < w.heap.size := by
  rcases h.own.2 with ⟨h1, _⟩ | ⟨gu, cu, _, h1, hb, hg, _⟩
  · exact absurd h1 h.some_
  · exact ⟨gu, cu, h1, hb, (Array.getElem?_eq_some_iff.1 hg).1⟩
theorem SureAt.kept {w w' : World} {S : Nat → Prop} {B q p g : Nat} {u v : Value} {rs : List (List UInt8)} (h : SureAt w B q p g u v rs) (hc : ChgS S w w') (hS : ∀ k, S k → LogS q p g v k ∨ w.heap.size ≤ k) : SureAt w' B q p g u v rs :=
  ⟨hc.own h.own fun k hk hs => by rcases hS k hs with h1 | h1; · exact h.apart k hk h1
                                  · have := (h.own.lt k hk).2; omega, h.some_, h.apart⟩
theorem SureAt.below {w w' : World} {C B q p g : Nat} {u v : Value} {rs : List (List UInt8)} (h : SureAt w B q p g u v rs) (hb : Below C w w') (hC : w.heap.size ≤ C) : SureAt w' B q p g u v rs :=
  ⟨own_same h.own fun k hk => hb.block k (by have := (h.own.lt k hk).2; omega), h.some_, h.apart⟩
theorem SureAt.same {w w' : World} {B q p g : Nat} {u v : Value} {rs : List (List UInt8)} (h : SureAt w B q p g u v rs) (hs : Same w w') : SureAt w' B q p g u v rs :=
  ⟨own_same h.own fun k _ => hs.block k, h.some_, h.apart⟩
/-- Another log round the same disk, made since. -/
theorem SureAt.moved {w : World} {B q p g q' N : Nat} {u v v' : Value} {rs : List (List UInt8)} (h : SureAt w B q p g u v rs) (hN : ∀ k, u.ownBlock = some k → k < N) (hq : N ≤ q') (hv : ∀ k, v'.ownBlock = some k → N ≤ k) : SureAt w B q' p g u v' rs :=
  ⟨h.own, h.some_, fun k hk hS => by
    have hl := hN k hk
    rcases hS with h1 | h1 | h1 | h1
    · omega
    · exact h.apart k hk (.inr (.inl h1))
    · exact h.apart k hk (.inr (.inr (.inl h1)))
    · have := hv k h1; omega⟩
/-- One more is sure. -/
theorem SureAt.more {w w5 : World} {B q p g : Nat} {u u' v : Value} {rs : List (List UInt8)} {x : List UInt8} (h : SureAt w B q p g u v rs) (hl : ∀ k, LogS q p g v k → k < w.heap.size) (o1 : w5.ownsRow B 9 1 u' (rs.length + 1) (strVs rs ++ [.string (bst x)])) (hn : u' = .slice none 0 0 ↔ u = .slice none 0 0 ∧ 1 = 0) (hat : u'.ownBlock = u.ownBlock ∨ u'.ownBlock = some (w.heap.size + 1)) :
    SureAt w5 B q p g u' v (rs ++ [x]) := by
  refine ⟨?_, fun h => by have := hn.1 h; omega, fun k hk hS => ?_⟩
  · rw [List.length_append, List.length_singleton]
    unfold strVs at o1 ⊢
    rw [List.map_append]
    exact o1
  · rcases hat with he | he
    · exact h.apart k (by rw [← he]; exact hk) hS
    · rw [he] at hk
      have h1 := Option.some.inj hk
      have := hl k hS
      omega

/-- What a life begins with. -/
def HoRel (w : World) (p g cap : Nat) (L : List (List ByteArray)) (lv sure ki : Value) (wr : World) : Prop :=
  ∃ (k q : Nat) (rs : List (List UInt8)) (u v : Value) (d : DS), lv = .pointer (some ⟨q, 0, none⟩) ∧ u = sure ∧ ki = .int .i64 (k : Int) ∧ k ≤ L.length ∧ SureAt wr w.heap.size q p g u v rs ∧ Live wr w.heap.size q p g cap 5 105 7 v rs (2000 * k + 200) d ∧ Below w.heap.size w wr
/-- What a round within a life begins with. -/
def HiRel (w : World) (q p g cap K : Nat) (zs : List ByteArray) (sure la cu ii : Value) (wr : World) : Prop :=
  ∃ (j : Nat) (rs : List (List UInt8)) (u v : Value) (d : DS), u = sure ∧ la = .string ⟨#[]⟩ ∧ cu = .bool false ∧ ii = .int .i64 (j : Int) ∧ j ≤ zs.length ∧ j ≤ 10 ∧ SureAt wr w.heap.size q p g u v rs ∧ LogMem wr w.heap.size q p g cap d 5 105 7 v rs false ∧ LogAt d 5 105 7 rs ∧ d.on = true ∧ d.wr ≤ K + 108 * j ∧ Below w.heap.size w wr

end Go.Proofs.YtmfchjbpbfkgiaaGreatDoor
