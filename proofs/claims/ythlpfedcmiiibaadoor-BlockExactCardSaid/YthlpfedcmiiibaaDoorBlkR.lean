/- The reference's disk as memory holds it, and the contracts of its methods. Conditions: a disk has at most 12 blocks; integers have 64 bits. -/
import Derived.Test.YthlpfedcmiiibaaDoorBlkT
import Derived.Maps.AppendAt
import Derived.Deep.RegionLaw
namespace Go.Proofs.YthlpfedcmiiibaaDoor
open Go Go.RowKit

def strVs (ls : List (List UInt8)) : List Value := ls.map fun b => .string (strB b)
theorem strVs_len (ls : List (List UInt8)) : (strVs ls).length = ls.length := by simp [strVs]
theorem strVs_app (a b : List (List UInt8)) : strVs a ++ strVs b = strVs (a ++ b) := by simp [strVs]
theorem strVs_get {ls : List (List UInt8)} {j : Nat} {b : List UInt8} (h : ls[j]? = some b) : (strVs ls)[j]? = some (.string (strB b)) := by simp [strVs, h]
theorem strVs_set (ls : List (List UInt8)) (j : Nat) (b : List UInt8) : (strVs ls).set j (.string (strB b)) = strVs (ls.set j b) := by simp [strVs, List.map_set]

/-- The reference's disk at block q; o is the block of its strings, q itself if there is none yet. -/
def RAt (w : World) (q o : Nat) (ls : List (List UInt8)) (on : Bool) (fuse : Int) (torn wr : Nat) : Prop :=
  ∃ v, w.heap[q]? = some (.cells #[v, .bool on, .int .i64 fuse, .int .i64 (torn : Int), .int .i64 (wr : Int)] 36 (0, 0)) ∧ w.ownsRow (q + 1) 9 1 v ls.length (strVs ls) ∧ ((v = .slice none 0 0 ∧ o = q) ∨ v.ownBlock = some o)
theorem RAt.lt {w : World} {q o : Nat} {ls : List (List UInt8)} {on : Bool} {fuse : Int} {torn wr : Nat} (h : RAt w q o ls on fuse torn wr) : q < w.heap.size ∧ q ≤ o ∧ o < w.heap.size := by
  obtain ⟨v, h1, h2, h3⟩ := h
  have hp := lt_of_block h1
  rcases h3 with ⟨_, rfl⟩ | h3
  · exact ⟨hp, Nat.le_refl _, hp⟩
  · have := h2.lt o h3; exact ⟨hp, by omega, this.2⟩
theorem RAt.same {w w' : World} {q o : Nat} {ls : List (List UInt8)} {on : Bool} {fuse : Int} {torn wr : Nat} (h : RAt w q o ls on fuse torn wr) (hp : w'.heap[q]? = w.heap[q]?) (ho : w'.heap[o]? = w.heap[o]?) : RAt w' q o ls on fuse torn wr := by
  obtain ⟨v, h1, h2, h3⟩ := h
  refine ⟨v, hp.trans h1, own_same h2 fun k hk => ?_, h3⟩
  rcases h3 with ⟨rfl, _⟩ | h3
  · simp [Value.ownBlock] at hk
  · rw [h3] at hk; cases hk; exact ho
section
variable {w w' : World} {q o p' q' B : Nat} {ls : List (List UInt8)} {on : Bool} {fuse : Int} {torn wr : Nat}
theorem RAt.kept (h : RAt w q o ls on fuse torn wr) (hc : Chg p' q' w w') (h1 : q ≠ p') (h2 : q ≠ q') (h3 : o ≠ p') (h4 : o ≠ q') : RAt w' q o ls on fuse torn wr :=
  h.same (hc.block q h.lt.1 h1 h2) (hc.block o h.lt.2.2 h3 h4)
theorem RAt.below (h : RAt w q o ls on fuse torn wr) (hb : Below B w w') (h2 : o < B) : RAt w' q o ls on fuse torn wr := h.same (hb.block q (by have := h.lt; omega)) (hb.block o h2)
theorem RAt.on_ (hb : Below w.heap.size w w') (h : RAt w q o ls on fuse torn wr) : RAt w' q o ls on fuse torn wr := h.below hb h.lt.2.2
theorem RAt.drewN (h : RAt w q o ls on fuse torn wr) (n : Nat) : RAt (w.drewN n) q o ls on fuse torn wr := h.same rfl rfl
theorem RAt.drew (h : RAt w q o ls on fuse torn wr) : RAt w.drew q o ls on fuse torn wr := h.same rfl rfl
theorem RAt.alloc (h : RAt w q o ls on fuse torn wr) (x : Obj) : RAt (w.alloc x) q o ls on fuse torn wr := h.same (Below.heap_alloc w x q h.lt.1) (Below.heap_alloc w x o h.lt.2.2)
/-- What is in memory of a disk that has strings. -/
theorem RAt.cells (h : RAt w q o ls on fuse torn wr) : ∃ v, w.heap[q]? = some (.cells #[v, .bool on, .int .i64 fuse, .int .i64 (torn : Int), .int .i64 (wr : Int)] 36 (0, 0)) ∧
    ((v = .slice none 0 0 ∧ ls = []) ∨ ∃ cap, v = .slice (some ⟨o, 0, none⟩) ls.length cap ∧ q < o ∧ ∀ j b, ls[j]? = some b → w.cell? ⟨o, j, none⟩ = some (.string (strB b)) ∧ w.frozen? ⟨o, j, none⟩ = false) := by
  obtain ⟨v, h1, h2, h3⟩ := h
  refine ⟨v, h1, ?_⟩
  rcases h2.2 with ⟨rfl, h0⟩ | ⟨g, cap, cur, rfl, hbg, hgg, hnc, hcm, hcs, htake⟩
  · exact .inl ⟨rfl, List.eq_nil_of_length_eq_zero h0⟩
  · rcases h3 with ⟨h3, _⟩ | h3
    · cases h3
    · simp [Value.ownBlock] at h3
      subst h3
      refine .inr ⟨cap, rfl, by omega, fun j b hb => ?_⟩
      have hc : ∀ j u, (strVs ls)[j]? = some u → w.cell? ((⟨g, 0, none⟩ : Addr).add j) = some u := h2.cells (g := g) rfl
      have := hc j _ (strVs_get hb)
      rw [addr0] at this
      exact ⟨this, frozen_of_heap hgg j⟩
end
theorem Tryd.infoS : (Tryd.prog.info? 9).map (fun i => (i.zero, i.size, i.bytes)) = some (some (.string ⟨#[]⟩), 1, 16) := by kernel_rfl

/-- What an append to the reference's strings and the store of them leave. -/
theorem RAt.put {w w3 : World} {q o : Nat} {ls : List (List UInt8)} {on : Bool} {fuse : Int} {torn wr : Nat} {x : List UInt8} {v v' : Value} {N S : Nat}
    (hp : w.heap[q]? = some (.cells #[v, .bool on, .int .i64 fuse, .int .i64 (torn : Int), .int .i64 (wr : Int)] 36 (0, 0))) (ho : (v = .slice none 0 0 ∧ o = q) ∨ v.ownBlock = some o)
    (hg : w.grownBy w3 v.ownBlock) (hN : N = (ls ++ [x]).length) (hown : w3.ownsRow (q + 1) 9 1 v' N (strVs ls ++ strVs [x])) (hb : ∀ k, v.ownBlock = some k → q + 1 ≤ k) (hat : v'.ownBlock = v.ownBlock ∨ v'.ownBlock = some S) (hS : w.heap.size = S) :
    ∃ g cap, v' = .slice (some ⟨g, 0, none⟩) N cap ∧ w3.heap[q]? = some (.cells #[v, .bool on, .int .i64 fuse, .int .i64 (torn : Int), .int .i64 (wr : Int)] 36 (0, 0)) ∧ RAt (w3.setCell ⟨q, 0, none⟩ v') q g (ls ++ [x]) on fuse torn wr ∧ Chg q o w (w3.setCell ⟨q, 0, none⟩ v') ∧ (g = o ∨ g = S) := by
  subst hN
  subst hS
  have hlt := lt_of_block hp
  have hp3 : w3.heap[q]? = some (.cells #[v, .bool on, .int .i64 fuse, .int .i64 (torn : Int), .int .i64 (wr : Int)] 36 (0, 0)) := (hg.block q hlt (fun e => by have := hb q e.symm; omega)).trans hp
  have hchg : Chg q o w (w3.setCell ⟨q, 0, none⟩ v') := ((Chg.refl q o w).grown hg (fun k hk => by
    rcases ho with ⟨rfl, _⟩ | ho
    · simp [Value.ownBlock] at hk
    · rw [ho] at hk; cases hk; exact .inr (.inl rfl))).setCell (.inl rfl) _
  rw [strVs_app] at hown
  rcases hown.2 with ⟨_, h0⟩ | ⟨g, cap, cur, rfl, hbg, hgg, rest⟩
  · simp at h0
  · refine ⟨g, cap, rfl, hp3, ⟨_, set_cells hp3, ?_, .inr rfl⟩, hchg, ?_⟩
    · exact ownsRow_setCell_other hown (by simp [Value.ownBlock]; omega) _
    · rcases hat with h | h
      · rcases ho with ⟨rfl, _⟩ | ho
        · simp [Value.ownBlock] at h
        · rw [ho] at h; simp [Value.ownBlock] at h; exact .inl h
      · simp [Value.ownBlock] at h; exact .inr h

/-- The same, the field of strings named. -/
def RV (w : World) (q o : Nat) (v : Value) (ls : List (List UInt8)) (on : Bool) (fuse : Int) (torn wr : Nat) : Prop :=
  w.heap[q]? = some (.cells #[v, .bool on, .int .i64 fuse, .int .i64 (torn : Int), .int .i64 (wr : Int)] 36 (0, 0)) ∧ w.ownsRow (q + 1) 9 1 v ls.length (strVs ls) ∧ ((v = .slice none 0 0 ∧ o = q) ∨ v.ownBlock = some o)
section
variable {w w' : World} {q o : Nat} {v : Value} {ls : List (List UInt8)} {on : Bool} {fuse : Int} {torn wr : Nat}
theorem RV.rat (h : RV w q o v ls on fuse torn wr) : RAt w q o ls on fuse torn wr := ⟨v, h⟩
theorem RV.same (h : RV w q o v ls on fuse torn wr) (hp : w'.heap[q]? = w.heap[q]?) (ho : w'.heap[o]? = w.heap[o]?) : RV w' q o v ls on fuse torn wr := by
  obtain ⟨h1, h2, h3⟩ := h
  refine ⟨hp.trans h1, own_same h2 fun k hk => ?_, h3⟩
  rcases h3 with ⟨rfl, _⟩ | h3
  · simp [Value.ownBlock] at hk
  · rw [h3] at hk; cases hk; exact ho
theorem RV.drewN (h : RV w q o v ls on fuse torn wr) (n : Nat) : RV (w.drewN n) q o v ls on fuse torn wr := h.same rfl rfl
theorem RV.drew (h : RV w q o v ls on fuse torn wr) : RV w.drew q o v ls on fuse torn wr := h.same rfl rfl
theorem RV.alloc (h : RV w q o v ls on fuse torn wr) (x : Obj) : RV (w.alloc x) q o v ls on fuse torn wr := h.same (Below.heap_alloc w x q h.rat.lt.1) (Below.heap_alloc w x o h.rat.lt.2.2)
end
theorem cell_new1 (w : World) (x : Value) (t : TypeId) : (w.alloc (.cells #[x] t)).drew.cell? ((⟨w.heap.size, 0, none⟩ : Addr).add 0) = some x := by
  show (w.alloc (.cells #[x] t)).cell? ⟨w.heap.size, 0, none⟩ = _
  rw [World.cell?_alloc_at _ _ _ _ rfl]; rfl
theorem cell_new0 (w : World) (x : Value) (t : TypeId) : (w.alloc (.cells #[x] t)).cell? ((⟨w.heap.size, 0, none⟩ : Addr).add 0) = some x := cell_new1 w x t
theorem RAt.cell0 {w : World} {q o : Nat} {ls : List (List UInt8)} {on : Bool} {fuse : Int} {torn wr : Nat} {v : Value} (h : RAt w q o ls on fuse torn wr) (hv : w.cell? ⟨q, 0, none⟩ = some v) :
    w.heap[q]? = some (.cells #[v, .bool on, .int .i64 fuse, .int .i64 (torn : Int), .int .i64 (wr : Int)] 36 (0, 0)) ∧ w.ownsRow (q + 1) 9 1 v ls.length (strVs ls) ∧ ((v = .slice none 0 0 ∧ o = q) ∨ v.ownBlock = some o) := by
  obtain ⟨v0, h1, h2, h3⟩ := h
  have e : w.cell? ⟨q, 0, none⟩ = some v0 := cell_of_heap h1 0
  obtain rfl := Option.some.inj (e.symm.trans hv)
  exact ⟨h1, h2, h3⟩
/-- 'd.L = append(d.L, s)' as one step of a region. -/
theorem step_put {ops : Array Oper} {o : Oper} {a : Act} {w w0 : World} {K : Act → World → Prop} {Q : Exit → Act → World → Prop} {E : Prop} (hgd : o.guard = none) (s x : Operand)
    (ho : o.op = .call { callee := .builtin .append, args := #[s, x], argTypes := #[34, 34] })
    {q g : Nat} {ls : List (List UInt8)} {on : Bool} {fuse : Int} {torn wr : Nat} (b : List UInt8) (v : Value) (hs : a.eval s = v) (ad : Addr) (c : Nat) (hx : a.eval x = .slice (some ad) 1 c) (hc : w.cell? (ad.add 0) = some (.string (strB b)))
    (hr : RV w q g v ls on fuse torn wr) (hl : ls.length ≤ 4096) (hb : Below w0.heap.size w0 w) (hq : w0.heap.size ≤ q)
    (h : ∀ g' cap' w', w'.cell? ⟨q, 0, none⟩ = some v → w'.frozen? ⟨q, 0, none⟩ = false → Hid (RAt (w'.setCell ⟨q, 0, none⟩ (.slice (some ⟨g', 0, none⟩) (ls.length + 1) cap')) q g' (ls ++ [b]) on fuse torn wr) → Hid (Below w0.heap.size w0 (w'.setCell ⟨q, 0, none⟩ (.slice (some ⟨g', 0, none⟩) (ls.length + 1) cap'))) → K (a.put o.dst (.slice (some ⟨g', 0, none⟩) (ls.length + 1) cap')) w') :
    if Region.wanted o (yielded ops a.tmps) = true then Oper.wp Tryd.prog o a w K Q else E := by
  have hw : Region.wanted o (yielded ops a.tmps) = true := by simp [Region.wanted, hgd]
  rw [if_pos hw]
  have hlt := hr.rat.lt
  obtain ⟨hp, hown, hown2⟩ := hr
  obtain ⟨i0, hi, hz0, hz1, hz2⟩ := info_parts Tryd.infoS
  obtain ⟨v', w3, hrun, h2, h3, h4, h5⟩ := run_append_own_at (P := Tryd.prog) w (q + 1) 34 o.type 9 i0 _ 1 16 Tryd.underlying34 hi hz0 hz1 hz2 rfl (by decide) v ls.length (strVs ls) hown ad 1 c (strVs [b]) rfl
    (fun j u hu => by
      match j, hu with
      | 0, hu => rw [hc]; exact hu) (fun u hu => by simp [strVs] at hu; subst hu; rfl) (by unfold maxLen; omega) (by omega) (by omega)
  obtain ⟨g', cap, rfl, hp3, hR, hC, _⟩ := RAt.put (x := b) hp hown2 h3 (by simp) h2 (fun k hk => (hown.lt k hk).1) h5 rfl
  unfold Oper.wp execOp
  simp only [ho, resolve, invoke, builtin, Sem.run_bind, Sem.run_pure, Result.andThen_ok, List.map_toArray, List.map_cons, List.map_nil, hs, hx, hrun]
  exact h _ _ _ (cell_of_heap hp3 0) (frozen_of_heap hp3 0) hR (hb.trans (hC.below (by omega) (by omega) hb.size))

/-- The first j blocks of some bytes. -/
def chunks (l : List UInt8) (j : Nat) : List (List UInt8) := (List.range j).map fun t => (l.drop (64 * t)).take 64
theorem chunks_len (l : List UInt8) (j : Nat) : (chunks l j).length = j := by simp [chunks]
theorem chunks_succ (l : List UInt8) (j : Nat) : chunks l (j + 1) = chunks l j ++ [(l.drop (64 * j)).take 64] := by simp [chunks, List.range_succ]
theorem chunk_is (T : ByteArray) (j : Nat) (h : 64 * j + 64 ≤ T.size) : T.extract (64 * j) (64 * j + 64) = strB ((T.data.toList.drop (64 * j)).take 64) := by
  apply bytes_ext
  rw [ByteArray.data_extract, Array.toList_extract, List.extract_eq_take_drop]
  show _ = (T.data.toList.drop (64 * j)).take 64
  rw [show 64 * j + 64 - 64 * j = 64 by omega]

/-- What a round of the reference's Of begins with. -/
def OfR (w : World) (q : Nat) (T : ByteArray) (j : Nat) (wr : World) : Prop := ∃ o, RAt wr q o (chunks T.data.toList j) true (-1) 0 0 ∧ Below w.heap.size w wr

set_option maxHeartbeats 3200000 in
set_option maxRecDepth 100000 in
theorem rof_c (T : ByteArray) (w : World) (hT : T.size ≤ 768) :
    Calls Tryd.prog 9 #[.string T] w fun e w' => ∃ q o, e = .returned (.pointer (some ⟨q, 0, none⟩)) ∧ RAt w' q o (chunks T.data.toList (T.size / 64)) true (-1) 0 0 ∧ Below w.heap.size w w' ∧ w.heap.size ≤ q := by
  have hstart : Hid (OfR w w.heap.size T 0 (w.alloc (.cells #[.slice none 0 0, .bool true, .int .i64 (-1), .int .i64 0, .int .i64 0] 36))) :=
    Lib.hid ⟨_, ⟨_, heap_alloc_new w _, World.ownsRow_nil _ _ _ _, .inl ⟨rfl, rfl⟩⟩, (Below.refl _ _).alloc (Nat.le_refl _) _⟩
  go_enter Tryd.func9, Tryd.ntmps9
  go_wp2_with fail
  obtain ⟨q, hq⟩ : ∃ q, q = w.heap.size := ⟨_, rfl⟩
  have hstart' : Hid (OfR w q T 0 (w.alloc (.cells #[.slice none 0 0, .bool true, .int .i64 (-1), .int .i64 0, .int .i64 0] 36))) := by rw [hq]; exact hstart
  rw [← hq]
  have HQ := Lib.hid hq
  clear hstart hq
  go_loopw [4] (fun u wr => ∃ j : Nat, 64 * j ≤ T.size ∧ u = .int .i64 (64 * (j : Int)) ∧ OfR w q T j wr) (fun u _ => T.size + 64 - (intOf u).toNat)
  case atStart => exact ⟨0, by omega, rfl, hstart'.out⟩
  case round =>
    obtain ⟨j, hj, rfl, o, hr, hb⟩ := hrel
    have hr' := hr
    obtain ⟨v, hp, hown, ho⟩ := hr'
    have hlt := hr.lt
    have c0 : wr.cell? ⟨q, 0, none⟩ = some v := cell_of_heap hp 0
    have f0 := frozen_of_heap hp 0
    have hob : ∀ k, v.ownBlock = some k → q + 1 ≤ k := fun k hk => (hown.lt k hk).1
    obtain ⟨cap, A, hv⟩ : ∃ cap A, v = .slice A j cap := by
      rcases hown.2 with ⟨rfl, h0⟩ | ⟨g, cap, cur, rfl, _⟩
      · rw [chunks_len] at h0; exact ⟨0, none, by rw [h0]⟩
      · exact ⟨cap, _, by rw [chunks_len]⟩
    have hj0 : (0 : Int) ≤ 64 * (j : Int) := by omega
    have hj1 : (64 * (j : Int)) ≤ 768 := by omega
    have hj12 : j ≤ 12 := by omega
    have hjI : (j : Int) < 4096 := by omega
    have hT0 : (T.size : Int) ≤ 768 := by omega
    by_cases hmore : 64 * j + 64 ≤ T.size
    · have hm1 : 64 * (j : Int) + 64 ≤ (T.size : Int) := by omega
      have hch : Hid (T.extract (64 * j) (64 * j + 64) = strB ((T.data.toList.drop (64 * j)).take 64)) := Lib.hid (chunk_is T j hmore)
      have hn1 : (64 * (j : Int)).toNat = 64 * j := by omega
      have hn2 : (64 * (j : Int) + 64).toNat = 64 * j + 64 := by omega
      have hwr1 : IntKind.i64.wrap (64 * (j : Int) + 64) = 64 * (j : Int) + 64 := IntWalk.i64_in _ (by omega)
      have hle1 : 64 * (j : Int) ≤ 64 * (j : Int) + 64 := by omega
      have hlL : Hid ((chunks T.data.toList j).length ≤ 4096) := Lib.hid (by rw [chunks_len]; omega)
      have hqw : Hid (w.heap.size ≤ q) := Lib.hid (by rw [HQ.out]; exact Nat.le_refl _)
      rw [hv] at c0
      have HE1 : Hid (chunks T.data.toList (j + 1) = chunks T.data.toList j ++ [(T.data.toList.drop (64 * j)).take 64]) := Lib.hid (chunks_succ _ _)
      have hr0 : RV wr q o (.slice A j cap) (chunks T.data.toList j) true (-1) 0 0 := by rw [← hv]; exact ⟨hp, hown, ho⟩
      clear hr hp hown ho hob hv hstart'
      go_wp2_with fail
      go_region_law (refine step_put (w0 := w) (q := q) (g := o) (ls := chunks T.data.toList j) (on := true) (fuse := -1) (torn := 0) (wr := 0) rfl (.tmp 26) (.tmp 32) rfl ((T.data.toList.drop (64 * j)).take 64) (.slice A j cap) rfl ⟨wr.heap.size, 0, none⟩ 1 rfl (by rw [← hch.out]; first | exact cell_new1 _ _ _ | exact cell_new0 _ _ _) (by (repeat' (first | (with_reducible assumption) | (with_reducible exact Hid.out (by with_reducible assumption)) | (with_reducible refine RAt.drewN ?_ _) | (with_reducible refine RAt.drew ?_) | (with_reducible refine RAt.alloc ?_ _) | (with_reducible refine RV.drewN ?_ _) | (with_reducible refine RV.drew ?_) | (with_reducible refine RV.alloc ?_ _)))) hlL.out (by (repeat' (first | (with_reducible exact Below.refl _ _) | (with_reducible refine below_drewN ?_ _) | (with_reducible refine Below.drew ?_) | (with_reducible refine Below.alloc ?_ ?_ _) | (with_reducible refine Below.setCell ?_ ?_ _) | (with_reducible refine Below.trans ?_ (Below.mono (by with_reducible assumption) ?_)) | omega | (simp only [World.size_alloc, World.size_setCell, World.size_drew, Go.Proofs.YthlpfedcmiiibaaDoor.World.size_drewN] at *; omega) | (with_reducible refine Below.size (B := 0) ?_)))) hqw.out ?_; intro g5 cap5 w5 c5 f5 R5 B5)
      all_goals go_wp2_with fail
      all_goals go_roundw
      all_goals first
        | (refine ⟨j + 1, by omega, by go_num, ?_⟩; rw [← HE1.out] at R5; have r5 := R5.out; have b5 := B5.out; exact ⟨g5, by (repeat' (first | (with_reducible assumption) | (with_reducible exact Hid.out (by with_reducible assumption)) | (with_reducible refine RAt.drewN ?_ _) | (with_reducible refine RAt.drew ?_) | (with_reducible refine RAt.alloc ?_ _) | (with_reducible refine RV.drewN ?_ _) | (with_reducible refine RV.drew ?_) | (with_reducible refine RV.alloc ?_ _))), by first | exact b5 | exact b5.drew⟩)
        | (simp [intOf]; omega)
    · have hm1 : ¬ 64 * (j : Int) + 64 ≤ (T.size : Int) := by omega
      have HR := Lib.hid hr
      have HE : T.size / 64 = j := by omega
      clear hr hp hown ho hob hv hstart'
      go_wp2_with fail
      go_ret
      exact ⟨q, rfl, ⟨o, HR.out⟩, hb, by rw [HQ.out]; exact Nat.le_refl _⟩

theorem len_take64 (l : List UInt8) (h : l.length ≤ 64) : l.take 64 = l := List.take_of_length_le h

/-- Cells of the reference's own block. -/
theorem RAt.c {w : World} {q o : Nat} {ls : List (List UInt8)} {on : Bool} {fuse : Int} {torn wr : Nat} (h : RAt w q o ls on fuse torn wr) :
    w.cell? ⟨q, 1, none⟩ = some (.bool on) ∧ w.cell? ⟨q, 2, none⟩ = some (.int .i64 fuse) ∧ w.cell? ⟨q, 3, none⟩ = some (.int .i64 (torn : Int)) ∧ w.cell? ⟨q, 4, none⟩ = some (.int .i64 (wr : Int)) ∧ ∀ j, w.frozen? ⟨q, j, none⟩ = false := by
  obtain ⟨v, h1, _⟩ := h
  exact ⟨cell_of_heap h1 1, cell_of_heap h1 2, cell_of_heap h1 3, cell_of_heap h1 4, frozen_of_heap h1⟩
/-- A store into one of the reference's plain fields. -/
theorem RAt.set1 {w : World} {q o : Nat} {ls : List (List UInt8)} {on : Bool} {fuse : Int} {torn wr : Nat} (h : RAt w q o ls on fuse torn wr) (x : Bool) : RAt (w.setCell ⟨q, 1, none⟩ (.bool x)) q o ls x fuse torn wr := by
  obtain ⟨v, h1, h2, h3⟩ := h
  exact ⟨v, set_cells h1, ownsRow_setCell_other h2 (fun e => by have := (h2.lt _ e).1; simp at this; omega) _, h3⟩
theorem RAt.set2 {w : World} {q o : Nat} {ls : List (List UInt8)} {on : Bool} {fuse : Int} {torn wr : Nat} (h : RAt w q o ls on fuse torn wr) (x : Int) : RAt (w.setCell ⟨q, 2, none⟩ (.int .i64 x)) q o ls on x torn wr := by
  obtain ⟨v, h1, h2, h3⟩ := h
  exact ⟨v, set_cells h1, ownsRow_setCell_other h2 (fun e => by have := (h2.lt _ e).1; simp at this; omega) _, h3⟩
theorem RAt.set3 {w : World} {q o : Nat} {ls : List (List UInt8)} {on : Bool} {fuse : Int} {torn wr : Nat} (h : RAt w q o ls on fuse torn wr) (x : Nat) : RAt (w.setCell ⟨q, 3, none⟩ (.int .i64 (x : Int))) q o ls on fuse x wr := by
  obtain ⟨v, h1, h2, h3⟩ := h
  exact ⟨v, set_cells h1, ownsRow_setCell_other h2 (fun e => by have := (h2.lt _ e).1; simp at this; omega) _, h3⟩
theorem RAt.set4 {w : World} {q o : Nat} {ls : List (List UInt8)} {on : Bool} {fuse : Int} {torn wr : Nat} (h : RAt w q o ls on fuse torn wr) (x : Nat) : RAt (w.setCell ⟨q, 4, none⟩ (.int .i64 (x : Int))) q o ls on fuse torn x := by
  obtain ⟨v, h1, h2, h3⟩ := h
  exact ⟨v, set_cells h1, ownsRow_setCell_other h2 (fun e => by have := (h2.lt _ e).1; simp at this; omega) _, h3⟩
/-- A store into one of the reference's strings. -/
theorem RAt.setL {w : World} {q o : Nat} {ls : List (List UInt8)} {on : Bool} {fuse : Int} {torn wr : Nat} (h : RAt w q o ls on fuse torn wr) (j : Nat) (x : List UInt8) (hj : j < ls.length) : RAt (w.setCell ⟨o, j, none⟩ (.string (strB x))) q o (ls.set j x) on fuse torn wr := by
  obtain ⟨v, h1, h2, h3⟩ := h
  have hqo : q ≠ o ∧ ∃ cap, v = .slice (some ⟨o, 0, none⟩) ls.length cap := by
    rcases h2.2 with ⟨rfl, h0⟩ | ⟨g, cap, cur, rfl, hbg, _⟩
    · omega
    · rcases h3 with ⟨h3, _⟩ | h3
      · cases h3
      · simp [Value.ownBlock] at h3; subst h3; exact ⟨by omega, cap, rfl⟩
  obtain ⟨hne, cap, rfl⟩ := hqo
  refine ⟨_, (Below.heap_setCell w ⟨o, j, none⟩ _ q hne).trans h1, ?_, h3⟩
  have := (h2.stored j (.string (strB x))).1
  rw [strVs_set] at this
  rw [List.length_set]
  exact this

set_option maxHeartbeats 1600000 in
set_option maxRecDepth 100000 in
theorem rfuse_c (q o : Nat) (ls : List (List UInt8)) (on : Bool) (fuse : Int) (torn wr : Nat) (n t : Int) (w : World) (h : RAt w q o ls on fuse torn wr) (h0 : -9223372036854775808 ≤ n) (h1 : n ≤ 9223372036854775807) (t0 : -9223372036854775808 ≤ t) (t1 : t ≤ 9223372036854775807) :
    Calls Tryd.prog 13 #[.pointer (some ⟨q, 0, none⟩), .int .i64 n, .int .i64 t] w fun e w' => e = .returned (.tuple #[]) ∧ RAt w' q o ls on (if on then max n (-1) else fuse) (if on then clampI t 64 else torn) wr ∧ Chg q o w w' := by
  obtain ⟨c1, c2, c3, c4, hf⟩ := h.c
  have f2 := hf 2
  have f3 := hf 3
  clear hf
  have HR := Lib.hid h
  cases on
  · go_enter Tryd.func13, Tryd.ntmps13
    go_wp2_with fail
    go_end0
    exact ⟨rfl, HR.out, Chg.refl _ _ _⟩
  · have HF : ∀ a : Int, a = max n (-1) → ∀ b : Int, b = (clampI t 64 : Nat) → RAt ((w.setCell ⟨q, 2, none⟩ (.int .i64 a)).setCell ⟨q, 3, none⟩ (.int .i64 b)) q o ls true (max n (-1)) (clampI t 64) wr := by
      rintro a rfl b rfl; exact (h.set2 _).set3 _
    have HF' := Lib.hid HF; clear HF
    have hcl : Hid ((clampI t 64 : Nat) = (min (max t 0) 64 : Int)) := Lib.hid (by unfold clampI; omega)
    go_enter Tryd.func13, Tryd.ntmps13
    go_wp2_with fail
    all_goals go_end0
    all_goals refine ⟨rfl, HF'.out _ ?_ _ ?_, ((Chg.refl q o w).setCell (.inl rfl) _).setCell (.inl rfl) _⟩
    all_goals (try rw [hcl.out])
    all_goals first | omega | (split at * <;> omega)

set_option maxHeartbeats 1600000 in
set_option maxRecDepth 100000 in
theorem rcome_c (q o : Nat) (ls : List (List UInt8)) (on : Bool) (fuse : Int) (torn wr : Nat) (w : World) (h : RAt w q o ls on fuse torn wr) :
    Calls Tryd.prog 15 #[.pointer (some ⟨q, 0, none⟩)] w fun e w' => e = .returned (.tuple #[]) ∧ RAt w' q o ls true (if on then fuse else -1) torn wr ∧ Chg q o w w' := by
  obtain ⟨c1, c2, c3, c4, hf⟩ := h.c
  have f1 := hf 1
  have f2 := hf 2
  clear hf
  have HR := Lib.hid h
  cases on
  · have HF := Lib.hid ((h.set1 true).set2 (-1))
    go_enter Tryd.func15, Tryd.ntmps15
    go_wp2_with fail
    go_end0
    exact ⟨rfl, HF.out, ((Chg.refl q o w).setCell (.inl rfl) _).setCell (.inl rfl) _⟩
  · go_enter Tryd.func15, Tryd.ntmps15
    go_wp2_with fail
    go_end0
    exact ⟨rfl, HR.out, Chg.refl _ _ _⟩

/-! The reference's image. -/
def joinB (ls : List (List UInt8)) (j : Nat) : List UInt8 := (ls.take j).flatten
theorem join_succ {ls : List (List UInt8)} {j : Nat} {b : List UInt8} (h : ls[j]? = some b) : joinB ls (j + 1) = joinB ls j ++ b := by
  unfold joinB; rw [List.take_add_one, h]; simp
theorem strB_app (a b : List UInt8) : strB a ++ strB b = strB (a ++ b) := by
  apply bytes_ext; rw [ByteArray.data_append, Array.toList_append]

set_option maxHeartbeats 1600000 in
set_option maxRecDepth 100000 in
theorem rimage_c (q o : Nat) (ls : List (List UInt8)) (on : Bool) (fuse : Int) (torn wr : Nat) (w : World) (h : RAt w q o ls on fuse torn wr) (hl : ls.length ≤ 12) (hz : ∀ b ∈ ls, b.length = 64) :
    Calls Tryd.prog 22 #[.pointer (some ⟨q, 0, none⟩)] w fun e w' => e = .returned (.string (strB ls.flatten)) ∧ w = w' := by
  have hjl : ∀ j, (joinB ls j).length ≤ 64 * j := fun j => by
    induction j with
    | zero => simp [joinB]
    | succ j ih =>
      by_cases hj : j < ls.length
      · have e := join_succ (List.getElem?_eq_getElem hj)
        rw [e, List.length_append, hz _ (List.getElem_mem hj)]; omega
      · have e : joinB ls (j + 1) = joinB ls j := by unfold joinB; rw [List.take_of_length_le (by omega), List.take_of_length_le (by omega)]
        rw [e]; omega
  obtain ⟨v, hp, hcs⟩ := h.cells
  have c0 : w.cell? ⟨q, 0, none⟩ = some v := cell_of_heap hp 0
  rcases hcs with ⟨rfl, rfl⟩ | ⟨cap, rfl, hqo, hc⟩
  · go_enter Tryd.func22, Tryd.ntmps22
    go_wp2_with fail
    go_rounds 1
    go_ret
    exact ⟨rfl, rfl⟩
  · have HJ := Lib.hid hjl; clear hjl
    have HC := Lib.hid hc; clear hc hp
    go_enter Tryd.func22, Tryd.ntmps22
    go_wp2_with fail
    go_loopw [3, 4] (fun s u wr => ∃ j : Nat, j ≤ ls.length ∧ s = .string (strB (joinB ls j)) ∧ u = .int .i64 (j : Int) ∧ wr = w) (fun _ u _ => ls.length - (intOf u).toNat)
    case atStart => exact ⟨0, by omega, rfl, rfl, rfl⟩
    case round =>
      obtain ⟨j, hj, rfl, rfl, rfl⟩ := hrel
      have hj0 : (0 : Int) ≤ (j : Int) := by omega
      by_cases hlt : j < ls.length
      · have hj1 : (j : Int) < (ls.length : Int) := by omega
        obtain ⟨b, hb⟩ : ∃ b, ls[j]? = some b := ⟨_, List.getElem?_eq_getElem hlt⟩
        have hcell := (HC.out j b hb).1
        have hbl : b.length = 64 := hz b (List.mem_of_getElem? hb)
        have hjn := HJ.out j
        have hno : ¬ 9223372036854775807 < (joinB ls j).length + b.length := by omega
        have HN : Hid (strB (joinB ls j) ++ strB b = strB (joinB ls (j + 1))) := Lib.hid (by rw [strB_app, join_succ hb])
        clear hb hbl
        go_wp2_with fail
        go_roundw
        case rel => exact ⟨j + 1, by omega, by rw [HN.out], by go_num, trivial⟩
        case measure => simp [intOf]; omega
      · obtain rfl : j = ls.length := by omega
        have HE : Hid (joinB ls ls.length = ls.flatten) := Lib.hid (by unfold joinB; rw [List.take_length])
        go_wp2_with fail
        go_ret
        exact ⟨by rw [← HE.out]; rfl, rfl⟩
end Go.Proofs.YthlpfedcmiiibaaDoor
