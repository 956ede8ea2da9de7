/- The contracts of kin's tree: who is there, who is above whom. Condition: the tree lies in memory as its map has it. -/
import Derived.Test.YtaibmdjcppeopaaDoorErrs
import Derived.Test.YtaibmdjcppeopaaDoorChg
import Derived.Test.YtaibmdjcppeopaaDoorKnM
import Derived.Maps.RangeWalk
import Derived.Maps.OwnSet
import Derived.Lib.Hide
import Derived.LoopTactic
import Derived.Maps.AppendAt
namespace Go.Proofs.YtaibmdjcppeopaaDoor
open Go Go.RowKit Go.Maps

/-- Tenants as a map has them. -/
structure Means (D : DataW Unit) (T : Kin) : Prop where
  has : ∀ x : Int, Maps.has D (.int .i64 x) = (up T x).isSome
  at_ : ∀ x : Int, D.atKey (.int .i64 x) (.lit (.int .i64 0)) = .lit (.int .i64 ((up T x).getD 0))
  size : Maps.size D = T.length
/-- Block b is a map that has the tenants T. -/
def MapAt (w : World) (b : Nat) (T : Kin) : Prop := ∃ D : DataW Unit, w.ownsMap Tryd.prog 3 (plainElem Tryd.prog 3) b T.length D ∧ Means D T
/-- Block q is a tree whose map lies in block b, and has the tenants T. -/
structure TreeAt (w : World) (q b : Nat) (T : Kin) : Prop where
  box : w.heap[q]? = some (.cells #[.map (some b)] 51 (0, 0))
  map : MapAt w b T
  good : Good T
  few : T.length ≤ 16

theorem lawI : Keyed Tryd.prog 3 := int_keyed Tryd.underlying3
theorem MapAt.lt {w : World} {b : Nat} {T : Kin} (h : MapAt w b T) : b < w.heap.size := by obtain ⟨_, h, _⟩ := h; exact h.lt
theorem MapAt.same {w w' : World} {b : Nat} {T : Kin} (h : MapAt w b T) (e : w'.heap[b]? = w.heap[b]?) : MapAt w' b T := by
  obtain ⟨D, ⟨es, c, hb, r⟩, m⟩ := h
  exact ⟨D, ⟨es, c, e.trans hb, r⟩, m⟩
theorem TreeAt.lt {w : World} {q b : Nat} {T : Kin} (h : TreeAt w q b T) : q < w.heap.size := (Array.getElem?_eq_some_iff.1 h.box).1
theorem TreeAt.on {w w' : World} {q b B : Nat} {T : Kin} (h : TreeAt w q b T) (hb : Below B w w') (hB : w.heap.size ≤ B) : TreeAt w' q b T :=
  ⟨(hb.block _ (Nat.lt_of_lt_of_le h.lt hB)).trans h.box, h.map.same (hb.block _ (Nat.lt_of_lt_of_le h.map.lt hB)), h.good, h.few⟩
theorem wf64 {x : Int} (h0 : -9223372036854775808 ≤ x) (h1 : x ≤ 9223372036854775807) : (Lit.int .i64 x).wf = true := by
  show (decide ((-9223372036854775808 : Int) ≤ x) && decide (x ≤ 9223372036854775807)) = true
  simp; omega

/-- The map that a tree has. -/
theorem known_c (q b : Nat) (w : World) (h : w.heap[q]? = some (.cells #[.map (some b)] 51 (0, 0))) :
    Calls Tryd.prog 28 #[.pointer (some ⟨q, 0, none⟩)] w fun e w' => e = .returned (.map (some b)) ∧ w' = w := by
  have c := cell_of_heap h 0
  clear h
  go_enter Tryd.func28, Tryd.ntmps28
  go_wp2
  go_ret
  exact ⟨rfl, rfl⟩
theorem known_nil (w : World) : Calls Tryd.prog 28 #[.pointer none] w fun e w' => e = .returned (.map none) ∧ w' = w := by
  go_enter Tryd.func28, Tryd.ntmps28
  go_wp2
  go_ret
  exact ⟨rfl, rfl⟩

/-- Whether one is there. -/
theorem has_c (b : Nat) (T : Kin) (x : Int) (w : World) (h : MapAt w b T) (h0 : -9223372036854775808 ≤ x) (h1 : x ≤ 9223372036854775807) :
    Calls Tryd.prog 29 #[.map (some b), .int .i64 x] w fun e w' => e = .returned (.bool (up T x).isSome) ∧ w' = w := by
  obtain ⟨D, hown, hm⟩ := h
  rw [← hm.has x]
  have hk := keyOf_int_mk (P := Tryd.prog) Tryd.underlying3 (wf64 h0 h1)
  clear hm
  go_enter Tryd.func29, Tryd.ntmps29
  go_wp2_with (first
    | (at_lookup; refine wpList_lookup_own_ok_int _ rfl _ _ 49 rfl 3 3 .i64 lawI Tryd.underlying49 Tryd.underlying3 (Tryd.zeroValue3 _) b T.length D rfl hown _ _ rfl hk ?_; intro c hat hwc)
    | go_in)
  go_ret
  exact ⟨rfl, rfl⟩
theorem has_nil (x : Int) (w : World) (h0 : -9223372036854775808 ≤ x) (h1 : x ≤ 9223372036854775807) :
    Calls Tryd.prog 29 #[.map none, .int .i64 x] w fun e w' => e = .returned (.bool false) ∧ w' = w := by
  have hn := @Maps.look_nil Tryd.prog 3 w 49 3 true lawI Tryd.underlying49 _ (Tryd.zeroValue3 w) _ _ (keyOf_int_mk (P := Tryd.prog) Tryd.underlying3 (wf64 h0 h1))
  go_enter Tryd.func29, Tryd.ntmps29
  go_wp2
  go_ret
  exact ⟨rfl, rfl⟩

/-- Tree.Is. -/
theorem is_c (q b : Nat) (T : Kin) (x : Int) (w : World) (h : TreeAt w q b T) (h0 : -9223372036854775808 ≤ x) (h1 : x ≤ 9223372036854775807) :
    Calls Tryd.prog 16 #[.pointer (some ⟨q, 0, none⟩), .int .i64 x] w fun e w' => e = .returned (.bool (up T x).isSome) ∧ w' = w := by
  have ck := known_c q b w h.box
  have ch := has_c b T x w h.map h0 h1
  clear h h0 h1
  go_enter Tryd.func16, Tryd.ntmps16
  go_wp2_with (first
    | (go_at_call 28; refine ck.mono ?_; rintro e w' ⟨rfl, rfl⟩)
    | (go_at_call 29; refine ch.mono ?_; rintro e w' ⟨rfl, rfl⟩))
  go_ret
  exact ⟨rfl, rfl⟩
theorem is_nil_c (x : Int) (w : World) (h0 : -9223372036854775808 ≤ x) (h1 : x ≤ 9223372036854775807) :
    Calls Tryd.prog 16 #[.pointer none, .int .i64 x] w fun e w' => e = .returned (.bool false) ∧ w' = w := by
  have ck := known_nil w
  have ch := has_nil x w h0 h1
  clear h0 h1
  go_enter Tryd.func16, Tryd.ntmps16
  go_wp2_with (first
    | (go_at_call 28; refine ck.mono ?_; rintro e w' ⟨rfl, rfl⟩)
    | (go_at_call 29; refine ch.mono ?_; rintro e w' ⟨rfl, rfl⟩))
  go_ret
  exact ⟨rfl, rfl⟩

/-- Tree.Parent. -/
theorem parent_c (q b : Nat) (T : Kin) (x : Int) (w : World) (h : TreeAt w q b T) (h0 : -9223372036854775808 ≤ x) (h1 : x ≤ 9223372036854775807) :
    Calls Tryd.prog 17 #[.pointer (some ⟨q, 0, none⟩), .int .i64 x] w fun e w' => e = .returned (.int .i64 ((up T x).getD 0)) ∧ w' = w := by
  have ck := known_c q b w h.box
  obtain ⟨D, hown, hm⟩ := h.map
  have HM : Hid (D.atKey (.int .i64 x) (.lit (.int .i64 0)) = .lit (.int .i64 ((up T x).getD 0))) := Lib.hid (hm.at_ x)
  have hk := keyOf_int_mk (P := Tryd.prog) Tryd.underlying3 (wf64 h0 h1)
  clear h hm h0 h1
  go_enter Tryd.func17, Tryd.ntmps17
  go_wp2_with (first
    | (go_at_call 28; refine ck.mono ?_; rintro e w' ⟨rfl, rfl⟩)
    | (at_lookup; refine wpList_lookup_own_int _ rfl _ _ 49 rfl 3 3 .i64 lawI Tryd.underlying49 Tryd.underlying3 (Tryd.zeroValue3 _) b T.length D rfl hown _ _ rfl hk ?_; intro c hat hwc))
  go_ret
  have e := HM.out.symm.trans hat
  simp at e
  exact ⟨ret_i e.symm, rfl⟩
theorem parent_nil (x : Int) (w : World) (h0 : -9223372036854775808 ≤ x) (h1 : x ≤ 9223372036854775807) :
    Calls Tryd.prog 17 #[.pointer none, .int .i64 x] w fun e w' => e = .returned (.int .i64 0) ∧ w' = w := by
  have ck := known_nil w
  have hn := @Maps.look_nil Tryd.prog 3 w 49 3 false lawI Tryd.underlying49 _ (Tryd.zeroValue3 w) _ _ (keyOf_int_mk (P := Tryd.prog) Tryd.underlying3 (wf64 h0 h1))
  clear h0 h1
  go_enter Tryd.func17, Tryd.ntmps17
  go_wp2_with (go_at_call 28; refine ck.mono ?_; rintro e w' ⟨rfl, rfl⟩)
  go_ret
  exact ⟨rfl, rfl⟩
end Go.Proofs.YtaibmdjcppeopaaDoor
