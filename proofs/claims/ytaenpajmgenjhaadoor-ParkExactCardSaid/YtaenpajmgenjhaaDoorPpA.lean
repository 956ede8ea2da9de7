/- The program's park by contracts: the park in memory, where a machine is, all machines, those of a cell. Conditions: the park is one that the calls have made. -/
import Derived.Test.YtaenpajmgenjhaaDoorPpM
import Derived.Test.YtaenpajmgenjhaaDoorSdMc
import Derived.Test.YtaenpajmgenjhaaDoorSiMc
namespace Go.Proofs.YtaenpajmgenjhaaDoor
open Go Go.RowKit Go.Shelf

instance instMc : Inhabited Mc := ⟨⟨0, 0, ⟨0, 0, 0, 0⟩, 0⟩⟩
/-- The program's park in memory: its object in the block q, its row in a block of its own (R; q itself where there is none). -/
def PPk (w : World) (q R : Nat) (P : List Mc) : Prop :=
  ∃ v, w.heap[q]? = some (.cells #[v] 57 (0, 0)) ∧ OwnE encMc 45 w (q + 1) v P ∧ v.ownBlock.getD q = R
theorem PPk.on {w w' : World} {q R : Nat} {P : List Mc} (h : PPk w q R P) (hb : Below w.heap.size w w') : PPk w' q R P := by
  obtain ⟨v, h1, h2, h3⟩ := h
  exact ⟨v, (hb.block q (lt_of_row h1)).trans h1, h2.on hb, h3⟩
theorem PPk.lt {w : World} {q R : Nat} {P : List Mc} (h : PPk w q R P) : q < w.heap.size ∧ R < w.heap.size ∧ q ≤ R := by
  obtain ⟨v, h1, h2, h3⟩ := h
  have hq := lt_of_row h1
  cases hv : v.ownBlock with
  | none => rw [hv] at h3; simp at h3; omega
  | some k => rw [hv] at h3; simp at h3; have := h2.lt k hv; omega
theorem PPk.drewN {w : World} {q R : Nat} {P : List Mc} (h : PPk w q R P) (n : Nat) : PPk (w.drewN n) q R P := h
theorem PPk.alloc {w : World} {q R : Nat} {P : List Mc} (h : PPk w q R P) (o : Obj) : PPk (w.alloc o) q R P := h.on ((Below.refl _ _).alloc (Nat.le_refl _) _)

theorem new_c (w : World) : Calls Tryd.prog 7 #[] w fun e w' => e = .returned (.pointer (some ⟨w.heap.size, 0, none⟩)) ∧ PPk w' w.heap.size w.heap.size [] ∧ Below w.heap.size w w' := by
  go_enter Tryd.func7, Tryd.ntmps7
  go_wp2_with fail
  go_ret
  exact ⟨rfl, ⟨_, heap_alloc_new w _, OwnE.nil .., rfl⟩, by (repeat' (first | (with_reducible exact Below.refl _ _) | (with_reducible refine below_drewN ?_ _) | (with_reducible refine Below.drew ?_) | (with_reducible refine Below.alloc ?_ ?_ _) | (with_reducible refine Below.setCell ?_ ?_ _) | (with_reducible refine Below.trans ?_ (Below.mono (by with_reducible assumption) ?_)) | omega | (simp only [World.size_alloc] at *; omega) | (with_reducible refine Below.size (B := 0) ?_)))⟩
/-- The machines of a park. -/
theorem known_c (q : Nat) (v : Value) (w : World) (h : w.cell? ⟨q, 0, none⟩ = some v) (hv : ∃ A n c, v = .slice A n c) :
    Calls Tryd.prog 34 #[.pointer (some ⟨q, 0, none⟩)] w fun e w' => e = .returned v ∧ w' = w := by
  obtain ⟨A, n, c, rfl⟩ := hv
  go_enter Tryd.func34, Tryd.ntmps34
  go_wp2_with fail
  go_ret
  exact ⟨rfl, rfl⟩
theorem known_nil (w : World) :
    Calls Tryd.prog 34 #[.pointer none] w fun e w' => e = .returned (.slice none 0 0) ∧ w' = w := by
  go_enter Tryd.func34, Tryd.ntmps34
  go_wp2_with fail
  go_ret
  exact ⟨rfl, rfl⟩
/-- The comparison of find. -/
theorem fcmp_c (id : Int) (x : Mc) (W : World) :
    Calls Tryd.prog 38 #[.agg (encMc.enc x).toArray, .int .i64 id] W fun e w' => e = .returned (.int .i64 (cmpI x.id id)) ∧ Below W.heap.size W w' := by
  show Calls Tryd.prog 38 #[.agg #[.int .i64 x.id, .int .i64 x.cell, .int .i64 x.has.a, .int .i64 x.has.b, .int .i64 x.has.c, .int .i64 x.has.d, .int .i64 x.st], .int .i64 id] W _
  go_enter Tryd.func38, Tryd.ntmps38
  go_wp2_with (go_at_call 39; refine (compare_c _ _ _).mono ?_; rintro e w' ⟨rfl, rfl⟩)
  go_ret
  exact ⟨rfl, by (repeat' (first | (with_reducible exact Below.refl _ _) | (with_reducible refine below_drewN ?_ _) | (with_reducible refine Below.drew ?_) | (with_reducible refine Below.alloc ?_ ?_ _) | (with_reducible refine Below.setCell ?_ ?_ _) | (with_reducible refine Below.trans ?_ (Below.mono (by with_reducible assumption) ?_)) | omega | (simp only [World.size_alloc] at *; omega) | (with_reducible refine Below.size (B := 0) ?_)))⟩
theorem egF : ∀ args w, (callFunc 38 args).run Tryd.prog w = .ok (.enter 38 args) w := enters_of Tryd.func38 (by kernel_rfl) rfl
/-- The search in a row that ascends. -/
theorem bs_c (base : Nat) (v : Value) (P : List Mc) (id : Int) (w : World) (h : OwnE encMc 45 w base v P) (hG : P.Pairwise fun x y => x.id < y.id) (hn : P.length ≤ 1000000) :
    Calls Tryd.prog 37 #[v, .int .i64 id, .func (.func 38) #[] #[]] w fun e w' => e = .returned (.tuple #[.int .i64 (lowI P id : Nat), .bool (atP P id).isSome]) ∧ Below w.heap.size w w' := by
  have k := bsearch_Mc base v P w id (fun m => cmpI m.id id) 38 #[] egF (fun W x _ => by simpa using fcmp_c id x W) (fun a b x y hab hx hy hlt => by
    obtain ⟨ha, ea⟩ := List.getElem?_eq_some_iff.1 hx
    obtain ⟨hb, eb⟩ := List.getElem?_eq_some_iff.1 hy
    have hxy : x.id ≤ y.id := by
      rcases Nat.lt_or_ge a b with h1 | h1
      · have := List.pairwise_iff_getElem.1 hG a b ha hb h1
        rw [ea, eb] at this; omega
      · obtain rfl : a = b := by omega
        rw [hx] at hy; cases hy; omega
    show cmpI x.id id < 0
    have hl : cmpI y.id id < 0 := hlt
    rcases cmpI_cases x.id id with ⟨a1, b1⟩ | ⟨a1, b1⟩ | ⟨a1, b1⟩ <;> rcases cmpI_cases y.id id with ⟨a2, b2⟩ | ⟨a2, b2⟩ | ⟨a2, b2⟩ <;> omega) h hn
  obtain ⟨e1, e2⟩ := bsF_at hG id
  rw [e1, e2] at k
  exact k

set_option maxRecDepth 100000 in
set_option maxHeartbeats 1600000 in
/-- Where a machine is. -/
theorem find_c (q R : Nat) (P : List Mc) (id : Int) (w : World) (h : PPk w q R P) (hG : GP P) :
    Calls Tryd.prog 22 #[.pointer (some ⟨q, 0, none⟩), .int .i64 id] w fun e w' => e = .returned (.tuple #[.int .i64 (lowI P id : Nat), .bool (atP P id).isSome]) ∧ Below w.heap.size w w' := by
  obtain ⟨v, h1, h2, h3⟩ := h
  have HK := Lib.hid (known_c q v w (cell_of_heap h1 0) (by obtain ⟨A, c, e⟩ := h2.form; exact ⟨A, _, c, e⟩))
  have HB := Lib.hid (bs_c (q + 1) v P id w h2 hG.ord (by have := hG.len; omega))
  clear h1 h2 h3 hG
  generalize (lowI P id) = I at HB ⊢
  generalize (atP P id).isSome = F at HB ⊢
  go_enter Tryd.func22, Tryd.ntmps22
  go_wp2_with (first
    | (go_at_call 34; refine HK.out.mono ?_; rintro e w' ⟨rfl, rfl⟩)
    | (go_at_call 37; refine HB.out.mono ?_; rintro e w' ⟨rfl, hb⟩))
  go_ret2
  exact ⟨rfl, by (repeat' (first | (with_reducible exact Below.refl _ _) | (with_reducible refine below_drewN ?_ _) | (with_reducible refine Below.drew ?_) | (with_reducible refine Below.alloc ?_ ?_ _) | (with_reducible refine Below.setCell ?_ ?_ _) | (with_reducible refine Below.trans ?_ (Below.mono (by with_reducible assumption) ?_)) | omega | (simp only [World.size_alloc] at *; omega) | (with_reducible refine Below.size (B := 0) ?_)))⟩
theorem find_nil (id : Int) (w : World) :
    Calls Tryd.prog 22 #[.pointer none, .int .i64 id] w fun e w' => e = .returned (.tuple #[.int .i64 0, .bool false]) ∧ Below w.heap.size w w' := by
  have HB := Lib.hid (bs_c w.heap.size (.slice none 0 0) [] id w (OwnE.nil ..) List.Pairwise.nil (by simp))
  rw [show lowI [] id = 0 from rfl, show (atP [] id).isSome = false from rfl] at HB
  go_enter Tryd.func22, Tryd.ntmps22
  go_wp2_with (first
    | (go_at_call 34; refine (known_nil _).mono ?_; rintro e w' ⟨rfl, rfl⟩)
    | (go_at_call 37; refine HB.out.mono ?_; rintro e w' ⟨rfl, hb⟩))
  go_ret2
  exact ⟨rfl, by (repeat' (first | (with_reducible exact Below.refl _ _) | (with_reducible refine below_drewN ?_ _) | (with_reducible refine Below.drew ?_) | (with_reducible refine Below.alloc ?_ ?_ _) | (with_reducible refine Below.setCell ?_ ?_ _) | (with_reducible refine Below.trans ?_ (Below.mono (by with_reducible assumption) ?_)) | omega | (simp only [World.size_alloc] at *; omega) | (with_reducible refine Below.size (B := 0) ?_)))⟩
/-- All machines: a row of its own. -/
theorem all_c (q R : Nat) (P : List Mc) (w : World) (h : PPk w q R P) (hn : P.length ≤ 1000000) :
    Calls Tryd.prog 20 #[.pointer (some ⟨q, 0, none⟩)] w fun e w' => ∃ v', e = .returned v' ∧ OwnE encMc 45 w' w.heap.size v' P ∧ Below w.heap.size w w' := by
  obtain ⟨v, h1, h2, h3⟩ := h
  have HK := Lib.hid (known_c q v w (cell_of_heap h1 0) (by obtain ⟨A, c, e⟩ := h2.form; exact ⟨A, _, c, e⟩))
  have HB := Lib.hid (clone_Mc (q + 1) v P w h2 hn)
  clear h1 h2 h3 hn
  go_enter Tryd.func20, Tryd.ntmps20
  go_wp2_with (first
    | (go_at_call 34; refine HK.out.mono ?_; rintro e w' ⟨rfl, rfl⟩)
    | (go_at_call 33; refine HB.out.mono ?_; rintro e w' ⟨v', rfl, hv, hb⟩))
  go_ret
  exact ⟨_, rfl, hv, hb⟩
theorem all_nil (w : World) :
    Calls Tryd.prog 20 #[.pointer none] w fun e w' => ∃ v', e = .returned v' ∧ OwnE encMc 45 w' w.heap.size v' [] ∧ Below w.heap.size w w' := by
  have HB := Lib.hid (clone_Mc w.heap.size (.slice none 0 0) [] w (OwnE.nil ..) (by simp))
  go_enter Tryd.func20, Tryd.ntmps20
  go_wp2_with (first
    | (go_at_call 34; refine (known_nil _).mono ?_; rintro e w' ⟨rfl, rfl⟩)
    | (go_at_call 33; refine HB.out.mono ?_; rintro e w' ⟨v', rfl, hv, hb⟩))
  go_ret
  exact ⟨_, rfl, hv, hb⟩
/-- The predicate of List: is it of another cell? -/
theorem lpred_c (c : Int) (B : Nat) (x : Mc) (W : World) (hc : W.cell? ⟨B, 0, none⟩ = some (.int .i64 c)) :
    Calls Tryd.prog 32 #[.agg (encMc.enc x).toArray, .pointer (some ⟨B, 0, none⟩)] W fun e w' => e = .returned (.bool (x.cell != c)) ∧ Below W.heap.size W w' := by
  show Calls Tryd.prog 32 #[.agg #[.int .i64 x.id, .int .i64 x.cell, .int .i64 x.has.a, .int .i64 x.has.b, .int .i64 x.has.c, .int .i64 x.has.d, .int .i64 x.st], .pointer (some ⟨B, 0, none⟩)] W _
  have hB := lt_of_cell hc
  have hne : B ≠ W.heap.size := by have : B < W.heap.size := hB; omega
  go_enter Tryd.func32, Tryd.ntmps32
  go_wp2_with fail
  go_ret
  exact ⟨rfl, by (repeat' (first | (with_reducible exact Below.refl _ _) | (with_reducible refine below_drewN ?_ _) | (with_reducible refine Below.drew ?_) | (with_reducible refine Below.alloc ?_ ?_ _) | (with_reducible refine Below.setCell ?_ ?_ _) | (with_reducible refine Below.trans ?_ (Below.mono (by with_reducible assumption) ?_)) | omega | (simp only [World.size_alloc] at *; omega) | (with_reducible refine Below.size (B := 0) ?_)))⟩
theorem egL : ∀ args w, (callFunc 32 args).run Tryd.prog w = .ok (.enter 32 args) w := enters_of Tryd.func32 (by kernel_rfl) rfl
/-- The machines of a cell. -/
def inP (P : List Mc) (c : Int) : List Mc := P.filter fun m => m.cell == c
theorem inP_eq (P : List Mc) (c : Int) : (P.filter fun x => !(x.cell != c)) = inP P c := by unfold inP; congr 1; funext x; simp [bne]

set_option maxRecDepth 100000 in
set_option maxHeartbeats 1600000 in
theorem list_any (p : Value) (P : List Mc) (c : Int) (w : World) (hn : P.length ≤ 1000000)
    (hA : ∀ W, Below w.heap.size w W → Calls Tryd.prog 20 #[p] W fun e w' => ∃ v', e = .returned v' ∧ OwnE encMc 45 w' W.heap.size v' P ∧ Below W.heap.size W w') :
    Calls Tryd.prog 19 #[p, .int .i64 c] w fun e w' => ∃ v', e = .returned v' ∧ OwnE encMc 45 w' w.heap.size v' (inP P c) ∧ Below w.heap.size w w' := by
  obtain ⟨W1, hW1⟩ : ∃ W1, W1 = w.alloc (.cells #[.int .i64 c] 3) := ⟨_, rfl⟩
  have hb1 : Below w.heap.size w W1 := by rw [hW1]; exact (Below.refl _ _).alloc (Nat.le_refl _) _
  have hz1 : W1.heap.size = w.heap.size + 1 := by rw [hW1]; simp
  have hc1 : W1.heap[w.heap.size]? = some (.cells #[.int .i64 c] 3 (0, 0)) := by rw [hW1]; exact heap_alloc_new w _
  have HA := Lib.hid (hA W1 hb1)
  have HW1 := Lib.hid hW1
  have HB1 := Lib.hid hb1
  have HC1 := Lib.hid hc1
  clear hA hW1 hb1 hc1
  go_enter Tryd.func19, Tryd.ntmps19
  go_wp2_with fail
  rw [← HW1.out]
  refine HA.out.mono ?_
  rintro e w2 ⟨v2, rfl, hv2, hb2⟩
  have HD := Lib.hid (deleteFunc_Mc W1.heap.size v2 P w2 (fun x => x.cell != c) 32 #[.pointer (some ⟨w.heap.size, 0, none⟩)] egL (fun W x hk hsz => by
    refine lpred_c c w.heap.size x W ?_
    have hlt2 : w.heap.size < w2.heap.size := by have := hb2.size; omega
    have e1 : W.heap[w.heap.size]? = some (.cells #[.int .i64 c] 3 (0, 0)) := by
      rw [hk _ hlt2 (fun e => by have := (hv2.lt _ e).1; omega), hb2.block _ (by omega)]
      exact HC1.out
    exact cell_of_heap e1 0) hv2 hn)
  have HV2 := Lib.hid hv2
  clear hv2
  go_wp2_with (go_at_call 30; refine HD.out.mono ?_; rintro e w3 ⟨v3, rfl, hv3, hg3, _⟩)
  go_ret
  rw [inP_eq] at hv3
  refine ⟨_, rfl, hv3.base (by omega), ?_⟩
  exact (HB1.out.trans (hb2.mono (by omega))).grown hg3 (by have := hb2.size; omega) (fun k hk => by have := (HV2.out.lt k hk).1; omega)
theorem list_c (q R : Nat) (P : List Mc) (c : Int) (w : World) (h : PPk w q R P) (hn : P.length ≤ 1000000) :
    Calls Tryd.prog 19 #[.pointer (some ⟨q, 0, none⟩), .int .i64 c] w fun e w' => ∃ v', e = .returned v' ∧ OwnE encMc 45 w' w.heap.size v' (inP P c) ∧ Below w.heap.size w w' :=
  list_any _ P c w hn fun W hb => all_c q R P W (h.on hb) hn
theorem list_nil (c : Int) (w : World) :
    Calls Tryd.prog 19 #[.pointer none, .int .i64 c] w fun e w' => ∃ v', e = .returned v' ∧ OwnE encMc 45 w' w.heap.size v' [] ∧ Below w.heap.size w w' :=
  list_any _ [] c w (by simp) fun W _ => all_nil W
end Go.Proofs.YtaenpajmgenjhaaDoor
