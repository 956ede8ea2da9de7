/- Counts that go: the library's maps.DeleteFunc over a book's map, whatever the order in which the counts come; Expire and Drop by contracts. Condition: the book lies in memory as its map has it. -/
import Derived.Test.YtbfbhlpibclccaaDoorSqC
namespace Go.Proofs.YtbfbhlpibclccaaDoor
open Go Go.RowKit Go.Maps

section
variable {κ α : Type} [DecidableEq κ] {P : Program} {k : TypeId} {kv : κ → Value} {kl : κ → Lit} {ok : κ → Prop} {enc : α → Value}
/-- A range over a map that turns while it is ranged over; at most n entries. -/
def RangeH (P : Program) (k : TypeId) (kl : κ → Lit) (ok : κ → Prop) (enc : α → Value) (w : World) (b r n : Nat) (T : List (κ × α)) (left : κ → Bool) (cnt : Nat) : Prop :=
  ∃ (D : DataW Value) (lf : Lit → Bool), w.ranges P k raw b r n D lf cnt ∧ MeansG enc kl ok D T ∧ ∀ x, ok x → lf (kl x) = left x
theorem RangeG.toH {w : World} {b r cnt : Nat} {T : List (κ × α)} {left : κ → Bool} (h : RangeG P k kl ok enc w b r T left cnt) : RangeH P k kl ok enc w b r T.length T left cnt := h
variable {w : World} {b r n cnt : Nat} {T : List (κ × α)} {left : κ → Bool}
theorem RangeH.left_eq (h : RangeH P k kl ok enc w b r n T left cnt) : w.rangeLeft b r = cnt := by obtain ⟨D, lf, h, _⟩ := h; exact h.left_eq
theorem RangeH.map (h : RangeH P k kl ok enc w b r n T left cnt) : MapG P k kl ok enc w b T := by
  obtain ⟨D, lf, h, m, _⟩ := h
  exact ⟨D, own_fitG h.owns (Nat.le_of_eq m.size), m⟩
theorem RangeH.kept {w' : World} {row : Option Nat} (h : RangeH P k kl ok enc w b r n T left cnt) (hg : w.grownBy w' row) (hb' : some b ≠ row) (hr' : some r ≠ row) : RangeH P k kl ok enc w' b r n T left cnt := by obtain ⟨D, lf, h, m⟩ := h; exact ⟨D, lf, h.kept hg hb' hr', m⟩
theorem RangeH.lt (h : RangeH P k kl ok enc w b r n T left cnt) : b < w.heap.size ∧ r < w.heap.size := by obtain ⟨D, lf, h, _⟩ := h; exact ⟨h.owns.lt, h.lt⟩
variable (w) {ops : Array Oper} {rest : List Oper} {o : Oper} {a : Act} {Q : Exit → Act → World → Prop}
theorem wpList_nextH (K : KeyKit P k kv kl ok) (hg : o.guard = none) (it : Operand) (hop : o.op = Op.next it false) (enc : α → Value) (b r n : Nat) (T : List (κ × α)) (left : κ → Bool) (cnt : Nat)
    (hit : a.eval it = .pointer (some ⟨r, 0, none⟩)) (h : RangeH P k kl ok enc w b r n T left cnt)
    (hDone : cnt = 0 → (∀ x, ok x → left x = false) → wpList P ops Q rest (a.put o.dst (.tuple #[.bool false])) w)
    (hMore : ∀ (x : κ) (v : α) (w' : World) (cnt' : Nat), ok x → left x = true → look T x = some v → RangeH P k kl ok enc w' b r n T (fun z => left z && !decide (z = x)) cnt' → cnt' < cnt →
      w.grownBy w' (some r) → w'.heap.size = w.heap.size → (Instr.entry (.pointer (some ⟨r, 0, none⟩))).run P w' = .ok (.tuple #[kv x, enc v]) w' → wpList P ops Q rest (a.put o.dst (.tuple #[.bool true, kv x, enc v])) w') :
    wpList P ops Q (o :: rest) a w := by
  obtain ⟨D, lf, hrg, hme, hlf⟩ := h
  refine wpList_next_ranges w hg it hop k K.keyed raw kv id (fun key kl' hkey => by obtain ⟨x, _, hx⟩ := K.inv hkey; exact ⟨x, hx⟩) (fun v _ _ => ⟨v, rfl⟩)
    b r n D lf cnt hit hrg (fun hc hl => hDone hc fun x hx => by rw [← hlf x hx]; exact hl _) (fun x c kl' y w' cnt' hkey hlk hv hat hrg' hlt hgr hsz hen => ?_)
  obtain ⟨x', hx', ex, rfl⟩ := K.invl hkey
  obtain rfl := K.vinj ex
  have h1 := has_true_of_atKey hat
  rw [hme.has x hx'] at h1
  obtain ⟨v, hv'⟩ := Option.isSome_iff_exists.1 h1
  have h2 := (hme.at_ x hx' .nil).symm.trans (hat .nil)
  rw [hv'] at h2
  have h3 : y = (.held c, []) := (Option.some.inj hv).symm
  rw [h3] at h2
  have h4 : enc v = c := DataW.held.inj h2
  rw [id, ← h4] at hen ⊢
  exact hMore x v w' cnt' hx' (by rw [← hlf x hx']; exact hlk) hv' ⟨D, _, hrg', hme, fun z hz => by rw [hlf z hz, K.same hz hx']⟩ hlt hgr hsz hen
theorem wpList_delH (K : KeyKit P k kv kl ok) (hg : o.guard = none) (m x : Operand) (t : TypeId) (hop : o.op = Op.call { callee := Callee.builtin Builtin.delete, args := #[m, x], argTypes := #[t, k] }) (e : TypeId) (ht : P.underlying t = some (.map k e))
    (enc : α → Value) (b r n : Nat) (T : List (κ × α)) (left : κ → Bool) (cnt : Nat) (hm : a.eval m = .map (some b)) (h : RangeH P k kl ok enc w b r n T left cnt) (y : κ) (hx : a.eval x = kv y) (hy : ok y)
    (hK : ∀ w' cnt', RangeH P k kl ok enc w' b r n (strike T y) (fun z => left z && !decide (z = y)) cnt' → cnt' ≤ cnt → w.grownBy w' (some b) → wpList P ops Q rest (a.put o.dst (.tuple #[])) w') : wpList P ops Q (o :: rest) a w := by
  obtain ⟨D, lf, hrg, hme, hlf⟩ := h
  refine wpList_delete_ranges w hg m x t k hop e K.keyed ht raw b r n D lf cnt hm hrg _ _ hx (K.of hy) fun w' cnt' hrg' hle hturn => ?_
  exact hK w' cnt' ⟨_, _, hrg', hme.del K (hrg.owns.tidy K.keyed) hy, fun z hz => by rw [hlf z hz, K.same hz hy]⟩ hle hturn.grown
end

section
variable {κ α : Type}
/-- What is there while the range goes on. -/
def fkQ (pd : κ → Bool) (T : List (κ × α)) (left : κ → Bool) : List (κ × α) := T.filter fun p => !pd p.1 || left p.1
theorem fkQ_start (pd : κ → Bool) {T : List (κ × α)} {left : κ → Bool} (h : ∀ p ∈ T, left p.1 = true) : fkQ pd T left = T := List.filter_eq_self.2 fun p hp => by rw [h p hp]; simp
theorem fkQ_end (pd : κ → Bool) {T : List (κ × α)} {left : κ → Bool} (h : ∀ p ∈ T, left p.1 = false) : fkQ pd T left = T.filter fun p => !pd p.1 := List.filter_congr fun p hp => by rw [h p hp]; simp
end
section
variable {κ α : Type} [DecidableEq κ]
theorem strike_filter (T : List (κ × α)) (x : κ) : strike T x = T.filter fun p => !decide (p.1 = x) := by
  induction T with
  | nil => rfl
  | cons p T ih =>
    obtain ⟨a, v⟩ := p
    rw [strike_cons]
    by_cases e : x = a
    · subst e; rw [if_pos rfl, ih]; simp
    · have : ¬ a = x := fun k => e k.symm
      rw [if_neg e, ih]; simp [this]
theorem fkQ_stays (pd : κ → Bool) (T : List (κ × α)) (left : κ → Bool) {x : κ} (hp : pd x = false) : fkQ pd T (fun z => left z && !decide (z = x)) = fkQ pd T left := List.filter_congr fun p _ => by
  by_cases e : p.1 = x
  · rw [e, hp]; simp
  · simp [e]
theorem fkQ_struck (pd : κ → Bool) (T : List (κ × α)) (left : κ → Bool) {x : κ} (hp : pd x = true) : strike (fkQ pd T left) x = fkQ pd T (fun z => left z && !decide (z = x)) := by
  rw [strike_filter]
  unfold fkQ
  rw [List.filter_filter]
  refine List.filter_congr fun p _ => ?_
  by_cases e : p.1 = x
  · rw [e, hp]; simp
  · simp [e]
end
theorem grown_none {w w' : World} (h : Below w.heap.size w w') : w.grownBy w' none := ⟨h.os, h.tape, h.output, h.size, fun i hi _ => h.block i hi⟩
theorem below_grown {w w' : World} (h : w.grownBy w' none) : Below w.heap.size w w' := (Below.refl _ _).grown h (Nat.le_refl _) fun k e => by cases e

set_option maxRecDepth 100000 in
set_option maxHeartbeats 3200000 in
/-- maps.DeleteFunc. -/
theorem sdelf_c (pd : K2 → Bool) (g : Nat) (cb : Array Value) (b : Nat) (T : List (K2 × Ct)) (w : World) (eg : ∀ args w, (callFunc g args).run Tryd.prog w = .ok (.enter g args) w) (hown : MapG Tryd.prog 124 klQ okQ encCv w b T)
    (hdel : ∀ (W : World) (k : K2) (v : Ct), w.grownBy W (some b) → okQ k → Calls Tryd.prog g (#[kvQ k, encCv v] ++ cb) W fun e w' => e = .returned (.bool (pd k)) ∧ Below W.heap.size W w') :
    Calls Tryd.prog 70 #[.map (some b), .func (.func g) #[] cb] w fun e w' => e = .returned (.tuple #[]) ∧ MapG Tryd.prog 124 klQ okQ encCv w' b (T.filter fun p => !pd p.1) ∧ w.grownBy w' (some b) := by
  have HD := Lib.hid hdel
  have HKS := Lib.hid hown.keys
  have hbl := hown.lt
  clear hdel
  go_enter Tryd.func70, Tryd.ntmps70
  go_wp2_with (at_range; refine wpList_rangeG _ kitQ rfl _ 118 rfl 85 Tryd.underlying118 encCv b T rfl hown ?_; intro w0 left hrg0 hl0 hg0 hs0)
  obtain ⟨r, hr⟩ : ∃ r, w.heap.size = r := ⟨_, rfl⟩
  have hbr : b ≠ r := by omega
  have HR := Lib.hid hr
  obtain ⟨n, hn⟩ : ∃ n, T.length = n := ⟨_, rfl⟩
  have hrh := hrg0.toH
  rw [hr, hn] at hrh
  rw [hr]
  have HL0 : Hid (∀ p ∈ T, left p.1 = true) := Lib.hid fun p hp => by
    rw [hl0 p.1 (HKS.out p hp)]
    exact look_keys.2 (List.mem_map.2 ⟨p, hp, rfl⟩)
  have HRH := Lib.hid hrh
  have HG0 := Lib.hid hg0
  have HBR := Lib.hid hbr
  clear hr hn hrh hrg0 hl0 hg0 hs0 hown hbl hbr
  go_frame
  go_loopw [4, 5] (fun _ _ wr => ∃ (left : K2 → Bool) (cnt : Nat), RangeH Tryd.prog 124 klQ okQ encCv wr b r n (fkQ pd T left) left cnt ∧ w.grownBy wr (some b))
    (fun _ _ wr => wr.rangeLeft b r)
  case atStart => exact ⟨left, _, by rw [fkQ_start pd HL0.out]; exact HRH.out, HG0.out.but _⟩
  case round =>
    obtain ⟨left, cnt, hrg, hgw⟩ := hrel
    clear HRH HG0 HL0
    have HRG := Lib.hid hrg; have HGW := Lib.hid hgw
    clear hgw
    go_wp2_with (at_next; refine wpList_nextH _ kitQ rfl _ rfl encCv b r n _ _ _ rfl hrg ?_ ?_)
    · intro _ hl0
      clear hrg
      go_wp2
      go_end0
      exact ⟨rfl, by rw [← fkQ_end pd (T := T) (left := left) fun p hp => hl0 _ (HKS.out p hp)]; exact HRG.out.map, HGW.out⟩
    · intro x v w1 cnt1 hxo hlk hat hrg1 hlt hg1 hs1 hen
      have hgw1 := HGW.out.andThen hg1 (fun j hj => by cases hj; exact Or.inl (Nat.le_of_eq HR.out))
      have HW1 := Lib.hid hgw1; have HR1 := Lib.hid hrg1; have HXO := Lib.hid hxo; have HLT := Lib.hid hlt; have HLK := Lib.hid hlk
      clear hgw1 hrg1 hlt hlk hat hg1 hs1 hrg
      unfold kvQ encCv at hen ⊢
      obtain ⟨W3, hW3⟩ : ∃ W3, (w1.alloc (.cells #[.int .i64 x.job, .int .i64 x.win] 124)).alloc (.cells #[.int .i64 v.job, .int .i64 v.win, .int .i64 v.free, .int .i64 v.forced] 85) = W3 := ⟨_, rfl⟩
      obtain ⟨X, hX⟩ : ∃ X, w1.heap.size = X := ⟨_, rfl⟩
      have hx3 : W3.heap[X]? = some (.cells #[.int .i64 x.job, .int .i64 x.win] 124 (0, 0)) := by
        rw [← hW3, ← hX]; exact (Below.heap_alloc _ _ _ (by simp)).trans (heap_alloc_new w1 _)
      have hy3 : W3.heap[X + 1]? = some (.cells #[.int .i64 v.job, .int .i64 v.win, .int .i64 v.free, .int .i64 v.forced] 85 (0, 0)) := by
        have := heap_alloc_new (w1.alloc (.cells #[.int .i64 x.job, .int .i64 x.win] 124)) (.cells #[.int .i64 v.job, .int .i64 v.win, .int .i64 v.free, .int .i64 v.forced] 85)
        rw [World.size_alloc, hW3, hX] at this; exact this
      have hb3 : Below w1.heap.size w1 W3 := by rw [← hW3]; exact ((Below.refl _ _).alloc (Nat.le_refl _) _).alloc (by simp) _
      have hg3 := grown_none hb3
      have hgw3 := HW1.out.andThen hg3 (fun j hj => by cases hj)
      have HR3 := Lib.hid (HR1.out.kept hg3 (by simp) (by simp))
      have HGW3 := Lib.hid hgw3
      have hc := HD.out W3 x v hgw3 hxo
      have HX3 := Lib.hid hx3; have HW3 := Lib.hid hW3; have HX := Lib.hid hX; have HY3 := Lib.hid hy3
      unfold kvQ encCv at hc
      have HC := Lib.hid hc
      clear hx3 hy3 hb3 hg3 hgw3 hW3 hX hc hxo
      go_upto_region 3 with fail
      rw [HW3.out, HX.out]
      have x0 := cell_of_heap HX3.out 0
      have x1 := cell_of_heap HX3.out 1
      have y0 := cell_of_heap HY3.out 0
      have y1 := cell_of_heap HY3.out 1
      have y2 := cell_of_heap HY3.out 2
      have y3 := cell_of_heap HY3.out 3
      simp at x0 x1 y0 y1 y2 y3
      clear hen
      have HAFT : Hid (∀ w2, Below W3.heap.size W3 w2 → RangeH Tryd.prog 124 klQ okQ encCv w2 b r n (fkQ pd T left) (fun z => left z && !decide (z = x)) cnt1 ∧ w.grownBy w2 (some b) ∧ w2.cell? ⟨X, 0, none⟩ = some (.int .i64 x.job) ∧ w2.cell? ⟨X, 1, none⟩ = some (.int .i64 x.win)) := Lib.hid fun w2 hb2 => by
        have hg2 := grown_none hb2
        have hx2 := (hb2.block X (lt_of_row HX3.out)).trans HX3.out
        exact ⟨HR3.out.kept hg2 (by simp) (by simp), HGW3.out.andThen hg2 (fun j hj => by cases hj), cell_of_heap hx2 0, cell_of_heap hx2 1⟩
      cases hp : pd x with
      | false =>
        rw [hp] at HC
        have HP := Lib.hid hp
        clear hp
        go_wp2_with (go_at_fn g; refine HC.out.mono ?_; rintro e w2 ⟨rfl, hb2⟩; obtain ⟨hr2, hgw2, -, -⟩ := HAFT.out w2 hb2; have HR2 := Lib.hid hr2; have HGW2 := Lib.hid hgw2; clear x0 x1 y0 y1 y2 y3 hr2 hgw2 hb2)
        go_roundw
        case rel => exact ⟨_, cnt1, by rw [fkQ_stays pd T left HP.out]; exact HR2.out, HGW2.out⟩
        case measure => rw [HR2.out.left_eq, HRG.out.left_eq]; exact HLT.out
      | true =>
        rw [hp] at HC
        have HP := Lib.hid hp
        clear hp
        go_wp2_with (first
          | (go_at_fn g; refine HC.out.mono ?_; rintro e w2 ⟨rfl, hb2⟩; obtain ⟨hr2, hgw2, z0, z1⟩ := HAFT.out w2 hb2; have hrg2 := hr2; have HGW2 := Lib.hid hgw2; clear x0 x1 y0 y1 y2 y3 hr2 hgw2 hb2)
          | (at_delete; refine wpList_delH _ kitQ rfl _ _ 118 rfl 85 Tryd.underlying118 encCv b r n _ _ _ rfl hrg2 x rfl HXO.out ?_; intro w5 cnt5 hrg5 hle5 hg5; go_frame; have HR5 := Lib.hid hrg5; have HLE := Lib.hid hle5; have HG5 := Lib.hid (HGW2.out.andThen hg5 (fun j hj => by cases hj; exact Or.inr rfl)); clear hrg2 hrg5 hle5 hg5 z0 z1))
        go_roundw
        case rel =>
          have h5 := HR5.out
          have e1 : (fun z : K2 => (left z && !decide (z = x)) && !decide (z = x)) = fun z => left z && !decide (z = x) := by funext z; cases left z <;> cases decide (z = x) <;> rfl
          rw [fkQ_struck pd T left HP.out, e1] at h5
          exact ⟨fun z => left z && !decide (z = x), cnt5, h5, HG5.out⟩
        case measure => rw [HR5.out.left_eq, HRG.out.left_eq]; exact Nat.lt_of_le_of_lt HLE.out HLT.out
set_option maxRecDepth 100000 in
set_option maxHeartbeats 1000000 in
theorem sdelf_nil (fv : Value) (w : World) : Calls Tryd.prog 70 #[.map none, fv] w fun e w' => e = .returned (.tuple #[]) ∧ Below w.heap.size w w' := by
  have hrg := run_range_nilMap (P := Tryd.prog) w 118 124 85 Tryd.underlying118
  have hnx : ∀ ty, (Instr.next (.pointer (some ⟨w.heap.size, 0, none⟩)) false ty).run Tryd.prog (w.alloc (.mapIter none 0 #[] 0)) = _ := fun ty => run_next_nilMap _ ty 0 0 #[]
  have HB : Hid (Below w.heap.size w (w.alloc (.mapIter none 0 #[] 0))) := Lib.hid ((Below.refl _ _).alloc (Nat.le_refl _) _)
  go_enter Tryd.func70, Tryd.ntmps70
  go_wp2
  refine wp_loop_rounds 1 ?_
  rw [rounds_succ]
  go_wp2
  go_end0
  exact ⟨rfl, HB.out⟩
end Go.Proofs.YtbfbhlpibclccaaDoor
