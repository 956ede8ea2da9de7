/- The program's book of envelopes by contracts: Take. Conditions: the book lies in memory as its maps have it; the sentinels lie where the program's text lays them. -/
import Derived.Test.YtfikkjdkgigikaaDoorAlE
import Derived.Test.YtfikkjdkgigikaaDoorRgo
namespace Go.Proofs.YtfikkjdkgigikaaDoor
open Go Go.RowKit Go.Maps

/-- A seat in a block of its own, while one other block may turn. -/
structure SeS (W3 : World) (g gE : Nat) (x : SeatR) (W : World) : Prop where
  seat : W.heap[g]? = some (.cells #[.int .i64 x.set, .int .i64 x.pos, .int .i64 x.need.a, .int .i64 x.need.b, .int .i64 x.need.c, .int .i64 x.need.d] 86 (0, 0))
  chg : ChP (fun k => k = gE) W3 W
theorem SeS.cells {W3 W : World} {g gE : Nat} {x : SeatR} (h : SeS W3 g gE x W) : W.cell? ⟨g, 0, none⟩ = some (.int .i64 x.set) ∧ W.cell? ⟨g, 1, none⟩ = some (.int .i64 x.pos) ∧ W.cell? ⟨g, 2, none⟩ = some (.int .i64 x.need.a) ∧ W.cell? ⟨g, 3, none⟩ = some (.int .i64 x.need.b) ∧ W.cell? ⟨g, 4, none⟩ = some (.int .i64 x.need.c) ∧ W.cell? ⟨g, 5, none⟩ = some (.int .i64 x.need.d) :=
  ⟨cell_of_heap h.seat 0, cell_of_heap h.seat 1, cell_of_heap h.seat 2, cell_of_heap h.seat 3, cell_of_heap h.seat 4, cell_of_heap h.seat 5⟩
theorem SeS.on {W3 W W' : World} {g gE : Nat} {x : SeatR} (h : SeS W3 g gE x W) (hb : Below W.heap.size W W') : SeS W3 g gE x W' := ⟨(hb.block g (lt_of_row h.seat)).trans h.seat, h.chg.then hb⟩
theorem SeS.off {W3 W : World} {g gE o : Nat} {x : SeatR} (h : SeS W3 g gE x W) (hne : g ≠ gE) (v : Value) : SeS W3 g gE x (W.setCell ⟨gE, o, none⟩ v) := ⟨(heap_setCell_other _ _ _ _ hne).trans h.seat, h.chg.setCell (.inl rfl) _⟩

theorem tkA_take (G : AG) (t u : Tk) : tkA (takeG G t) u = if u = t then none else tkA G u := find_filter InA.tk t u
theorem left_take {G : AG} (h : GA G) {x : InA} (hx : x ∈ G.tasks) (z : SetA) (j : Int) : leftA (takeG G x.tk) z j = if z.id = x.set ∧ j = x.pos then pv (leftA G z j) x.need else leftA G z j := by
  apply comp_ext; intro r
  have e : (takeG G x.tk).tasks.filter (inE z.id j) = (G.tasks.filter (inE z.id j)).filter fun y => !decide (y.tk = x.tk) := by
    unfold takeG
    simp only [List.filter_filter]
    congr 1; funext a; rw [Bool.and_comm]
  rw [comp_left, e]
  split
  · rename_i k
    have hm : x ∈ G.tasks.filter (inE z.id j) := List.mem_filter.2 ⟨hx, by simp [inE, k.1, k.2]⟩
    rw [needN_less r (h.tks.filter _) hm, comp_pv, comp_left]; omega
  · rename_i k
    rw [comp_left]
    congr 2
    refine List.filter_eq_self.2 fun y hy => ?_
    obtain ⟨hy1, hy2⟩ := List.mem_filter.1 hy
    simp only [Bool.not_eq_true', decide_eq_false_iff_not]
    intro e2
    have e3 : tkA G x.tk = some x := (tk_iff h).2 ⟨hx, rfl⟩
    have e4 : tkA G x.tk = some y := (tk_iff h).2 ⟨hy1, e2⟩
    rw [e3] at e4
    obtain rfl := Option.some.inj e4
    simp only [inE, Bool.and_eq_true, decide_eq_true_eq] at hy2
    exact k ⟨hy2.1.symm, hy2.2.symm⟩
section
variable {w : World} {P : Nat → Prop} {q b1 b2 : Nat} {T1 : List (Int × Option (Nat × Nat))} {T2 : List (Tk × SeatR)} {bl : Int → Nat} {G : AG}
/-- A task is taken out of the envelope that it is inside. -/
theorem AlP.took (h : AlP w P q b1 b2 T1 T2 bl G) {x : InA} {s : SetA} {k : Nat} (hx : x ∈ G.tasks) (e : setA G x.set = some s) (hk : x.pos = (k : Int)) (_hkn : k < s.n) {w6 w9 : World} (hc : ∀ j, j < w.heap.size → j ≠ bl x.set → w6.heap[j]? = w.heap[j]?) (hz : w.heap.size ≤ w6.heap.size)
    (hrow : OwnE encEnv 84 w6 0 (.slice (some ⟨bl x.set, 0, none⟩) s.n s.n) ((envs G s).set k ⟨s.up k, pv (leftA G s k) x.need⟩)) (hm : SeatsAt w9 b2 (strike T2 x.tk)) (hg : w6.grownBy w9 (some b2)) :
    AlP w9 P q b1 b2 T1 (strike T2 x.tk) bl (takeG G x.tk) := by
  have hb2 := h.r2 e
  have hid := set_id h.good e
  have hl6 : ∀ j, P j → j < w6.heap.size := fun j hj => Nat.lt_of_lt_of_le (h.old j hj) hz
  refine h.upd (G' := takeG G x.tk) (s' := s) e (Nat.le_trans hz hg.size) (fun j hj h2 h3 => (hg.block j (hl6 j hj) (by simpa using h2)).trans (hc j (h.old j hj) h3)) hm e rfl ?_ (fun _ _ => rfl) (fun j z hj hz => ?_) (fun u => ?_) ?_
  · have he : envs (takeG G x.tk) s = (envs G s).set k ⟨s.up k, pv (leftA G s k) x.need⟩ := by
      refine envs_set rfl ⟨rfl, ?_⟩ fun j hj => ⟨rfl, ?_⟩
      · rw [left_take h.good hx, if_pos ⟨hid, hk.symm⟩]
      · rw [left_take h.good hx, if_neg]
        rintro ⟨_, k2⟩; rw [hk] at k2; omega
    rw [he]
    refine hrow.same fun i hi => ?_
    simp [Value.ownBlock] at hi; subst hi
    exact hg.block _ (hl6 _ (h.pr _ _ e)) (by simpa using hb2)
  · refine envs_ext rfl fun i _ => ⟨rfl, ?_⟩
    rw [left_take h.good hx, if_neg]
    rintro ⟨k1, _⟩
    exact hj ((set_id h.good hz).symm.trans k1)
  · rw [look_strike, tkA_take]
    split
    · rfl
    · exact h.seats u
  · have := h.good.take x.tk
    unfold takeA at this
    rw [if_neg (by rw [(tk_iff h.good).2 ⟨hx, rfl⟩]; simp)] at this
    exact this
theorem AlP.lk1 (h : AlP w P q b1 b2 T1 T2 bl G) {id : Int} (hid : i64 id) {s : SetA} (e : setA G id = some s) {ad : Addr} (had : ad = ⟨bl id, 0, none⟩) :
    (Instr.lookup 74 (.map (some b1)) (.int .i64 id) false).run Tryd.prog w = .ok (.slice (some ad) s.n s.n) w := by
  have := run_lookG kitI Tryd.underlying74 (z := none) (Tryd.zeroSl w) h.m1 hid
  rw [h.hit e] at this
  rw [had]; exact this

set_option maxRecDepth 100000 in
set_option maxHeartbeats 3200000 in
/-- Book.Take: the task is inside none. -/
theorem atake_no (s : Nat → Addr) (h : AlP w P q b1 b2 T1 T2 bl G) (hs : SentP s P w) {t : Tk} (ht : okT t) (hn : tkA G t = none) :
    Calls Tryd.prog 18 #[.pointer (some ⟨q, 0, none⟩), .agg #[.int .i64 t.job, .int .i64 t.ix]] w fun e w' => e = .returned (errV s 5) ∧ Below w.heap.size w w' := by
  obtain ⟨x, hx⟩ : ∃ x, seatA G t = x := ⟨_, rfl⟩
  have hb : (tkA G t).isSome = false := by rw [hn]; rfl
  obtain ⟨X, hX⟩ : ∃ X, w.heap.size = X := ⟨_, rfl⟩
  obtain ⟨W1, hW1⟩ : ∃ W1, w.alloc (.cells #[.int .i64 t.job, .int .i64 t.ix] 32) = W1 := ⟨_, rfl⟩
  have k1 : W1.heap[X]? = some (.cells #[.int .i64 t.job, .int .i64 t.ix] 32 (0, 0)) := by rw [← hW1, ← hX]; exact heap_alloc_new _ _
  have hb1 : Below w.heap.size w W1 := by rw [← hW1]; exact (Below.refl _ _).alloc (Nat.le_refl _) _
  have hXW : X < W1.heap.size := lt_of_row k1
  have h1 := h.on hb1
  have HC : Hid (∀ W, Below W1.heap.size W1 W → (W.cell? ⟨X, 0, none⟩ = some (.int .i64 t.job) ∧ W.cell? ⟨X, 1, none⟩ = some (.int .i64 t.ix) ∧ W.cell? ⟨q, 1, none⟩ = some (.map (some b2)) ∧ (Instr.lookup 75 (.map (some b2)) (.agg #[.int .i64 t.job, .int .i64 t.ix]) true).run Tryd.prog W = .ok (.tuple #[.agg #[.int .i64 x.set, .int .i64 x.pos, .int .i64 x.need.a, .int .i64 x.need.b, .int .i64 x.need.c, .int .i64 x.need.d], .bool false]) W)) := Lib.hid fun W hW => ⟨cell_of_heap ((hW.block X hXW).trans k1) 0, cell_of_heap ((hW.block X hXW).trans k1) 1, cell_of_heap (h1.on hW).box 1, (h1.on hW).lk2 ht hx hb⟩
  have e4 := (hs.on hb1).here.cell 4 (by omega)
  simp only [gnum, List.getD_cons_zero, List.getD_cons_succ] at e4
  have E4 := Lib.hid e4
  have HX := Lib.hid hX; have HB1 := Lib.hid hb1; have HW1 := Lib.hid hW1
  rw [errA s 5 (by omega)]
  clear h hs ht hn hx hb hX hW1 k1 hb1 hXW h1 e4
  go_enter Tryd.func18, Tryd.ntmps18
  go_wp2_with fail
  rw [HW1.out, HX.out]
  go_region_held3 (fun W => W.cell? ⟨X, 0, none⟩ = some (.int .i64 t.job) ∧ W.cell? ⟨X, 1, none⟩ = some (.int .i64 t.ix) ∧ W.cell? ⟨q, 1, none⟩ = some (.map (some b2)) ∧ (Instr.lookup 75 (.map (some b2)) (.agg #[.int .i64 t.job, .int .i64 t.ix]) true).run Tryd.prog W = .ok (.tuple #[.agg #[.int .i64 x.set, .int .i64 x.pos, .int .i64 x.need.a, .int .i64 x.need.b, .int .i64 x.need.c, .int .i64 x.need.d], .bool false]) W)
    (first | exact HC.out _ (by (repeat' (first | (with_reducible exact Below.refl _ _) | (with_reducible refine below_drewN ?_ _) | (with_reducible refine Below.drew ?_) | (with_reducible refine Below.alloc ?_ ?_ _) | (with_reducible refine Below.setCell ?_ ?_ _) | (with_reducible refine Below.trans ?_ (Below.mono (by with_reducible assumption) ?_)) | omega | (simp only [World.size_alloc, World.size_setCell, World.size_drew, Go.Proofs.YtfikkjdkgigikaaDoor.World.size_drewN] at *; omega) | (with_reducible refine Below.size (B := 0) ?_)))))
    (fail)
  all_goals
    obtain ⟨W3, hW3⟩ : ∃ W3, (W1.alloc (.cells #[.int .i64 x.set, .int .i64 x.pos, .int .i64 x.need.a, .int .i64 x.need.b, .int .i64 x.need.c, .int .i64 x.need.d] 86)).drew = W3 := ⟨_, rfl⟩
    have hb3 : Below W1.heap.size W1 W3 := by rw [← hW3]; exact ((Below.refl _ _).alloc (Nat.le_refl _) _).drew
    have e4 : W3.cell? ⟨4, 0, none⟩ = some (.iface 161 (.pointer (some (s 4)))) := (hb3.cell (lt_of_cell E4.out)).trans E4.out
    rw [hW3]
    clear hW3
    have hb1 := HB1.out
    go_wp2_with fail
    go_ret
    exact ⟨rfl, by rw [← HX.out] at *; (repeat' (first | (with_reducible exact Below.refl _ _) | (with_reducible refine below_drewN ?_ _) | (with_reducible refine Below.drew ?_) | (with_reducible refine Below.alloc ?_ ?_ _) | (with_reducible refine Below.setCell ?_ ?_ _) | (with_reducible refine Below.trans ?_ (Below.mono (by with_reducible assumption) ?_)) | omega | (simp only [World.size_alloc, World.size_setCell, World.size_drew, Go.Proofs.YtfikkjdkgigikaaDoor.World.size_drewN] at *; omega) | (with_reducible refine Below.size (B := 0) ?_)))⟩

set_option maxRecDepth 100000 in
set_option maxHeartbeats 6400000 in
/-- Book.Take: the task is inside one. -/
theorem atake_ok (s : Nat → Addr) (h : AlP w P q b1 b2 T1 T2 bl G) (hs : SentP s P w) {t : Tk} (ht : okT t) {x0 : InA} (hn : tkA G t = some x0) :
    Calls Tryd.prog 18 #[.pointer (some ⟨q, 0, none⟩), .agg #[.int .i64 t.job, .int .i64 t.ix]] w fun e w' => e = .returned (errV s 0) ∧ AlP w' P q b1 b2 T1 (strike T2 t) bl (takeG G t) ∧ ChP P w w' := by
  obtain ⟨hx0, hx1⟩ := (tk_iff h.good).1 hn
  subst hx1
  obtain ⟨hg0, sA, hsA, hp0, hp1, hup⟩ := h.good.task x0 hx0
  obtain ⟨k, hk⟩ : ∃ k : Nat, x0.pos = (k : Int) := ⟨x0.pos.toNat, by omega⟩
  have hkn : k < sA.n := by omega
  have hset := h.good.set sA (set_mem h.good hsA)
  have hid := set_id h.good hsA
  have hi64 : i64 x0.set := by unfold i64; omega
  obtain ⟨x, hx⟩ : ∃ x : SeatR, x = ⟨x0.set, (k : Int), x0.need⟩ := ⟨_, rfl⟩
  have hxs : seatA G x0.tk = x := by unfold seatA; rw [hn, hx, ← hk]; rfl
  have hb : (tkA G x0.tk).isSome = true := by rw [hn]; rfl
  obtain ⟨t, htt⟩ : ∃ t, x0.tk = t := ⟨_, rfl⟩
  rw [htt] at ht hxs hb ⊢
  obtain ⟨X, hX⟩ : ∃ X, w.heap.size = X := ⟨_, rfl⟩
  obtain ⟨W1, hW1⟩ : ∃ W1, w.alloc (.cells #[.int .i64 t.job, .int .i64 t.ix] 32) = W1 := ⟨_, rfl⟩
  have k1 : W1.heap[X]? = some (.cells #[.int .i64 t.job, .int .i64 t.ix] 32 (0, 0)) := by rw [← hW1, ← hX]; exact heap_alloc_new _ _
  have hb1 : Below w.heap.size w W1 := by rw [← hW1]; exact (Below.refl _ _).alloc (Nat.le_refl _) _
  have hXW : X < W1.heap.size := lt_of_row k1
  have h1 := h.on hb1
  have HC : Hid (∀ W, Below W1.heap.size W1 W → (W.cell? ⟨X, 0, none⟩ = some (.int .i64 t.job) ∧ W.cell? ⟨X, 1, none⟩ = some (.int .i64 t.ix) ∧ W.cell? ⟨q, 1, none⟩ = some (.map (some b2)) ∧ (Instr.lookup 75 (.map (some b2)) (.agg #[.int .i64 t.job, .int .i64 t.ix]) true).run Tryd.prog W = .ok (.tuple #[.agg #[.int .i64 x.set, .int .i64 x.pos, .int .i64 x.need.a, .int .i64 x.need.b, .int .i64 x.need.c, .int .i64 x.need.d], .bool true]) W)) := Lib.hid fun W hW => ⟨cell_of_heap ((hW.block X hXW).trans k1) 0, cell_of_heap ((hW.block X hXW).trans k1) 1, cell_of_heap (h1.on hW).box 1, (h1.on hW).lk2 ht hxs hb⟩
  obtain ⟨Y, hY⟩ : ∃ Y, W1.heap.size = Y := ⟨_, rfl⟩
  obtain ⟨W3, hW3⟩ : ∃ W3, (W1.alloc (.cells #[.int .i64 x.set, .int .i64 x.pos, .int .i64 x.need.a, .int .i64 x.need.b, .int .i64 x.need.c, .int .i64 x.need.d] 86)).drew = W3 := ⟨_, rfl⟩
  have hb3 : Below W1.heap.size W1 W3 := by rw [← hW3]; exact ((Below.refl _ _).alloc (Nat.le_refl _) _).drew
  have k3 : W3.heap[Y]? = some (.cells #[.int .i64 x.set, .int .i64 x.pos, .int .i64 x.need.a, .int .i64 x.need.b, .int .i64 x.need.c, .int .i64 x.need.d] 86 (0, 0)) := by rw [← hW3, ← hY]; exact heap_alloc_new W1 _
  have h3 := h1.on hb3
  obtain ⟨gE, hgE⟩ : ∃ gE, bl x0.set = gE := ⟨_, rfl⟩
  obtain ⟨ad, had⟩ : ∃ ad : Addr, ad = ⟨bl x0.set, 0, none⟩ := ⟨_, rfl⟩
  have hadd : ad.add (k * 5) = ⟨gE, k * 5, none⟩ := by rw [had, hgE, Addr.add_lit, Nat.zero_add]
  have hl1 := fun n : Nat => (h3.on (below_drewN (Below.refl _ W3) n)).lk1 hi64 hsA had
  have hxset : x.set = x0.set := by rw [hx]
  have hxpos : x.pos = (k : Int) := by rw [hx]
  have hxneed : x.need = x0.need := by rw [hx]
  have HXP := Lib.hid hxpos
  clear hxpos
  rw [← hxset] at hl1
  have h30 : W3.cell? ⟨q, 0, none⟩ = some (.map (some b1)) := cell_of_heap h3.box 0
  have h31 : W3.cell? ⟨q, 1, none⟩ = some (.map (some b2)) := cell_of_heap h3.box 1
  have hgp := h3.pr _ _ hsA
  rw [hgE] at hgp
  have hYg : Y ≠ gE := by
    have := h1.old gE hgp
    omega
  have hS3 : SeS W3 Y gE x W3 := ⟨k3, ChP.refl _ _⟩
  have hb3' : Below w.heap.size w W3 := hb1.trans (hb3.mono hb1.size)
  -- what is left
  have hleft : goodV (pv (leftA G sA (k : Int)) x0.need) = true := by
    have h4 := (h.good.take x0.tk).left sA (by unfold takeA; rw [if_neg (by rw [hn]; simp)]; exact set_mem h.good hsA) x0.pos
    unfold takeA at h4
    rw [if_neg (by rw [hn]; simp), left_take h.good hx0, if_pos ⟨hid, rfl⟩, hk] at h4
    exact h4
  obtain ⟨l, hl⟩ : ∃ l, leftA G sA (k : Int) = l := ⟨_, rfl⟩
  have hlg : goodV l = true := by rw [← hl]; exact h.good.left sA (set_mem h.good hsA) _
  rw [hl] at hleft
  obtain ⟨m, hm⟩ : ∃ m, pv l x0.need = m := ⟨_, rfl⟩
  have hadr : addR l x.need = (m, 0) := by
    rw [hxneed, add_yes hlg hg0]
    unfold checkR
    rw [show (⟨l.a + x0.need.a, l.b + x0.need.b, l.c + x0.need.c, l.d + x0.need.d⟩ : V4) = pv l x0.need from rfl, if_pos hleft, hm]
  have HAD : Hid (∀ W, ChP (fun j => j = gE) W3 W → Calls Tryd.prog 34 #[.agg #[.int .i64 l.a, .int .i64 l.b, .int .i64 l.c, .int .i64 l.d], .agg #[.int .i64 (x.need).a, .int .i64 (x.need).b, .int .i64 (x.need).c, .int .i64 (x.need).d]] W fun e w' => e = .returned (.tuple #[.agg #[.int .i64 m.a, .int .i64 m.b, .int .i64 m.c, .int .i64 m.d], .nilIface]) ∧ Below W.heap.size W w') := Lib.hid fun W hW => by
    have hsW : Sent s W := hs.on hb3' W (ChP.trans (ChP.refl P W3) hW fun i hi => .inl (hi ▸ hgp))
    have := add_c s l x.need W hsW
    rw [hadr] at this
    exact this
  obtain ⟨c0, c1, c2, c3, c4, cf⟩ := h3.cells hsA hkn
  rw [hl, hgE] at c1 c2 c3 c4
  rw [hgE] at cf c0
  have HCE : Hid (∀ w5 : World, ChP (fun j => j = gE) W3 w5 → w5.heap[gE]? = W3.heap[gE]? → w5.cell? ⟨gE, k * 5 + 1, none⟩ = some (.int .i64 l.a) ∧ w5.cell? ⟨gE, k * 5 + 2, none⟩ = some (.int .i64 l.b) ∧ w5.cell? ⟨gE, k * 5 + 3, none⟩ = some (.int .i64 l.c) ∧ w5.cell? ⟨gE, k * 5 + 4, none⟩ = some (.int .i64 l.d) ∧ ∀ j, w5.frozen? ⟨gE, j, none⟩ = false) := Lib.hid fun w5 _ e5 => by
    have hce : ∀ o, w5.cell? ⟨gE, o, none⟩ = W3.cell? ⟨gE, o, none⟩ := fun o => by simp only [World.cell?, e5]
    have hfr : ∀ o, w5.frozen? ⟨gE, o, none⟩ = W3.frozen? ⟨gE, o, none⟩ := fun o => by simp only [World.frozen?, e5]
    exact ⟨(hce _).trans c1, (hce _).trans c2, (hce _).trans c3, (hce _).trans c4, fun j => (hfr j).trans (cf j)⟩
  have HFIN : Hid (∀ w5 w9 : World, SeS W3 Y gE x w5 → w5.heap[gE]? = W3.heap[gE]? → SeatsAt w9 b2 (strike T2 t) → ((((w5.setCell ⟨gE, k * 5 + 1, none⟩ (.int .i64 m.a)).setCell ⟨gE, k * 5 + 2, none⟩ (.int .i64 m.b)).setCell ⟨gE, k * 5 + 3, none⟩ (.int .i64 m.c)).setCell ⟨gE, k * 5 + 4, none⟩ (.int .i64 m.d)).grownBy w9 (some b2) → AlP w9 P q b1 b2 T1 (strike T2 t) bl (takeG G t) ∧ ChP P w w9) := Lib.hid fun w5 w9 hS5 e5 hm9 hg9 => by
    have hz5 : ∀ j, j ≠ gE → ((((w5.setCell ⟨gE, k * 5 + 1, none⟩ (.int .i64 m.a)).setCell ⟨gE, k * 5 + 2, none⟩ (.int .i64 m.b)).setCell ⟨gE, k * 5 + 3, none⟩ (.int .i64 m.c)).setCell ⟨gE, k * 5 + 4, none⟩ (.int .i64 m.d)).heap[j]? = w5.heap[j]? := fun j hj => by rw [heap_setCell_other _ _ _ _ hj, heap_setCell_other _ _ _ _ hj, heap_setCell_other _ _ _ _ hj, heap_setCell_other _ _ _ _ hj]
    have hsz : ((((w5.setCell ⟨gE, k * 5 + 1, none⟩ (.int .i64 m.a)).setCell ⟨gE, k * 5 + 2, none⟩ (.int .i64 m.b)).setCell ⟨gE, k * 5 + 3, none⟩ (.int .i64 m.c)).setCell ⟨gE, k * 5 + 4, none⟩ (.int .i64 m.d)).heap.size = w5.heap.size := by simp [World.setCell]
    have hrow5 : OwnE encEnv 84 w5 0 (.slice (some ⟨gE, 0, none⟩) (envs G sA).length sA.n) (envs G sA) := by
      have := h3.rowL hsA
      rw [hgE] at this
      exact this.same fun i hi => by simp [Value.ownBlock] at hi; subst hi; exact e5
    have hr := own_left hrow5 (envs_at G sA hkn) m
    rw [envs_len] at hr
    refine ⟨?_, ?_⟩
    · rw [← htt] at hm9 ⊢
      refine h3.took hx0 hsA hk hkn (w6 := ((((w5.setCell ⟨gE, k * 5 + 1, none⟩ (.int .i64 m.a)).setCell ⟨gE, k * 5 + 2, none⟩ (.int .i64 m.b)).setCell ⟨gE, k * 5 + 3, none⟩ (.int .i64 m.c)).setCell ⟨gE, k * 5 + 4, none⟩ (.int .i64 m.d))) (fun j hj hne => ?_) (by rw [hsz]; exact hS5.chg.size) ?_ hm9 hg9
      · rw [hgE] at hne
        exact (hz5 j hne).trans (hS5.chg.block j hj hne)
      · rw [hgE, hl, hm]; exact hr
    · have c5 : ChP P w w5 := ChP.trans (ChP.of_below hb3') hS5.chg fun i hi => .inl (hi ▸ hgp)
      exact ((((c5.setCell (ad := ⟨gE, k * 5 + 1, none⟩) (.inl hgp) _).setCell (ad := ⟨gE, k * 5 + 2, none⟩) (.inl hgp) _).setCell (ad := ⟨gE, k * 5 + 3, none⟩) (.inl hgp) _).setCell (ad := ⟨gE, k * 5 + 4, none⟩) (.inl hgp) _).grown hg9 (fun i hi => .inl (by cases hi; exact h.p2))
  have HDL : Hid (∀ w5 : World, SeS W3 Y gE x w5 → ((((w5.setCell ⟨gE, k * 5 + 1, none⟩ (.int .i64 m.a)).setCell ⟨gE, k * 5 + 2, none⟩ (.int .i64 m.b)).setCell ⟨gE, k * 5 + 3, none⟩ (.int .i64 m.c)).setCell ⟨gE, k * 5 + 4, none⟩ (.int .i64 m.d)).cell? ⟨X, 0, none⟩ = some (.int .i64 t.job) ∧ ((((w5.setCell ⟨gE, k * 5 + 1, none⟩ (.int .i64 m.a)).setCell ⟨gE, k * 5 + 2, none⟩ (.int .i64 m.b)).setCell ⟨gE, k * 5 + 3, none⟩ (.int .i64 m.c)).setCell ⟨gE, k * 5 + 4, none⟩ (.int .i64 m.d)).cell? ⟨X, 1, none⟩ = some (.int .i64 t.ix) ∧ ((((w5.setCell ⟨gE, k * 5 + 1, none⟩ (.int .i64 m.a)).setCell ⟨gE, k * 5 + 2, none⟩ (.int .i64 m.b)).setCell ⟨gE, k * 5 + 3, none⟩ (.int .i64 m.c)).setCell ⟨gE, k * 5 + 4, none⟩ (.int .i64 m.d)).cell? ⟨q, 1, none⟩ = some (.map (some b2)) ∧ SeatsAt ((((w5.setCell ⟨gE, k * 5 + 1, none⟩ (.int .i64 m.a)).setCell ⟨gE, k * 5 + 2, none⟩ (.int .i64 m.b)).setCell ⟨gE, k * 5 + 3, none⟩ (.int .i64 m.c)).setCell ⟨gE, k * 5 + 4, none⟩ (.int .i64 m.d)) b2 T2) := Lib.hid fun w5 hS5 => by
    have hz5 : ∀ j, j ≠ gE → ((((w5.setCell ⟨gE, k * 5 + 1, none⟩ (.int .i64 m.a)).setCell ⟨gE, k * 5 + 2, none⟩ (.int .i64 m.b)).setCell ⟨gE, k * 5 + 3, none⟩ (.int .i64 m.c)).setCell ⟨gE, k * 5 + 4, none⟩ (.int .i64 m.d)).heap[j]? = w5.heap[j]? := fun j hj => by rw [heap_setCell_other _ _ _ _ hj, heap_setCell_other _ _ _ _ hj, heap_setCell_other _ _ _ _ hj, heap_setCell_other _ _ _ _ hj]
    have hXg : X ≠ gE := by have := h.old gE hgp; omega
    have eX : ((((w5.setCell ⟨gE, k * 5 + 1, none⟩ (.int .i64 m.a)).setCell ⟨gE, k * 5 + 2, none⟩ (.int .i64 m.b)).setCell ⟨gE, k * 5 + 3, none⟩ (.int .i64 m.c)).setCell ⟨gE, k * 5 + 4, none⟩ (.int .i64 m.d)).heap[X]? = some (.cells #[.int .i64 t.job, .int .i64 t.ix] 32 (0, 0)) := by
      rw [hz5 X hXg, hS5.chg.block X (Nat.lt_of_lt_of_le hXW hb3.size) hXg, hb3.block X hXW]; exact k1
    have hqg : q ≠ gE := by rw [← hgE]; exact (h3.qr hsA).symm
    have eq : ((((w5.setCell ⟨gE, k * 5 + 1, none⟩ (.int .i64 m.a)).setCell ⟨gE, k * 5 + 2, none⟩ (.int .i64 m.b)).setCell ⟨gE, k * 5 + 3, none⟩ (.int .i64 m.c)).setCell ⟨gE, k * 5 + 4, none⟩ (.int .i64 m.d)).heap[q]? = some (.cells #[.map (some b1), .map (some b2)] 77 (0, 0)) := by
      rw [hz5 q hqg, hS5.chg.block q h3.lt hqg]; exact h3.box
    have hb2g : b2 ≠ gE := by rw [← hgE]; exact (h3.r2 hsA).symm
    refine ⟨cell_of_heap eX 0, cell_of_heap eX 1, cell_of_heap eq 1, h3.m2.same ?_⟩
    rw [hz5 b2 hb2g, hS5.chg.block b2 (h3.old _ h3.p2) hb2g]
  have HNE : Hid (Y ≠ gE) := Lib.hid hYg
  have HGL : Hid (gE < W3.heap.size) := Lib.hid (h3.old gE hgp)
  have HS3 := Lib.hid hS3
  have HX := Lib.hid hX; have HW1 := Lib.hid hW1; have HY := Lib.hid hY; have HW3 := Lib.hid hW3; have HT := Lib.hid ht
  have k0' : (0 : Int) ≤ (k : Int) := by omega
  have k1' : (k : Int) < (sA.n : Int) := by omega
  clear h hs hn hb hX hW1 k1 hb1 hXW h1 hb3 h3 hx hxs hsA hset hid hi64 hgE had hleft hl hlg hm hadr hg0 hup hp0 hp1 hk hx0 hS3 hgp hb3' hxset hxneed hYg hY hW3 ht htt
  rw [errA0]
  go_enter Tryd.func18, Tryd.ntmps18
  go_wp2_with fail
  rw [HW1.out, HX.out]
  go_region_held3 (fun W => W.cell? ⟨X, 0, none⟩ = some (.int .i64 t.job) ∧ W.cell? ⟨X, 1, none⟩ = some (.int .i64 t.ix) ∧ W.cell? ⟨q, 1, none⟩ = some (.map (some b2)) ∧ (Instr.lookup 75 (.map (some b2)) (.agg #[.int .i64 t.job, .int .i64 t.ix]) true).run Tryd.prog W = .ok (.tuple #[.agg #[.int .i64 x.set, .int .i64 x.pos, .int .i64 x.need.a, .int .i64 x.need.b, .int .i64 x.need.c, .int .i64 x.need.d], .bool true]) W)
    (first | exact HC.out _ (by (repeat' (first | (with_reducible exact Below.refl _ _) | (with_reducible refine below_drewN ?_ _) | (with_reducible refine Below.drew ?_) | (with_reducible refine Below.alloc ?_ ?_ _) | (with_reducible refine Below.setCell ?_ ?_ _) | (with_reducible refine Below.trans ?_ (Below.mono (by with_reducible assumption) ?_)) | omega | (simp only [World.size_alloc, World.size_setCell, World.size_drew, Go.Proofs.YtfikkjdkgigikaaDoor.World.size_drewN] at *; omega) | (with_reducible refine Below.size (B := 0) ?_)))))
    (fail)
  all_goals
    rw [HW3.out, HY.out]
    obtain ⟨s0, s1, s2, s3, s4, s5⟩ := HS3.out.cells
    rw [HXP.out] at s1
    go_wp2_with fail
    go_quiet (fail)
    go_wp2_with fail
    refine wp_region_held_drew (S := fun W => SeS W3 Y gE x W) (by kernel_rfl) ?_ (fun hHeld => ?_)
    · exact ((HS3.out.on (below_drewN (Below.refl _ _) nq)).on (Below.refl _ _).drew)
    refine rg_take 0 (some 34) _ (by kernel_rfl) (by kernel_rfl) (by kernel_rfl) (fun _ _ _ h => h) (by kernel_rfl) (by kernel_rfl) (by intro w' hSw op_ ho; obtain ⟨s0, s1, s2, s3, s4, s5⟩ := hSw.cells; simp only [List.getElem?_toArray, List.getElem?_cons_zero, Option.some.injEq] at ho; subst ho; go_simp; with_reducible rfl) (by assumption) ?_
    try simp only [Act.put, List.setIfInBounds_toArray, List.set_cons_zero, List.set_cons_succ]
    refine rg_take 1 (some 35) _ (by kernel_rfl) (by kernel_rfl) (by kernel_rfl) (fun _ _ _ h => h) (by kernel_rfl) (by kernel_rfl) (by intro w' hSw op_ ho; obtain ⟨s0, s1, s2, s3, s4, s5⟩ := hSw.cells; simp only [List.getElem?_toArray, List.getElem?_cons_succ, List.getElem?_cons_zero, Option.some.injEq] at ho; subst ho; go_simp; with_reducible rfl) (by assumption) ?_
    try simp only [Act.put, List.setIfInBounds_toArray, List.set_cons_zero, List.set_cons_succ]
    refine rg_take 2 (some 36) _ (by kernel_rfl) (by kernel_rfl) (by kernel_rfl) (fun _ _ _ h => h) (by kernel_rfl) (by kernel_rfl) (by intro w' hSw op_ ho; obtain ⟨s0, s1, s2, s3, s4, s5⟩ := hSw.cells; simp only [List.getElem?_toArray, List.getElem?_cons_succ, List.getElem?_cons_zero, Option.some.injEq] at ho; subst ho; go_simp; with_reducible rfl) (by assumption) ?_
    try simp only [Act.put, List.setIfInBounds_toArray, List.set_cons_zero, List.set_cons_succ]
    refine rg_take 3 (some 37) _ (by kernel_rfl) (by kernel_rfl) (by kernel_rfl) (fun _ _ _ h => h) (by kernel_rfl) (by kernel_rfl) (by intro w' hSw op_ ho; obtain ⟨s0, s1, s2, s3, s4, s5⟩ := hSw.cells; simp only [List.getElem?_toArray, List.getElem?_cons_succ, List.getElem?_cons_zero, Option.some.injEq] at ho; subst ho; go_simp; with_reducible rfl) (by assumption) ?_
    try simp only [Act.put, List.setIfInBounds_toArray, List.set_cons_zero, List.set_cons_succ]
    refine rg_take 5 (some 39) _ (by kernel_rfl) (by kernel_rfl) (by kernel_rfl) (fun _ _ _ h => h) (by kernel_rfl) (by kernel_rfl) (by intro w' hSw op_ ho; obtain ⟨s0, s1, s2, s3, s4, s5⟩ := hSw.cells; simp only [List.getElem?_toArray, List.getElem?_cons_succ, List.getElem?_cons_zero, Option.some.injEq] at ho; subst ho; go_simp; with_reducible rfl) (by assumption) ?_
    try simp only [Act.put, List.setIfInBounds_toArray, List.set_cons_zero, List.set_cons_succ]
    refine rg_take 6 (some 40) _ (by kernel_rfl) (by kernel_rfl) (by kernel_rfl) (fun _ _ _ h => h) (by kernel_rfl) (by kernel_rfl) (by intro w' hSw op_ ho; obtain ⟨s0, s1, s2, s3, s4, s5⟩ := hSw.cells; simp only [List.getElem?_toArray, List.getElem?_cons_succ, List.getElem?_cons_zero, Option.some.injEq] at ho; subst ho; go_simp; with_reducible rfl) (by assumption) ?_
    try simp only [Act.put, List.setIfInBounds_toArray, List.set_cons_zero, List.set_cons_succ]
    refine rg_one 4 (by kernel_rfl) (by kernel_rfl) (fun op_ ho K hK => ?_)
    simp only [List.getElem?_toArray, List.getElem?_cons_succ, List.getElem?_cons_zero, Option.some.injEq] at ho
    subst ho
    go_simp
    go_wp2_with fail
    refine hK.out _ _ (by first | exact hHeld | exact SeS.on hHeld b5 | exact (((SeS.off hHeld HNE.out _).off HNE.out _).off HNE.out _).off HNE.out _) (fun hHeld => ?_)
    clear hK
    try simp only [Act.put, List.setIfInBounds_toArray, List.set_cons_zero, List.set_cons_succ]
    refine rg_one 7 (by kernel_rfl) (by kernel_rfl) (fun op_ ho K hK => ?_)
    simp only [List.getElem?_toArray, List.getElem?_cons_succ, List.getElem?_cons_zero, Option.some.injEq] at ho
    subst ho
    go_simp
    go_at_call 34
    refine (HAD.out _ hHeld.chg).mono ?_
    rintro e w5 ⟨rfl, b5⟩
    have e5 : w5.heap[gE]? = W3.heap[gE]? := b5.block gE HGL.out
    obtain ⟨c1, c2, c3, c4, cf⟩ := HCE.out w5 (hHeld.chg.then b5) e5
    have HE5 := Lib.hid e5
    clear e5
    go_wp2_with fail
    refine hK.out _ _ (by first | exact hHeld | exact SeS.on hHeld b5 | exact (((SeS.off hHeld HNE.out _).off HNE.out _).off HNE.out _).off HNE.out _) (fun hHeld => ?_)
    clear hK
    try simp only [Act.put, List.setIfInBounds_toArray, List.set_cons_zero, List.set_cons_succ]
    refine rg_take 8 (some 33) _ (by kernel_rfl) (by kernel_rfl) (by kernel_rfl) (fun _ _ _ h => h) (by kernel_rfl) (by kernel_rfl) (by intro w' hSw op_ ho; obtain ⟨s0, s1, s2, s3, s4, s5⟩ := hSw.cells; simp only [List.getElem?_toArray, List.getElem?_cons_succ, List.getElem?_cons_zero, Option.some.injEq] at ho; subst ho; go_simp; with_reducible rfl) (by assumption) ?_
    try simp only [Act.put, List.setIfInBounds_toArray, List.set_cons_zero, List.set_cons_succ]
    refine rg_take 9 (some 42) _ (by kernel_rfl) (by kernel_rfl) (by kernel_rfl) (fun _ _ _ h => h) (by kernel_rfl) (by kernel_rfl) (by intro w' hSw op_ ho; obtain ⟨s0, s1, s2, s3, s4, s5⟩ := hSw.cells; simp only [List.getElem?_toArray, List.getElem?_cons_succ, List.getElem?_cons_zero, Option.some.injEq] at ho; subst ho; go_simp; with_reducible rfl) (by assumption) ?_
    try simp only [Act.put, List.setIfInBounds_toArray, List.set_cons_zero, List.set_cons_succ]
    refine rg_take 10 (some 43) _ (by kernel_rfl) (by kernel_rfl) (by kernel_rfl) (fun _ _ _ h => h) (by kernel_rfl) (by kernel_rfl) (by intro w' hSw op_ ho; obtain ⟨s0, s1, s2, s3, s4, s5⟩ := hSw.cells; simp only [List.getElem?_toArray, List.getElem?_cons_succ, List.getElem?_cons_zero, Option.some.injEq] at ho; subst ho; go_simp; with_reducible rfl) (by assumption) ?_
    try simp only [Act.put, List.setIfInBounds_toArray, List.set_cons_zero, List.set_cons_succ]
    refine rg_take 11 (some 44) _ (by kernel_rfl) (by kernel_rfl) (by kernel_rfl) (fun _ _ _ h => h) (by kernel_rfl) (by kernel_rfl) (by intro w' hSw op_ ho; obtain ⟨s0, s1, s2, s3, s4, s5⟩ := hSw.cells; simp only [List.getElem?_toArray, List.getElem?_cons_succ, List.getElem?_cons_zero, Option.some.injEq] at ho; subst ho; go_simp; with_reducible rfl) (by assumption) ?_
    try simp only [Act.put, List.setIfInBounds_toArray, List.set_cons_zero, List.set_cons_succ]
    refine rg_take 12 (some 45) _ (by kernel_rfl) (by kernel_rfl) (by kernel_rfl) (fun _ _ _ h => h) (by kernel_rfl) (by kernel_rfl) (by intro w' hSw op_ ho; obtain ⟨s0, s1, s2, s3, s4, s5⟩ := hSw.cells; simp only [List.getElem?_toArray, List.getElem?_cons_succ, List.getElem?_cons_zero, Option.some.injEq] at ho; subst ho; go_simp; with_reducible rfl) (by assumption) ?_
    try simp only [Act.put, List.setIfInBounds_toArray, List.set_cons_zero, List.set_cons_succ]
    refine rg_one 13 (by kernel_rfl) (by kernel_rfl) (fun op_ ho K hK => ?_)
    simp only [List.getElem?_toArray, List.getElem?_cons_succ, List.getElem?_cons_zero, Option.some.injEq] at ho
    subst ho
    go_simp
    have HS5 := Lib.hid hHeld
    go_wp2_with fail
    refine hK.out _ _ (by first | exact hHeld | exact SeS.on hHeld b5 | exact (((SeS.off hHeld HNE.out _).off HNE.out _).off HNE.out _).off HNE.out _) (fun hHeld => ?_)
    clear hK
    try simp only [Act.put, List.setIfInBounds_toArray, List.set_cons_zero, List.set_cons_succ]
    refine wpAnyH_done (by kernel_rfl) ?_ _
    clear c1 c2 c3 c4 cf hHeld
    go_wp2_with fail
    obtain ⟨d0, d1, d2, d3⟩ := HDL.out w5 HS5.out
    have HFN := Lib.hid (HFIN.out w5)
    clear HCE HAD HFIN HDL HC
    obtain ⟨W6, hW6⟩ : ∃ W6, ((((w5.setCell ⟨gE, k * 5 + 1, none⟩ (.int .i64 m.a)).setCell ⟨gE, k * 5 + 2, none⟩ (.int .i64 m.b)).setCell ⟨gE, k * 5 + 3, none⟩ (.int .i64 m.c)).setCell ⟨gE, k * 5 + 4, none⟩ (.int .i64 m.d)) = W6 := ⟨_, rfl⟩
    rw [hW6] at HFN d0 d1 d2 d3 ⊢
    have HM6 : Hid (SeatsAt W6.drew b2 T2) := Lib.hid (d3.same rfl)
    clear hW6 d3
    go_still_tail 5, (by kernel_rfl)
    change wpList _ _ _ _ _ W6.drew
    go_wp2_with (at_delete; refine wpList_delG _ kitT rfl _ _ 75 rfl 86 Tryd.underlying75 encSeat b2 T2 rfl HM6.out t rfl HT.out ?_; intro w9 hm9 hg9)
    go_ret
    exact ⟨rfl, HFN.out w9 HS5.out HE5.out hm9 ⟨hg9.os, hg9.tape, hg9.output, hg9.size, hg9.block⟩⟩
end
end Go.Proofs.YtfikkjdkgigikaaDoor
