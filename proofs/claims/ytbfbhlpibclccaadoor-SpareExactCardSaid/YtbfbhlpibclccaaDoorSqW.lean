/- The program's book and the reference's, side by side, beside what the law keeps: what each call answers and makes of them. Condition: both lie in memory as their map and row have it. -/
import Derived.Test.YtbfbhlpibclccaaDoorSqX
import Derived.Test.YtbfbhlpibclccaaDoorSqR
namespace Go.Proofs.YtbfbhlpibclccaaDoor
open Go Go.RowKit Go.Maps Go.Sort

/-- K holds as long as only blocks of P turn. -/
def KeepQ (P : Nat → Prop) (K : World → Prop) (w : World) : Prop := ∀ W, ChP P w W → K W
theorem KeepQ.here {P : Nat → Prop} {K : World → Prop} {w : World} (h : KeepQ P K w) : K w := h w (ChP.refl _ _)
theorem KeepQ.chp {P Q : Nat → Prop} {K : World → Prop} {w w' : World} (h : KeepQ P K w) (hc : ChP P w w') (hQ : ∀ i, Q i → P i ∨ w.heap.size ≤ i) : KeepQ Q K w' := fun W hW => h W (hc.trans hW hQ)
theorem keepQ_block {P : Nat → Prop} {w : World} {g : Nat} {o : Obj} (h : w.heap[g]? = some o) (hp : ¬ P g) : KeepQ P (fun W => W.heap[g]? = some o) w := fun _ hW => hW.row h hp
/-- The program's book has E, the reference's F, and K is kept. -/
structure SZ (w0 w : World) (q b u : Nat) (E F : List Ev) (K : World → Prop) : Prop where
  x : SqX w0 w q b E
  r : ∃ v, RqA w u v F ∧ KeepQ (fun i => i = b ∨ RqQ u v i) K w
  qu : q < u
  bu : b < u
  low : w0.heap.size ≤ u
section
variable {w0 w w' : World} {q b u : Nat} {E F : List Ev} {K : World → Prop}
theorem SZ.has (h : SZ w0 w q b u E F K) : K w := by obtain ⟨v, _, k⟩ := h.r; exact k.here
theorem SZ.below (h : SZ w0 w q b u E F K) : Below w0.heap.size w0 w := h.x.below
theorem SZ.on (h : SZ w0 w q b u E F K) (hb : Below w.heap.size w w') : SZ w0 w' q b u E F K := by
  obtain ⟨v, k1, k2⟩ := h.r
  exact ⟨h.x.on hb, ⟨v, k1.on hb, k2.chp (ChP.of_below hb) fun _ h => .inl h⟩, h.qu, h.bu, h.low⟩
theorem SZ.drew (h : SZ w0 w q b u E F K) : SZ w0 w.drew q b u E F K := h.on (Below.refl _ _).drew
theorem SZ.drop {K' : World → Prop} (h : SZ w0 w q b u E F K) (hk : ∀ W, K W → K' W) : SZ w0 w q b u E F K' := by
  obtain ⟨v, k1, k2⟩ := h.r
  exact ⟨h.x, ⟨v, k1, fun W hW => hk W (k2 W hW)⟩, h.qu, h.bu, h.low⟩
theorem SZ.new (h : SZ w0 w q b u E F K) (o : Obj) : SZ w0 (w.alloc o) q b u E F (fun W => K W ∧ W.heap[w.heap.size]? = some o) := by
  have hb : Below w.heap.size w (w.alloc o) := (Below.refl _ _).alloc (Nat.le_refl _) o
  obtain ⟨v, k1, k2⟩ := h.r
  refine ⟨h.x.on hb, ⟨v, k1.on hb, fun W hW => ⟨k2.chp (ChP.of_below hb) (fun _ h => .inl h) W hW, keepQ_block (heap_alloc_new w o) (fun hp => ?_) W hW⟩⟩, h.qu, h.bu, h.low⟩
  rcases hp with hp | hp
  · have := h.x.lt.2; omega
  · have := (k1.old _ hp).2; omega
/-- What turns only the program's map. -/
theorem SZ.prog {E' : List Ev} (h : SZ w0 w q b u E F K) (k : SqX w0 w' q b E') (hc : ChP (fun i => i = b) w w') : SZ w0 w' q b u E' F K := by
  obtain ⟨v, k1, k2⟩ := h.r
  refine ⟨k, ⟨v, k1.far hc fun i hi e => ?_, k2.chp (ChP.trans (ChP.refl _ _) hc fun i hi => .inl (.inl hi)) fun _ h => .inl h⟩, h.qu, h.bu, h.low⟩
  have := (k1.old i hi).1
  have := h.bu
  have e' : i = b := e
  omega
/-- What turns only the reference's blocks. -/
theorem SZ.refs {F' : List Ev} {v v' : Value} (h : SZ w0 w q b u E F K) (hv : RqA w u v F) (hk : KeepQ (fun i => i = b ∨ RqQ u v i) K w) (k : RqA w' u v' F') (hn : ∀ i, v'.ownBlock = some i → v.ownBlock = some i ∨ w.heap.size ≤ i) (hc : ChP (RqQ u v) w w') : SZ w0 w' q b u E F' K := by
  refine ⟨h.x.far hc fun i hi => ?_, ⟨v', k, hk.chp (ChP.trans (ChP.refl _ _) hc fun i hi => .inl (.inr hi)) fun i hi => ?_⟩, h.qu, h.bu, h.low⟩
  · have h1 := (hv.old i hi).1
    have h2 := h.qu; have h3 := h.bu; have h4 := h.low
    exact ⟨by omega, by omega, by omega⟩
  · rcases hi with hi | hi | hi
    · exact .inl (.inl hi)
    · exact .inl (.inr (.inl hi))
    · rcases hn i hi with h1 | h1
      · exact .inl (.inr (.inr h1))
      · exact .inr h1
/-! ### the calls -/
theorem SZ.add_c (h : SZ w0 w q b u E F K) (e : Ev) (hk : okQ (keyE e)) (hE : E.length ≤ 1000) :
    Calls Tryd.prog 36 #[.pointer (some ⟨q, 0, none⟩), .int .i64 e.job, .int .i64 e.win, .bool e.frc] w fun r w' => r = .returned .nilIface ∧ SZ w0 w' q b u (E ++ [e]) F K :=
  (h.x.add_c e hk hE).mono fun _ _ ⟨k1, k2, k3⟩ => ⟨k1, h.prog k2 k3⟩
theorem SZ.expire_c (h : SZ w0 w q b u E F K) (n : Int) :
    Calls Tryd.prog 33 #[.pointer (some ⟨q, 0, none⟩), .int .i64 n] w fun r w' => r = .returned (.tuple #[]) ∧ SZ w0 w' q b u (lessE (fun k => decide (k.win < n)) E) F K :=
  (h.x.expire_c n).mono fun _ _ ⟨k1, k2, k3⟩ => ⟨k1, h.prog k2 k3⟩
theorem SZ.drop_c (h : SZ w0 w q b u E F K) (n : Int) :
    Calls Tryd.prog 35 #[.pointer (some ⟨q, 0, none⟩), .int .i64 n] w fun r w' => r = .returned (.tuple #[]) ∧ SZ w0 w' q b u (lessE (fun k => k.job == n) E) F K :=
  (h.x.drop_c n).mono fun _ _ ⟨k1, k2, k3⟩ => ⟨k1, h.prog k2 k3⟩
theorem SZ.kept {F' : List Ev} {v : Value} (h : SZ w0 w q b u E F K) (hv : RqA w u v F) (hk : KeepQ (fun i => i = b ∨ RqQ u v i) K w) (k : RqK w w' u F') : SZ w0 w' q b u E F' K := by
  obtain ⟨v', k1, k2, k3⟩ := k
  exact h.refs hv hk k1 (fun i hi => .inr (k2 i hi)) (ChP.trans (ChP.refl _ _) k3 fun i hi => .inl (.inl hi))
theorem SZ.keepw_c (h : SZ w0 w q b u E F K) (hF : F.length ≤ 1000) (wn : Int) :
    Calls Tryd.prog 34 #[.pointer (some ⟨u, 0, none⟩), .int .i64 wn, .int .i64 0, .bool false] w fun r w' => r = .returned (.tuple #[]) ∧ SZ w0 w' q b u E (lessE (fun k => decide (k.win < wn)) F) K := by
  obtain ⟨v, k1, k2⟩ := h.r
  exact (rqkeepw_c k1 hF wn).mono fun _ _ ⟨e1, e2⟩ => ⟨e1, h.kept k1 k2 e2⟩
theorem SZ.keepj_c (h : SZ w0 w q b u E F K) (hF : F.length ≤ 1000) (j : Int) :
    Calls Tryd.prog 34 #[.pointer (some ⟨u, 0, none⟩), .int .i64 0, .int .i64 j, .bool true] w fun r w' => r = .returned (.tuple #[]) ∧ SZ w0 w' q b u E (lessE (fun k => k.job == j) F) K := by
  obtain ⟨v, k1, k2⟩ := h.r
  exact (rqkeepj_c k1 hF j).mono fun _ _ ⟨e1, e2⟩ => ⟨e1, h.kept k1 k2 e2⟩
theorem SZ.count_c (h : SZ w0 w q b u E F K) (hF : F.length ≤ 1000) (j wn : Int) (f : Bool) :
    Calls Tryd.prog 37 #[.pointer (some ⟨u, 0, none⟩), .int .i64 j, .int .i64 wn, .bool f] w fun e w' => e = .returned (.int .i64 (cntE F j wn f : Int)) ∧ w = w' := by
  obtain ⟨v, k1, _⟩ := h.r
  exact rqcount_c k1 hF j wn f
end
end Go.Proofs.YtbfbhlpibclccaaDoor
