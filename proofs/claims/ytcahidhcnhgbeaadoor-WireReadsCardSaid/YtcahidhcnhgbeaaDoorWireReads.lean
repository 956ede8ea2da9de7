/- The walk of the law WireReads: whatever the bytes and the row of deeds, it returns true. Conditions: the sentinels lie as the program's text lays them; the deeds' cells hold what the list says. -/
import Derived.Test.YtcahidhcnhgbeaaDoorWireRS
import Derived.Test.YtcahidhcnhgbeaaDoorWireWrites
import Derived.ChangeKeysEq
import Derived.Laws.StructEq
import Derived.Deep.RegionWith
import Derived.Deep.DeepCutAuto
import Derived.Deep.CutBlock
namespace Go.Proofs.YtcahidhcnhgbeaaDoor
open Go Go.RowKit

/-- What one deed does to the state. -/
def stepS (T : ByteArray) (x : ActD) (st : St) : St :=
  if x.kind = 5 then (intS T st).2 else if x.kind = 6 then (textS T x.n st).2 else if x.kind = 7 then (vecS T st).2 else (boolS T st).2
/-- The two readers side by side. -/
structure Both (s : Nat → Addr) (w : World) (Q f U : Nat) (T : ByteArray) (st : St) : Prop where
  inn : InAt s w Q f T st
  ref : RefAt w U T st
  qu : Q ≠ U
  fu : f ≠ U
theorem Both.same {s : Nat → Addr} {w w' : World} {Q f U : Nat} {T : ByteArray} {st : St} (h : Both s w Q f U T st) (hb : ∀ k, k < w.heap.size → w'.heap[k]? = w.heap[k]?) : Both s w' Q f U T st :=
  ⟨h.inn.same (hb _ h.inn.lt.1) (hb _ h.inn.lt.2.2), h.ref.same (hb _ h.ref.lt), h.qu, h.fu⟩
theorem Both.below {s : Nat → Addr} {w w' : World} {Q f U : Nat} {T : ByteArray} {st : St} (h : Both s w Q f U T st) (hb : Below w.heap.size w w') : Both s w' Q f U T st := h.same fun k hk => hb.block k hk
theorem Both.drewN {s : Nat → Addr} {w : World} {Q f U : Nat} {T : ByteArray} {st : St} (h : Both s w Q f U T st) (n : Nat) : Both s (w.drewN n) Q f U T st := h.same fun _ _ => rfl
/-- What a round begins with. -/
def DRel (s : Nat → Addr) (w : World) (Q U : Nat) (T : ByteArray) (wr : World) : Prop := ∃ f st, Both s wr Q f U T st ∧ Below w.heap.size w wr

theorem eqVR (x0 x1 x2 x3 y0 y1 y2 y3 : Int) (w : World) : (Op.equalIn 10000 29 (.agg #[.int .i64 x0, .int .i64 x1, .int .i64 x2, .int .i64 x3]) (.agg #[.int .i64 y0, .int .i64 y1, .int .i64 y2, .int .i64 y3])).run Tryd.prog w
    = .ok (x0 == y0 && (x1 == y1 && (x2 == y2 && x3 == y3))) w := by
  have hi : (Tryd.prog.info? 3).isSome = true := by kernel_rfl
  obtain ⟨i, hi⟩ := Option.isSome_iff_exists.1 hi
  have hc : Tryd.prog.cellsOf 3 = 1 := by kernel_rfl
  have hu : Tryd.prog.underlying 29 = some (.array 4 3) := by kernel_rfl
  have q0 : ∀ (W : World) (a0 a1 a2 a3 : Value), (part 3 #[a0, a1, a2, a3] 0).run Tryd.prog W = .ok a0 W := fun _ _ _ _ _ => by kernel_rfl
  have q1 : ∀ (W : World) (a0 a1 a2 a3 : Value), (part 3 #[a0, a1, a2, a3] 1).run Tryd.prog W = .ok a1 W := fun _ _ _ _ _ => by kernel_rfl
  have q2 : ∀ (W : World) (a0 a1 a2 a3 : Value), (part 3 #[a0, a1, a2, a3] 2).run Tryd.prog W = .ok a2 W := fun _ _ _ _ _ => by kernel_rfl
  have q3 : ∀ (W : World) (a0 a1 a2 a3 : Value), (part 3 #[a0, a1, a2, a3] 3).run Tryd.prog W = .ok a3 W := fun _ _ _ _ _ => by kernel_rfl
  rw [run_equalIn_array w 9999 _ _ hu hi, hc]
  simp only [Op.eqItems, List.range, List.range.loop, Nat.mul_one, Sem.run_bind, q0, run_equalIn_int _ _ _ _ _ _ _ Tryd.underlying3, Result.andThen_ok]
  cases e0 : x0 == y0 <;> cases e1 : x1 == y1 <;> cases e2 : x2 == y2 <;> cases e3 : x3 == y3 <;>
    simp [q1, q2, q3, run_equalIn_int _ _ _ _ _ _ _ Tryd.underlying3, e1, e2, e3]

theorem InAt.on {s : Nat → Addr} {w w' : World} {q f : Nat} {T : ByteArray} {st : St} (hb : Below w.heap.size w w') (h : InAt s w q f T st) : InAt s w' q f T st := h.below hb h.lt.1 h.lt.2.2
theorem RefAt.on {w w' : World} {q : Nat} {T : ByteArray} {st : St} (hb : Below w.heap.size w w') (h : RefAt w q T st) : RefAt w' q T st := h.below hb h.lt
theorem below_on {w w1 w2 : World} (hb : Below w1.heap.size w1 w2) (h : Below w.heap.size w w1) : Below w.heap.size w w2 := h.trans (hb.mono h.size)
theorem FaultV.drewN {s : Nat → Addr} {w : World} {op : ByteArray} {b : Nat} {ev : Value} (h : FaultV s w op b ev) (n : Nat) : FaultV s (w.drewN n) op b ev := h
theorem FaultV.drew {s : Nat → Addr} {w : World} {op : ByteArray} {b : Nat} {ev : Value} (h : FaultV s w op b ev) : FaultV s w.drew op b ev := h
theorem ref_none {w : World} {q : Nat} {T : ByteArray} {st : St} (h : RefAt w q T st) (hb : st.bad = none) : w.cell? ⟨q, 2, none⟩ = some (.int .i64 (-1)) := by have := h.cells.2.2.1; rw [hb] at this; exact this
theorem ref_some {w : World} {q b : Nat} {T : ByteArray} {st : St} (h : RefAt w q T st) (hb : st.bad = some b) : w.cell? ⟨q, 2, none⟩ = some (.int .i64 (b : Int)) := by have := h.cells.2.2.1; rw [hb] at this; exact this
theorem XBlk.drew {w : World} {g : Nat} {x : ActD} (h : XBlk w g x) : XBlk w.drew g x := h
theorem XBlk.drewN {w : World} {g : Nat} {x : ActD} (h : XBlk w g x) (n : Nat) : XBlk (w.drewN n) g x := h

set_option maxHeartbeats 1600000 in
set_option maxRecDepth 100000 in
theorem reads_long (s : Nat → Addr) (T : ByteArray) (A : Option Addr) (n c : Nat) (w : World) (hs : Sent s w) (hT : T.size ≤ 9223372036854775807) (hl : 1024 < T.size) :
    Calls Tryd.prog 4 #[.string T, .slice A n c] w fun e w' => e = .returned (.bool true) ∧ Below w.heap.size w w' := by
  go_enter Tryd.func4, Tryd.ntmps4
  go_wp2_with fail
  refine (awake_c s _ hs).mono ?_
  rintro e w1 ⟨rfl, hb1⟩
  go_wp2_with fail
  go_ret
  exact ⟨rfl, by (repeat' (first | (with_reducible exact Below.refl _ _) | (with_reducible refine below_drewN ?_ _) | (with_reducible refine Below.drew ?_) | (with_reducible refine Below.alloc ?_ ?_ _) | (with_reducible refine Below.setCell ?_ ?_ _) | (with_reducible refine Below.trans ?_ (Below.mono (by with_reducible assumption) ?_)) | omega | (simp only [World.size_alloc, World.size_setCell, World.size_drew, Go.Proofs.YtcahidhcnhgbeaaDoor.World.size_drewN] at *; omega) | (with_reducible refine Below.size (B := 0) ?_)))⟩

set_option maxHeartbeats 12000000 in
set_option maxRecDepth 100000 in
theorem reads_walk (s : Nat → Addr) (T : ByteArray) (A : Option Addr) (c : Nat) (xs : List ActD) (w : World) (hs : Sent s w) (hl : T.size ≤ 1024) (_hn : xs.length ≤ 9223372036854775807) (hg : ∀ x ∈ xs, GoodA x) (hA : ARow w w.heap.size A xs) :
    Calls Tryd.prog 4 #[.string T, .slice A xs.length c] w fun e w' => e = .returned (.bool true) ∧ Below w.heap.size w w' := by
  have HG := Lib.hid hg; clear hg
  have HA := Lib.hid hA; clear hA
  go_enter Tryd.func4, Tryd.ntmps4
  go_wp2_with fail
  refine (awake_c s _ hs).mono ?_
  rintro e w1 ⟨rfl, hb1⟩
  have hz1 := hb1.size
  go_wp2_with fail
  refine (of_c s T _).mono ?_
  rintro e w2 ⟨rfl, i2, b2⟩
  have hlt2 := i2.lt.1
  go_wp2_with fail
  refine (rof_c T _).mono ?_
  rintro e w3 ⟨rfl, r3, b3⟩
  have R0 : Hid (DRel s w w1.heap.size w2.heap.size T w3) := Lib.hid ⟨w1.heap.size, ⟨0, none⟩, ⟨i2.below b3 hlt2 hlt2, r3, by omega, by omega⟩, (hb1.trans (b2.mono hz1)).trans (b3.mono (by omega))⟩
  clear i2 r3 b2 b3 hb1
  obtain ⟨Q, hQ⟩ : ∃ Q, Q = w1.heap.size := ⟨_, rfl⟩
  obtain ⟨U, hU⟩ : ∃ U, U = w2.heap.size := ⟨_, rfl⟩
  rw [← hQ] at hz1 hlt2 R0 ⊢
  rw [← hU] at hlt2 R0 ⊢
  clear hQ hU
  go_wp2_with fail
  go_loopw [7] (fun i wr => ∃ k : Nat, k ≤ xs.length ∧ i = .int .i64 k ∧ DRel s w Q U T wr) (fun i _ => xs.length - (intOf i).toNat)
  case atStart => exact ⟨0, Nat.zero_le _, rfl, R0.out⟩
  case round =>
    obtain ⟨k, hk, rfl, f, st, hB, hb⟩ := hrel
    clear R0
    have hbz := hb.size
    by_cases hgo : k < xs.length ∧ k < 40
    · obtain ⟨hlt, h40⟩ := hgo
      obtain ⟨x, hx⟩ : ∃ x, xs[k]? = some x := ⟨_, List.getElem?_eq_getElem hlt⟩
      obtain ⟨ad, rfl, c0, c1, c2, c3, c4, c5, c6, c7⟩ := HA.out.cells hb hx
      obtain ⟨hxn, hxv, hxs⟩ := HG.out x (List.mem_of_getElem? hx)
      have HX := Lib.hid hx; clear hx
      have hX0 := Lib.hid (XBlk.new wr x)
      have KX := Lib.hid (hb.alloc hbz (.cells #[.int .i64 x.kind, .int .i64 x.n, .string x.s, .int .i64 x.v.a, .int .i64 x.v.b, .int .i64 x.v.c, .int .i64 x.v.d, .bool x.b] 31))
      have hBX := Lib.hid (hB.same (w' := wr.alloc (.cells #[.int .i64 x.kind, .int .i64 x.n, .string x.s, .int .i64 x.v.a, .int .i64 x.v.b, .int .i64 x.v.c, .int .i64 x.v.d, .bool x.b] 31)) fun k hk => Below.heap_alloc wr _ k hk)
      have KR := Lib.hid hb
      have hlU := hB.ref.lt
      have hlQ := hB.inn.lt
      have hqu := hB.qu
      have hfu := hB.fu
      clear hB hb
      go_upto_block 2 with fail
      go_cut [] (fun wx => DRel s w Q U T wx)
      case first =>
        have hT1 : T.size ≤ 9223372036854775807 := by omega
        have hT2 : T.size ≤ 9223372036854775000 := by omega
        have hT3 : T.size ≤ 35184372088832 := by omega
        have hE := eqVR
        by_cases hk5 : x.kind = 5
        · have e1 : (x.kind == 5) = true := by simpa using hk5
          clear hk5
          go_wp2_with fail
          refine (int_c s Q f T st _ (SentB.of hs KX.out hz1) hT1 hBX.out.inn).mono ?_
          rintro e w5 ⟨rfl, f5, i5, g5, q5⟩
          have r5 := Lib.hid (hBX.out.ref.kept g5 (by omega) (by omega))
          have K5 := Lib.hid (KX.out.trans (g5.below hz1 hz1 KX.out.size))
          have I5 := Lib.hid i5
          have hf5 : f5 ≠ U := by rw [World.size_alloc] at q5; omega
          clear i5 g5 q5
          go_wp2_with fail
          refine (rint_any U T st _ hT2 r5.out).mono ?_
          rintro e w6 ⟨rfl, r6, g6⟩
          have R6 := Lib.hid r6
          have I6 := Lib.hid (I5.out.kept g6 (by omega) (by omega) (by omega) (by omega))
          have K6 := Lib.hid (K5.out.trans (g6.below (by omega) (by omega) K5.out.size))
          clear r6 g6
          go_wp2_with fail
          go_meet
          exact ⟨f5, _, ⟨I6.out, R6.out, by omega, hf5⟩, K6.out⟩
        · have e1 : (x.kind == 5) = false := by simpa using hk5
          by_cases hk6 : x.kind = 6
          · have e2 : (x.kind == 6) = true := by simpa using hk6
            clear hk5 hk6
            have i0 := hBX.out.inn
            have r0 := hBX.out.ref
            have x0 := hX0.out
            have k0 := KR.out
            have HSS : Hid (∀ W : World, XBlk W wr.heap.size x → W.cell? ⟨wr.heap.size, 1, none⟩ = some (.int .i64 x.n)) := Lib.hid fun W h => h.cells.2.1
            go_wp2_with fail
            go_region_held3 (fun W => W.cell? ⟨wr.heap.size, 1, none⟩ = some (.int .i64 x.n))
              (exact HSS.out _ (by (repeat' (first | (with_reducible assumption) | (with_reducible exact Hid.out (by with_reducible assumption)) | (with_reducible refine XBlk.drewN ?_ _) | (with_reducible refine XBlk.drew ?_)))))
              (first
                | (go_at_call 21; (refine (text_c s Q f T x.n st _ (SentB.of hs (by (repeat' (first | (with_reducible exact Below.refl _ _) | (with_reducible refine below_drewN ?_ _) | (with_reducible refine Below.drew ?_) | (with_reducible refine Below.alloc ?_ ?_ _) | (with_reducible refine Below.setCell ?_ ?_ _) | (with_reducible refine Below.trans ?_ (Below.mono (by with_reducible assumption) ?_)) | omega | (simp only [World.size_alloc, World.size_setCell, World.size_drew, Go.Proofs.YtcahidhcnhgbeaaDoor.World.size_drewN] at *; omega) | (with_reducible refine Below.size (B := 0) ?_)))) hz1) hT3 (by (repeat' (first | (with_reducible assumption) | (with_reducible exact Hid.out (by with_reducible assumption)) | (with_reducible refine InAt.drewN ?_ _) | (with_reducible refine InAt.drew ?_))))).mono ?_); rintro e w5 ⟨rfl, f5, i5, g5, q5⟩; have r5 : RefAt w5 U T st := RefAt.kept (by (repeat' (first | (with_reducible assumption) | (with_reducible exact Hid.out (by with_reducible assumption)) | (with_reducible refine RefAt.drewN ?_ _) | (with_reducible refine RefAt.drew ?_) | (with_reducible refine RefAt.alloc ?_ _)))) g5 (by omega) (by omega); have x5 : XBlk w5 wr.heap.size x := XBlk.kept (by (repeat' (first | (with_reducible assumption) | (with_reducible exact Hid.out (by with_reducible assumption)) | (with_reducible refine XBlk.drewN ?_ _) | (with_reducible refine XBlk.drew ?_)))) g5 (by omega) (by omega); have k5 : Below w.heap.size w w5 := Below.trans (by (repeat' (first | (with_reducible exact Below.refl _ _) | (with_reducible refine below_drewN ?_ _) | (with_reducible refine Below.drew ?_) | (with_reducible refine Below.alloc ?_ ?_ _) | (with_reducible refine Below.setCell ?_ ?_ _) | (with_reducible refine Below.trans ?_ (Below.mono (by with_reducible assumption) ?_)) | omega | (simp only [World.size_alloc, World.size_setCell, World.size_drew, Go.Proofs.YtcahidhcnhgbeaaDoor.World.size_drewN] at *; omega) | (with_reducible refine Below.size (B := 0) ?_)))) (g5.below hz1 hz1 (by (try simp only [World.size_alloc, World.size_drew]); omega)); have hf5 : f5 ≠ U := (by (try simp only [World.size_alloc, World.size_drew] at q5); omega); have hz5 := k5.size; clear g5 q5)
                | (go_at_call 22; (refine (rtext_in U T x.n st _ hT2 (by (repeat' (first | (with_reducible assumption) | (with_reducible exact Hid.out (by with_reducible assumption)) | (with_reducible refine RefAt.drewN ?_ _) | (with_reducible refine RefAt.drew ?_) | (with_reducible refine RefAt.alloc ?_ _))))).mono ?_); rintro e w6 ⟨rfl, r6, g6⟩; have i6 : InAt s w6 Q f5 T (textS T x.n st).2 := InAt.kept (by (repeat' (first | (with_reducible assumption) | (with_reducible exact Hid.out (by with_reducible assumption)) | (with_reducible refine InAt.drewN ?_ _) | (with_reducible refine InAt.drew ?_)))) g6 (by omega) (by omega) (by omega) (by omega); have x6 : XBlk w6 wr.heap.size x := XBlk.kept (by (repeat' (first | (with_reducible assumption) | (with_reducible exact Hid.out (by with_reducible assumption)) | (with_reducible refine XBlk.drewN ?_ _) | (with_reducible refine XBlk.drew ?_)))) g6 (by omega) (by omega); have k6 : Below w.heap.size w w6 := Below.trans (by (repeat' (first | (with_reducible exact Below.refl _ _) | (with_reducible refine below_drewN ?_ _) | (with_reducible refine Below.drew ?_) | (with_reducible refine Below.alloc ?_ ?_ _) | (with_reducible refine Below.setCell ?_ ?_ _) | (with_reducible refine Below.trans ?_ (Below.mono (by with_reducible assumption) ?_)) | omega | (simp only [World.size_alloc, World.size_setCell, World.size_drew, Go.Proofs.YtcahidhcnhgbeaaDoor.World.size_drewN] at *; omega) | (with_reducible refine Below.size (B := 0) ?_)))) (g6.below (by omega) (by omega) (by ((try simp only [World.size_alloc, World.size_setCell, World.size_drew, Go.Proofs.YtcahidhcnhgbeaaDoor.World.size_drewN]); omega))); clear g6))
            all_goals go_wp2_with fail
            all_goals go_meet
            all_goals exact ⟨f5, _, ⟨by (repeat' (first | (with_reducible assumption) | (with_reducible exact Hid.out (by with_reducible assumption)) | (with_reducible refine InAt.drewN ?_ _) | (with_reducible refine InAt.drew ?_))), by (repeat' (first | (with_reducible assumption) | (with_reducible exact Hid.out (by with_reducible assumption)) | (with_reducible refine RefAt.drewN ?_ _) | (with_reducible refine RefAt.drew ?_) | (with_reducible refine RefAt.alloc ?_ _))), by omega, hf5⟩, by (repeat' (first | (with_reducible exact Below.refl _ _) | (with_reducible refine below_drewN ?_ _) | (with_reducible refine Below.drew ?_) | (with_reducible refine Below.alloc ?_ ?_ _) | (with_reducible refine Below.setCell ?_ ?_ _) | (with_reducible refine Below.trans ?_ (Below.mono (by with_reducible assumption) ?_)) | omega | (simp only [World.size_alloc, World.size_setCell, World.size_drew, Go.Proofs.YtcahidhcnhgbeaaDoor.World.size_drewN] at *; omega) | (with_reducible refine Below.size (B := 0) ?_)))⟩
          · have e2 : (x.kind == 6) = false := by simpa using hk6
            by_cases hk7 : x.kind = 7
            · have e3 : (x.kind == 7) = true := by simpa using hk7
              clear hk5 hk6 hk7
              go_wp2_with fail
              refine (vec_c s Q f T st _ (SentB.of hs KX.out hz1) hT1 hBX.out.inn).mono ?_
              rintro e w5 ⟨rfl, f5, i5, g5, q5⟩
              have r5 := Lib.hid (hBX.out.ref.kept g5 (by omega) (by omega))
              have K5 := Lib.hid (KX.out.trans (g5.below hz1 hz1 KX.out.size))
              have I5 := Lib.hid i5
              have hf5 : f5 ≠ U := by rw [World.size_alloc] at q5; omega
              clear i5 g5 q5
              go_wp2_with fail
              refine (rvec_in U T st _ hT2 r5.out).mono ?_
              rintro e w6 ⟨rfl, r6, g6⟩
              have R6 := Lib.hid r6
              have I6 := Lib.hid (I5.out.kept g6 (by omega) (by omega) (by omega) (by omega))
              have K6 := Lib.hid (K5.out.trans (g6.below (by omega) (by omega) K5.out.size))
              clear r6 g6
              go_wp2_with fail
              go_meet
              exact ⟨f5, _, ⟨I6.out, R6.out, by omega, hf5⟩, K6.out⟩
            · have e3 : (x.kind == 7) = false := by simpa using hk7
              clear hk5 hk6 hk7
              go_wp2_with fail
              refine (bool_c s Q f T st _ (SentB.of hs KX.out hz1) hT1 hBX.out.inn).mono ?_
              rintro e w5 ⟨rfl, f5, i5, g5, q5⟩
              have r5 := Lib.hid (hBX.out.ref.kept g5 (by omega) (by omega))
              have K5 := Lib.hid (KX.out.trans (g5.below hz1 hz1 KX.out.size))
              have I5 := Lib.hid i5
              have hf5 : f5 ≠ U := by rw [World.size_alloc] at q5; omega
              clear i5 g5 q5
              go_wp2_with fail
              refine (rbool_in U T st _ hT2 r5.out).mono ?_
              rintro e w6 ⟨rfl, r6, g6⟩
              have R6 := Lib.hid r6
              have I6 := Lib.hid (I5.out.kept g6 (by omega) (by omega) (by omega) (by omega))
              have K6 := Lib.hid (K5.out.trans (g6.below (by omega) (by omega) K5.out.size))
              clear r6 g6
              go_wp2_with fail
              go_meet
              exact ⟨f5, _, ⟨I6.out, R6.out, by omega, hf5⟩, K6.out⟩
      case rest =>
        obtain ⟨f2, st2, hB2, hb2⟩ := hcut
        have hT1 : T.size ≤ 9223372036854775807 := by omega
        have i2 := hB2.inn
        have r2 := hB2.ref
        have k2 := hb2
        have hz2 := hb2.size
        have hi0 : (0 : Int) ≤ (st2.i : Int) := by omega
        have hi1 : (st2.i : Int) ≤ (T.size : Int) := by have := hB2.ref.2.1; omega
        have hqu2 := hB2.qu
        have hfu2 := hB2.fu
        clear hBX KX KR hX0 c0 c1 c2 c3 c4 c5 c6 c7 HX hxn hxv hxs hlQ hlU hfu hB2 hb2
        have hwr : IntKind.i64.wrap (((T.size : Nat) : Int) - (st2.i : Int)) = ((T.size : Nat) : Int) - (st2.i : Int) := IntWalk.i64_in _ (by omega)
        have hne1 : (((T.size : Nat) : Int) - (st2.i : Int) != ((T.size : Nat) : Int) - (st2.i : Int)) = false := bne_self_eq_false _
        have hne2 : (!((T.size : Nat) : Int) - (st2.i : Int) == ((T.size : Nat) : Int) - (st2.i : Int)) = false := bne_self_eq_false _
        have hnm1 : ((-1 : Int) != -1) = false := rfl
        have hnm2 : (!(-1 : Int) == -1) = false := rfl
        cases hbad : st2.bad with
        | none =>
          have HSS : Hid (∀ W : World, RefAt W U T st2 → W.cell? ⟨U, 1, none⟩ = some (.int .i64 (st2.i : Int)) ∧ W.cell? ⟨U, 2, none⟩ = some (.int .i64 (-1))) := Lib.hid fun W h => ⟨h.cells.2.1, ref_none h hbad⟩
          have HBAD := Lib.hid hbad; clear hbad
          go_wp2_with fail
          go_region_held3 (fun W => W.cell? ⟨U, 1, none⟩ = some (.int .i64 (st2.i : Int)) ∧ W.cell? ⟨U, 2, none⟩ = some (.int .i64 (-1)))
            (exact HSS.out _ (by (repeat' (first | (with_reducible assumption) | (with_reducible exact Hid.out (by with_reducible assumption)) | (with_reducible refine RefAt.drewN ?_ _) | (with_reducible refine RefAt.drew ?_) | (with_reducible refine RefAt.alloc ?_ _)))))
            (first
              | (go_at_call 27; (refine (left_c s Q f2 T st2 _ hT1 (by (repeat' (first | (with_reducible assumption) | (with_reducible exact Hid.out (by with_reducible assumption)) | (with_reducible refine InAt.drewN ?_ _) | (with_reducible refine InAt.drew ?_))))).mono ?_); rintro e w5 ⟨rfl, nd, rfl⟩)
              | (go_at_call 29; (refine (err_none s Q f2 T st2 _ HBAD.out (by (repeat' (first | (with_reducible assumption) | (with_reducible exact Hid.out (by with_reducible assumption)) | (with_reducible refine InAt.drewN ?_ _) | (with_reducible refine InAt.drew ?_))))).mono ?_); rintro e w5 ⟨rfl, b5⟩; have i5 : InAt s w5 Q f2 T st2 := InAt.on b5 (by (repeat' (first | (with_reducible assumption) | (with_reducible exact Hid.out (by with_reducible assumption)) | (with_reducible refine InAt.drewN ?_ _) | (with_reducible refine InAt.drew ?_)))); have r5 : RefAt w5 U T st2 := RefAt.on b5 (by (repeat' (first | (with_reducible assumption) | (with_reducible exact Hid.out (by with_reducible assumption)) | (with_reducible refine RefAt.drewN ?_ _) | (with_reducible refine RefAt.drew ?_) | (with_reducible refine RefAt.alloc ?_ _)))); have k5 : Below w.heap.size w w5 := below_on b5 (by (repeat' (first | (with_reducible exact Below.refl _ _) | (with_reducible refine below_drewN ?_ _) | (with_reducible refine Below.drew ?_) | (with_reducible refine Below.alloc ?_ ?_ _) | (with_reducible refine Below.setCell ?_ ?_ _) | (with_reducible refine Below.trans ?_ (Below.mono (by with_reducible assumption) ?_)) | omega | (simp only [World.size_alloc, World.size_setCell, World.size_drew, Go.Proofs.YtcahidhcnhgbeaaDoor.World.size_drewN] at *; omega) | (with_reducible refine Below.size (B := 0) ?_)))); have hz5 := k5.size; clear b5)
              | (go_at_call 28; (refine (at_nil opRead _).mono ?_); rintro e w5 ⟨rfl, b5⟩; have i5 : InAt s w5 Q f2 T st2 := InAt.on b5 (by (repeat' (first | (with_reducible assumption) | (with_reducible exact Hid.out (by with_reducible assumption)) | (with_reducible refine InAt.drewN ?_ _) | (with_reducible refine InAt.drew ?_)))); have r5 : RefAt w5 U T st2 := RefAt.on b5 (by (repeat' (first | (with_reducible assumption) | (with_reducible exact Hid.out (by with_reducible assumption)) | (with_reducible refine RefAt.drewN ?_ _) | (with_reducible refine RefAt.drew ?_) | (with_reducible refine RefAt.alloc ?_ _)))); have k5 : Below w.heap.size w w5 := below_on b5 (by (repeat' (first | (with_reducible exact Below.refl _ _) | (with_reducible refine below_drewN ?_ _) | (with_reducible refine Below.drew ?_) | (with_reducible refine Below.alloc ?_ ?_ _) | (with_reducible refine Below.setCell ?_ ?_ _) | (with_reducible refine Below.trans ?_ (Below.mono (by with_reducible assumption) ?_)) | omega | (simp only [World.size_alloc, World.size_setCell, World.size_drew, Go.Proofs.YtcahidhcnhgbeaaDoor.World.size_drewN] at *; omega) | (with_reducible refine Below.size (B := 0) ?_)))); have hz5 := k5.size; clear b5))
          go_wp2_with fail
          by_cases hi : st2.i < T.size
          · have hiI : (st2.i : Int) < ((T.size : Nat) : Int) := by omega
            refine (end_more s Q f2 T st2 _ (hs.below (B := w.heap.size) (by (repeat' (first | (with_reducible exact Below.refl _ _) | (with_reducible refine below_drewN ?_ _) | (with_reducible refine Below.drew ?_) | (with_reducible refine Below.alloc ?_ ?_ _) | (with_reducible refine Below.setCell ?_ ?_ _) | (with_reducible refine Below.trans ?_ (Below.mono (by with_reducible assumption) ?_)) | omega | (simp only [World.size_alloc, World.size_setCell, World.size_drew, Go.Proofs.YtcahidhcnhgbeaaDoor.World.size_drewN] at *; omega) | (with_reducible refine Below.size (B := 0) ?_)))) (Nat.le_refl _)) hT1 HBAD.out hi (by (repeat' (first | (with_reducible assumption) | (with_reducible exact Hid.out (by with_reducible assumption)) | (with_reducible refine InAt.drewN ?_ _) | (with_reducible refine InAt.drew ?_))))).mono ?_
            rintro e w6 ⟨⟨_, rfl, g, rfl, hf⟩, b6⟩
            have F6 : FaultV s w6 opEnd st2.i (.iface 66 (.pointer (some ⟨g, 0, none⟩))) := ⟨g, rfl, hf⟩
            clear hf
            have i6 : InAt s w6 Q f2 T st2 := InAt.on b6 (by (repeat' (first | (with_reducible assumption) | (with_reducible exact Hid.out (by with_reducible assumption)) | (with_reducible refine InAt.drewN ?_ _) | (with_reducible refine InAt.drew ?_))))
            have r6 : RefAt w6 U T st2 := RefAt.on b6 (by (repeat' (first | (with_reducible assumption) | (with_reducible exact Hid.out (by with_reducible assumption)) | (with_reducible refine RefAt.drewN ?_ _) | (with_reducible refine RefAt.drew ?_) | (with_reducible refine RefAt.alloc ?_ _))))
            have k6 : Below w.heap.size w w6 := below_on b6 (by (repeat' (first | (with_reducible exact Below.refl _ _) | (with_reducible refine below_drewN ?_ _) | (with_reducible refine Below.drew ?_) | (with_reducible refine Below.alloc ?_ ?_ _) | (with_reducible refine Below.setCell ?_ ?_ _) | (with_reducible refine Below.trans ?_ (Below.mono (by with_reducible assumption) ?_)) | omega | (simp only [World.size_alloc, World.size_setCell, World.size_drew, Go.Proofs.YtcahidhcnhgbeaaDoor.World.size_drewN] at *; omega) | (with_reducible refine Below.size (B := 0) ?_))))
            have hz6 := k6.size
            obtain ⟨cA, cB⟩ := HSS.out _ r6
            clear b6 hi
            go_wp2_with fail
            clear cA cB
            go_region_held3 (fun W => W.cell? ⟨U, 1, none⟩ = some (.int .i64 (st2.i : Int)) ∧ W.cell? ⟨U, 2, none⟩ = some (.int .i64 (-1)))
              (exact HSS.out _ (by (repeat' (first | (with_reducible assumption) | (with_reducible exact Hid.out (by with_reducible assumption)) | (with_reducible refine RefAt.drewN ?_ _) | (with_reducible refine RefAt.drew ?_) | (with_reducible refine RefAt.alloc ?_ _)))))
              (first
                | (go_at_call 28; (refine (at_fault s opEnd st2.i _ _ (hs.below (B := w.heap.size) (by (repeat' (first | (with_reducible exact Below.refl _ _) | (with_reducible refine below_drewN ?_ _) | (with_reducible refine Below.drew ?_) | (with_reducible refine Below.alloc ?_ ?_ _) | (with_reducible refine Below.setCell ?_ ?_ _) | (with_reducible refine Below.trans ?_ (Below.mono (by with_reducible assumption) ?_)) | omega | (simp only [World.size_alloc, World.size_setCell, World.size_drew, Go.Proofs.YtcahidhcnhgbeaaDoor.World.size_drewN] at *; omega) | (with_reducible refine Below.size (B := 0) ?_)))) (Nat.le_refl _)) (by (repeat' (first | (with_reducible assumption) | (with_reducible exact Hid.out (by with_reducible assumption)) | (with_reducible refine FaultV.drewN ?_ _) | (with_reducible refine FaultV.drew ?_))))).mono ?_); rintro e w7 ⟨rfl, b7⟩; have i7 : InAt s w7 Q f2 T st2 := InAt.on b7 (by (repeat' (first | (with_reducible assumption) | (with_reducible exact Hid.out (by with_reducible assumption)) | (with_reducible refine InAt.drewN ?_ _) | (with_reducible refine InAt.drew ?_)))); have r7 : RefAt w7 U T st2 := RefAt.on b7 (by (repeat' (first | (with_reducible assumption) | (with_reducible exact Hid.out (by with_reducible assumption)) | (with_reducible refine RefAt.drewN ?_ _) | (with_reducible refine RefAt.drew ?_) | (with_reducible refine RefAt.alloc ?_ _)))); have k7 : Below w.heap.size w w7 := below_on b7 (by (repeat' (first | (with_reducible exact Below.refl _ _) | (with_reducible refine below_drewN ?_ _) | (with_reducible refine Below.drew ?_) | (with_reducible refine Below.alloc ?_ ?_ _) | (with_reducible refine Below.setCell ?_ ?_ _) | (with_reducible refine Below.trans ?_ (Below.mono (by with_reducible assumption) ?_)) | omega | (simp only [World.size_alloc, World.size_setCell, World.size_drew, Go.Proofs.YtcahidhcnhgbeaaDoor.World.size_drewN] at *; omega) | (with_reducible refine Below.size (B := 0) ?_)))); have hz7 := k7.size; clear b7))
            all_goals go_wp2_with fail
            all_goals go_roundw
            case rel => exact ⟨k + 1, by omega, by go_num, f2, st2, ⟨by (repeat' (first | (with_reducible assumption) | (with_reducible exact Hid.out (by with_reducible assumption)) | (with_reducible refine InAt.drewN ?_ _) | (with_reducible refine InAt.drew ?_))), by (repeat' (first | (with_reducible assumption) | (with_reducible exact Hid.out (by with_reducible assumption)) | (with_reducible refine RefAt.drewN ?_ _) | (with_reducible refine RefAt.drew ?_) | (with_reducible refine RefAt.alloc ?_ _))), hqu2, hfu2⟩, by (repeat' (first | (with_reducible exact Below.refl _ _) | (with_reducible refine below_drewN ?_ _) | (with_reducible refine Below.drew ?_) | (with_reducible refine Below.alloc ?_ ?_ _) | (with_reducible refine Below.setCell ?_ ?_ _) | (with_reducible refine Below.trans ?_ (Below.mono (by with_reducible assumption) ?_)) | omega | (simp only [World.size_alloc, World.size_setCell, World.size_drew, Go.Proofs.YtcahidhcnhgbeaaDoor.World.size_drewN] at *; omega) | (with_reducible refine Below.size (B := 0) ?_)))⟩
            case measure => simp [intOf]; omega

          · have hiI : ¬ (st2.i : Int) < ((T.size : Nat) : Int) := by omega
            refine (end_done s Q f2 T st2 _ hT1 HBAD.out hi (by (repeat' (first | (with_reducible assumption) | (with_reducible exact Hid.out (by with_reducible assumption)) | (with_reducible refine InAt.drewN ?_ _) | (with_reducible refine InAt.drew ?_))))).mono ?_
            rintro e w6 ⟨rfl, b6⟩
            have i6 : InAt s w6 Q f2 T st2 := InAt.on b6 (by (repeat' (first | (with_reducible assumption) | (with_reducible exact Hid.out (by with_reducible assumption)) | (with_reducible refine InAt.drewN ?_ _) | (with_reducible refine InAt.drew ?_))))
            have r6 : RefAt w6 U T st2 := RefAt.on b6 (by (repeat' (first | (with_reducible assumption) | (with_reducible exact Hid.out (by with_reducible assumption)) | (with_reducible refine RefAt.drewN ?_ _) | (with_reducible refine RefAt.drew ?_) | (with_reducible refine RefAt.alloc ?_ _))))
            have k6 : Below w.heap.size w w6 := below_on b6 (by (repeat' (first | (with_reducible exact Below.refl _ _) | (with_reducible refine below_drewN ?_ _) | (with_reducible refine Below.drew ?_) | (with_reducible refine Below.alloc ?_ ?_ _) | (with_reducible refine Below.setCell ?_ ?_ _) | (with_reducible refine Below.trans ?_ (Below.mono (by with_reducible assumption) ?_)) | omega | (simp only [World.size_alloc, World.size_setCell, World.size_drew, Go.Proofs.YtcahidhcnhgbeaaDoor.World.size_drewN] at *; omega) | (with_reducible refine Below.size (B := 0) ?_))))
            have hz6 := k6.size
            obtain ⟨cA, cB⟩ := HSS.out _ r6
            clear b6 hi
            go_wp2_with fail
            all_goals go_roundw
            case rel => exact ⟨k + 1, by omega, by go_num, f2, st2, ⟨by (repeat' (first | (with_reducible assumption) | (with_reducible exact Hid.out (by with_reducible assumption)) | (with_reducible refine InAt.drewN ?_ _) | (with_reducible refine InAt.drew ?_))), by (repeat' (first | (with_reducible assumption) | (with_reducible exact Hid.out (by with_reducible assumption)) | (with_reducible refine RefAt.drewN ?_ _) | (with_reducible refine RefAt.drew ?_) | (with_reducible refine RefAt.alloc ?_ _))), hqu2, hfu2⟩, by (repeat' (first | (with_reducible exact Below.refl _ _) | (with_reducible refine below_drewN ?_ _) | (with_reducible refine Below.drew ?_) | (with_reducible refine Below.alloc ?_ ?_ _) | (with_reducible refine Below.setCell ?_ ?_ _) | (with_reducible refine Below.trans ?_ (Below.mono (by with_reducible assumption) ?_)) | omega | (simp only [World.size_alloc, World.size_setCell, World.size_drew, Go.Proofs.YtcahidhcnhgbeaaDoor.World.size_drewN] at *; omega) | (with_reducible refine Below.size (B := 0) ?_)))⟩
            case measure => simp [intOf]; omega

        | some b =>
          have HSS : Hid (∀ W : World, RefAt W U T st2 → W.cell? ⟨U, 1, none⟩ = some (.int .i64 (st2.i : Int)) ∧ W.cell? ⟨U, 2, none⟩ = some (.int .i64 (b : Int))) := Lib.hid fun W h => ⟨h.cells.2.1, ref_some h hbad⟩
          have HBAD := Lib.hid hbad; clear hbad
          have hb0 : (0 : Int) ≤ (b : Int) := by omega
          have hb1 : ¬ (b : Int) < 0 := by omega
          have hb2 : decide ((b : Int) < 0) = false := by simp
          have hb3 : ((b : Int) != (b : Int)) = false := bne_self_eq_false _
          go_wp2_with fail
          go_region_held3 (fun W => W.cell? ⟨U, 1, none⟩ = some (.int .i64 (st2.i : Int)) ∧ W.cell? ⟨U, 2, none⟩ = some (.int .i64 (b : Int)))
            (exact HSS.out _ (by (repeat' (first | (with_reducible assumption) | (with_reducible exact Hid.out (by with_reducible assumption)) | (with_reducible refine RefAt.drewN ?_ _) | (with_reducible refine RefAt.drew ?_) | (with_reducible refine RefAt.alloc ?_ _)))))
            (first
              | (go_at_call 27; (refine (left_c s Q f2 T st2 _ hT1 (by (repeat' (first | (with_reducible assumption) | (with_reducible exact Hid.out (by with_reducible assumption)) | (with_reducible refine InAt.drewN ?_ _) | (with_reducible refine InAt.drew ?_))))).mono ?_); rintro e w5 ⟨rfl, nd, rfl⟩)
              | (go_at_call 29; (refine (err_some s Q f2 b T st2 _ (hs.below (B := w.heap.size) (by (repeat' (first | (with_reducible exact Below.refl _ _) | (with_reducible refine below_drewN ?_ _) | (with_reducible refine Below.drew ?_) | (with_reducible refine Below.alloc ?_ ?_ _) | (with_reducible refine Below.setCell ?_ ?_ _) | (with_reducible refine Below.trans ?_ (Below.mono (by with_reducible assumption) ?_)) | omega | (simp only [World.size_alloc, World.size_setCell, World.size_drew, Go.Proofs.YtcahidhcnhgbeaaDoor.World.size_drewN] at *; omega) | (with_reducible refine Below.size (B := 0) ?_)))) (Nat.le_refl _)) HBAD.out (by (repeat' (first | (with_reducible assumption) | (with_reducible exact Hid.out (by with_reducible assumption)) | (with_reducible refine InAt.drewN ?_ _) | (with_reducible refine InAt.drew ?_))))).mono ?_); rintro e w5 ⟨⟨_, rfl, g, rfl, hf⟩, b5⟩; have F5 : FaultV s w5 opRead b (.iface 66 (.pointer (some ⟨g, 0, none⟩))) := ⟨g, rfl, hf⟩; clear hf; have i5 : InAt s w5 Q f2 T st2 := InAt.on b5 (by (repeat' (first | (with_reducible assumption) | (with_reducible exact Hid.out (by with_reducible assumption)) | (with_reducible refine InAt.drewN ?_ _) | (with_reducible refine InAt.drew ?_)))); have r5 : RefAt w5 U T st2 := RefAt.on b5 (by (repeat' (first | (with_reducible assumption) | (with_reducible exact Hid.out (by with_reducible assumption)) | (with_reducible refine RefAt.drewN ?_ _) | (with_reducible refine RefAt.drew ?_) | (with_reducible refine RefAt.alloc ?_ _)))); have k5 : Below w.heap.size w w5 := below_on b5 (by (repeat' (first | (with_reducible exact Below.refl _ _) | (with_reducible refine below_drewN ?_ _) | (with_reducible refine Below.drew ?_) | (with_reducible refine Below.alloc ?_ ?_ _) | (with_reducible refine Below.setCell ?_ ?_ _) | (with_reducible refine Below.trans ?_ (Below.mono (by with_reducible assumption) ?_)) | omega | (simp only [World.size_alloc, World.size_setCell, World.size_drew, Go.Proofs.YtcahidhcnhgbeaaDoor.World.size_drewN] at *; omega) | (with_reducible refine Below.size (B := 0) ?_)))); have hz5 := k5.size; clear b5)
              | (go_at_call 28; (refine (at_fault s opRead b _ _ (hs.below (B := w.heap.size) (by (repeat' (first | (with_reducible exact Below.refl _ _) | (with_reducible refine below_drewN ?_ _) | (with_reducible refine Below.drew ?_) | (with_reducible refine Below.alloc ?_ ?_ _) | (with_reducible refine Below.setCell ?_ ?_ _) | (with_reducible refine Below.trans ?_ (Below.mono (by with_reducible assumption) ?_)) | omega | (simp only [World.size_alloc, World.size_setCell, World.size_drew, Go.Proofs.YtcahidhcnhgbeaaDoor.World.size_drewN] at *; omega) | (with_reducible refine Below.size (B := 0) ?_)))) (Nat.le_refl _)) (by (repeat' (first | (with_reducible assumption) | (with_reducible exact Hid.out (by with_reducible assumption)) | (with_reducible refine FaultV.drewN ?_ _) | (with_reducible refine FaultV.drew ?_))))).mono ?_); rintro e w5 ⟨rfl, b5⟩; have i5 : InAt s w5 Q f2 T st2 := InAt.on b5 (by (repeat' (first | (with_reducible assumption) | (with_reducible exact Hid.out (by with_reducible assumption)) | (with_reducible refine InAt.drewN ?_ _) | (with_reducible refine InAt.drew ?_)))); have r5 : RefAt w5 U T st2 := RefAt.on b5 (by (repeat' (first | (with_reducible assumption) | (with_reducible exact Hid.out (by with_reducible assumption)) | (with_reducible refine RefAt.drewN ?_ _) | (with_reducible refine RefAt.drew ?_) | (with_reducible refine RefAt.alloc ?_ _)))); have k5 : Below w.heap.size w w5 := below_on b5 (by (repeat' (first | (with_reducible exact Below.refl _ _) | (with_reducible refine below_drewN ?_ _) | (with_reducible refine Below.drew ?_) | (with_reducible refine Below.alloc ?_ ?_ _) | (with_reducible refine Below.setCell ?_ ?_ _) | (with_reducible refine Below.trans ?_ (Below.mono (by with_reducible assumption) ?_)) | omega | (simp only [World.size_alloc, World.size_setCell, World.size_drew, Go.Proofs.YtcahidhcnhgbeaaDoor.World.size_drewN] at *; omega) | (with_reducible refine Below.size (B := 0) ?_)))); have hz5 := k5.size; clear b5))
          go_wp2_with fail
          refine (end_bad s Q f2 b T st2 _ (hs.below (B := w.heap.size) (by (repeat' (first | (with_reducible exact Below.refl _ _) | (with_reducible refine below_drewN ?_ _) | (with_reducible refine Below.drew ?_) | (with_reducible refine Below.alloc ?_ ?_ _) | (with_reducible refine Below.setCell ?_ ?_ _) | (with_reducible refine Below.trans ?_ (Below.mono (by with_reducible assumption) ?_)) | omega | (simp only [World.size_alloc, World.size_setCell, World.size_drew, Go.Proofs.YtcahidhcnhgbeaaDoor.World.size_drewN] at *; omega) | (with_reducible refine Below.size (B := 0) ?_)))) (Nat.le_refl _)) HBAD.out (by (repeat' (first | (with_reducible assumption) | (with_reducible exact Hid.out (by with_reducible assumption)) | (with_reducible refine InAt.drewN ?_ _) | (with_reducible refine InAt.drew ?_))))).mono ?_
          rintro e w6 ⟨⟨_, rfl, g, rfl, hf⟩, b6⟩
          have F6 : FaultV s w6 opRead b (.iface 66 (.pointer (some ⟨g, 0, none⟩))) := ⟨g, rfl, hf⟩
          clear hf
          have i6 : InAt s w6 Q f2 T st2 := InAt.on b6 (by (repeat' (first | (with_reducible assumption) | (with_reducible exact Hid.out (by with_reducible assumption)) | (with_reducible refine InAt.drewN ?_ _) | (with_reducible refine InAt.drew ?_)))); have r6 : RefAt w6 U T st2 := RefAt.on b6 (by (repeat' (first | (with_reducible assumption) | (with_reducible exact Hid.out (by with_reducible assumption)) | (with_reducible refine RefAt.drewN ?_ _) | (with_reducible refine RefAt.drew ?_) | (with_reducible refine RefAt.alloc ?_ _)))); have k6 : Below w.heap.size w w6 := below_on b6 (by (repeat' (first | (with_reducible exact Below.refl _ _) | (with_reducible refine below_drewN ?_ _) | (with_reducible refine Below.drew ?_) | (with_reducible refine Below.alloc ?_ ?_ _) | (with_reducible refine Below.setCell ?_ ?_ _) | (with_reducible refine Below.trans ?_ (Below.mono (by with_reducible assumption) ?_)) | omega | (simp only [World.size_alloc, World.size_setCell, World.size_drew, Go.Proofs.YtcahidhcnhgbeaaDoor.World.size_drewN] at *; omega) | (with_reducible refine Below.size (B := 0) ?_)))); have hz6 := k6.size
          obtain ⟨cA, cB⟩ := HSS.out _ r6
          clear b6
          go_wp2_with fail
          clear cA cB
          go_region_held3 (fun W => W.cell? ⟨U, 1, none⟩ = some (.int .i64 (st2.i : Int)) ∧ W.cell? ⟨U, 2, none⟩ = some (.int .i64 (b : Int)))
            (exact HSS.out _ (by (repeat' (first | (with_reducible assumption) | (with_reducible exact Hid.out (by with_reducible assumption)) | (with_reducible refine RefAt.drewN ?_ _) | (with_reducible refine RefAt.drew ?_) | (with_reducible refine RefAt.alloc ?_ _)))))
            (first
              | (go_at_call 28; (refine (at_fault s opRead b _ _ (hs.below (B := w.heap.size) (by (repeat' (first | (with_reducible exact Below.refl _ _) | (with_reducible refine below_drewN ?_ _) | (with_reducible refine Below.drew ?_) | (with_reducible refine Below.alloc ?_ ?_ _) | (with_reducible refine Below.setCell ?_ ?_ _) | (with_reducible refine Below.trans ?_ (Below.mono (by with_reducible assumption) ?_)) | omega | (simp only [World.size_alloc, World.size_setCell, World.size_drew, Go.Proofs.YtcahidhcnhgbeaaDoor.World.size_drewN] at *; omega) | (with_reducible refine Below.size (B := 0) ?_)))) (Nat.le_refl _)) (by (repeat' (first | (with_reducible assumption) | (with_reducible exact Hid.out (by with_reducible assumption)) | (with_reducible refine FaultV.drewN ?_ _) | (with_reducible refine FaultV.drew ?_))))).mono ?_); rintro e w7 ⟨rfl, b7⟩; have i7 : InAt s w7 Q f2 T st2 := InAt.on b7 (by (repeat' (first | (with_reducible assumption) | (with_reducible exact Hid.out (by with_reducible assumption)) | (with_reducible refine InAt.drewN ?_ _) | (with_reducible refine InAt.drew ?_)))); have r7 : RefAt w7 U T st2 := RefAt.on b7 (by (repeat' (first | (with_reducible assumption) | (with_reducible exact Hid.out (by with_reducible assumption)) | (with_reducible refine RefAt.drewN ?_ _) | (with_reducible refine RefAt.drew ?_) | (with_reducible refine RefAt.alloc ?_ _)))); have k7 : Below w.heap.size w w7 := below_on b7 (by (repeat' (first | (with_reducible exact Below.refl _ _) | (with_reducible refine below_drewN ?_ _) | (with_reducible refine Below.drew ?_) | (with_reducible refine Below.alloc ?_ ?_ _) | (with_reducible refine Below.setCell ?_ ?_ _) | (with_reducible refine Below.trans ?_ (Below.mono (by with_reducible assumption) ?_)) | omega | (simp only [World.size_alloc, World.size_setCell, World.size_drew, Go.Proofs.YtcahidhcnhgbeaaDoor.World.size_drewN] at *; omega) | (with_reducible refine Below.size (B := 0) ?_)))); have hz7 := k7.size; clear b7))
          all_goals go_wp2_with fail
          all_goals go_roundw
          case rel => exact ⟨k + 1, by omega, by go_num, f2, st2, ⟨by (repeat' (first | (with_reducible assumption) | (with_reducible exact Hid.out (by with_reducible assumption)) | (with_reducible refine InAt.drewN ?_ _) | (with_reducible refine InAt.drew ?_))), by (repeat' (first | (with_reducible assumption) | (with_reducible exact Hid.out (by with_reducible assumption)) | (with_reducible refine RefAt.drewN ?_ _) | (with_reducible refine RefAt.drew ?_) | (with_reducible refine RefAt.alloc ?_ _))), hqu2, hfu2⟩, by (repeat' (first | (with_reducible exact Below.refl _ _) | (with_reducible refine below_drewN ?_ _) | (with_reducible refine Below.drew ?_) | (with_reducible refine Below.alloc ?_ ?_ _) | (with_reducible refine Below.setCell ?_ ?_ _) | (with_reducible refine Below.trans ?_ (Below.mono (by with_reducible assumption) ?_)) | omega | (simp only [World.size_alloc, World.size_setCell, World.size_drew, Go.Proofs.YtcahidhcnhgbeaaDoor.World.size_drewN] at *; omega) | (with_reducible refine Below.size (B := 0) ?_)))⟩
          case measure => simp [intOf]; omega
    · have hb' := Lib.hid hb
      clear hb hB
      by_cases hlt : k < xs.length
      all_goals
        first
          | (have h40 : ¬ k < 40 := fun h => hgo ⟨hlt, h⟩)
          | skip
        clear hgo
        have k2 := hb'.out
        have hz2 := k2.size
        have HSS : Hid (∀ W : World, Below w.heap.size w W → W.cell? ⟨0, 0, none⟩ = some (.iface 104 (.pointer (some (s 0))))) := Lib.hid fun W h => by
          have hg := (hs.below (B := w.heap.size) h (Nat.le_refl _)).cell 0 (by omega)
          simpa only [gnum, List.getD_cons_zero, List.getD_cons_succ] using hg
        have hE := eqVR
        go_wp2_with fail
        go_region_held3 (fun W => W.cell? ⟨0, 0, none⟩ = some (.iface 104 (.pointer (some (s 0)))))
          (exact HSS.out _ (by (repeat' (first | (with_reducible exact Below.refl _ _) | (with_reducible refine below_drewN ?_ _) | (with_reducible refine Below.drew ?_) | (with_reducible refine Below.alloc ?_ ?_ _) | (with_reducible refine Below.setCell ?_ ?_ _) | (with_reducible refine Below.trans ?_ (Below.mono (by with_reducible assumption) ?_)) | omega | (simp only [World.size_alloc, World.size_setCell, World.size_drew, Go.Proofs.YtcahidhcnhgbeaaDoor.World.size_drewN] at *; omega) | (with_reducible refine Below.size (B := 0) ?_)))))
          (first
            | (go_at_call 19; (refine (nilin_int _).mono ?_); rintro e w5 ⟨rfl, rfl⟩)
            | (go_at_call 21; (refine (nilin_text 9 _).mono ?_); rintro e w5 ⟨rfl, rfl⟩)
            | (go_at_call 23; (refine (nilin_vec s _ (hs.below (B := w.heap.size) (by (repeat' (first | (with_reducible exact Below.refl _ _) | (with_reducible refine below_drewN ?_ _) | (with_reducible refine Below.drew ?_) | (with_reducible refine Below.alloc ?_ ?_ _) | (with_reducible refine Below.setCell ?_ ?_ _) | (with_reducible refine Below.trans ?_ (Below.mono (by with_reducible assumption) ?_)) | omega | (simp only [World.size_alloc, World.size_setCell, World.size_drew, Go.Proofs.YtcahidhcnhgbeaaDoor.World.size_drewN] at *; omega) | (with_reducible refine Below.size (B := 0) ?_)))) (Nat.le_refl _))).mono ?_); rintro e w5 ⟨rfl, b5⟩; have k5 : Below w.heap.size w w5 := below_on b5 (by (repeat' (first | (with_reducible exact Below.refl _ _) | (with_reducible refine below_drewN ?_ _) | (with_reducible refine Below.drew ?_) | (with_reducible refine Below.alloc ?_ ?_ _) | (with_reducible refine Below.setCell ?_ ?_ _) | (with_reducible refine Below.trans ?_ (Below.mono (by with_reducible assumption) ?_)) | omega | (simp only [World.size_alloc, World.size_setCell, World.size_drew, Go.Proofs.YtcahidhcnhgbeaaDoor.World.size_drewN] at *; omega) | (with_reducible refine Below.size (B := 0) ?_)))); have hz5 := k5.size; clear b5)
            | (go_at_call 25; (refine (nilin_bool _).mono ?_); rintro e w5 ⟨rfl, rfl⟩)
            | (go_at_call 27; (refine (nilin_left _).mono ?_); rintro e w5 ⟨rfl, rfl⟩)
            | (go_at_call 29; (refine (nilin_err s _ (hs.below (B := w.heap.size) (by (repeat' (first | (with_reducible exact Below.refl _ _) | (with_reducible refine below_drewN ?_ _) | (with_reducible refine Below.drew ?_) | (with_reducible refine Below.alloc ?_ ?_ _) | (with_reducible refine Below.setCell ?_ ?_ _) | (with_reducible refine Below.trans ?_ (Below.mono (by with_reducible assumption) ?_)) | omega | (simp only [World.size_alloc, World.size_setCell, World.size_drew, Go.Proofs.YtcahidhcnhgbeaaDoor.World.size_drewN] at *; omega) | (with_reducible refine Below.size (B := 0) ?_)))) (Nat.le_refl _))).mono ?_); rintro e w5 ⟨rfl, rfl⟩)
            | (go_at_call 30; (refine (nilin_end s _ (hs.below (B := w.heap.size) (by (repeat' (first | (with_reducible exact Below.refl _ _) | (with_reducible refine below_drewN ?_ _) | (with_reducible refine Below.drew ?_) | (with_reducible refine Below.alloc ?_ ?_ _) | (with_reducible refine Below.setCell ?_ ?_ _) | (with_reducible refine Below.trans ?_ (Below.mono (by with_reducible assumption) ?_)) | omega | (simp only [World.size_alloc, World.size_setCell, World.size_drew, Go.Proofs.YtcahidhcnhgbeaaDoor.World.size_drewN] at *; omega) | (with_reducible refine Below.size (B := 0) ?_)))) (Nat.le_refl _))).mono ?_); rintro e w5 ⟨rfl, rfl⟩)
            | (go_at_call 31; (refine (is_sent s 0 0 _ (hs.below (B := w.heap.size) (by (repeat' (first | (with_reducible exact Below.refl _ _) | (with_reducible refine below_drewN ?_ _) | (with_reducible refine Below.drew ?_) | (with_reducible refine Below.alloc ?_ ?_ _) | (with_reducible refine Below.setCell ?_ ?_ _) | (with_reducible refine Below.trans ?_ (Below.mono (by with_reducible assumption) ?_)) | omega | (simp only [World.size_alloc, World.size_setCell, World.size_drew, Go.Proofs.YtcahidhcnhgbeaaDoor.World.size_drewN] at *; omega) | (with_reducible refine Below.size (B := 0) ?_)))) (Nat.le_refl _)) (by omega) (by omega)).mono ?_); rintro e w5 ⟨rfl, rfl⟩))
        all_goals go_wp2_with fail
        all_goals go_ret
        all_goals exact ⟨rfl, by (repeat' (first | (with_reducible exact Below.refl _ _) | (with_reducible refine below_drewN ?_ _) | (with_reducible refine Below.drew ?_) | (with_reducible refine Below.alloc ?_ ?_ _) | (with_reducible refine Below.setCell ?_ ?_ _) | (with_reducible refine Below.trans ?_ (Below.mono (by with_reducible assumption) ?_)) | omega | (simp only [World.size_alloc, World.size_setCell, World.size_drew, Go.Proofs.YtcahidhcnhgbeaaDoor.World.size_drewN] at *; omega) | (with_reducible refine Below.size (B := 0) ?_)))⟩

theorem reads_any (s : Nat → Addr) (T : ByteArray) (A : Option Addr) (c : Nat) (xs : List ActD) (w : World) (hs : Sent s w) (hT : T.size ≤ 9223372036854775807) (hn : xs.length ≤ 9223372036854775807) (hg : ∀ x ∈ xs, GoodA x) (hA : ARow w w.heap.size A xs) :
    Calls Tryd.prog 4 #[.string T, .slice A xs.length c] w fun e w' => e = .returned (.bool true) ∧ Below w.heap.size w w' := by
  by_cases h : 1024 < T.size
  · exact reads_long s T A xs.length c w hs hT h
  · exact reads_walk s T A c xs w hs (by omega) hn hg hA
end Go.Proofs.YtcahidhcnhgbeaaDoor
