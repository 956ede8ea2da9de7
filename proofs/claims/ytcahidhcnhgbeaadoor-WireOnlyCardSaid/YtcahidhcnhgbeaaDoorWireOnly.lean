/- The walk of the law WireOnly: whatever the bytes, it returns true. Condition: the sentinels lie as the program's text lays them. -/
import Derived.Test.YtcahidhcnhgbeaaDoorWireA
namespace Go.Proofs.YtcahidhcnhgbeaaDoor
open Go Go.RowKit

theorem InAt.own {s : Nat → Addr} {w : World} {q f : Nat} {T : ByteArray} {st : St} (h : InAt s w q f T st) (hb : st.bad = none) : f = q := by
  obtain ⟨ev, _, h2, _⟩ := h; rw [hb] at h2; exact h2.2
theorem InAt.le {s : Nat → Addr} {w : World} {q f : Nat} {T : ByteArray} {st : St} (h : InAt s w q f T st) : st.i ≤ T.size := by
  obtain ⟨ev, _, _, h3, _⟩ := h; exact h3
/-- The place of the reader at block q. -/
def posOf (q : Nat) (w : World) : Nat := match w.cell? ⟨q, 1, none⟩ with | some (.int _ n) => n.toNat | _ => 0
theorem InAt.pos {s : Nat → Addr} {w : World} {q f : Nat} {T : ByteArray} {st : St} (h : InAt s w q f T st) : posOf q w = st.i := by
  obtain ⟨ev, h1, _⟩ := h
  have c1 : w.cell? ⟨q, 1, none⟩ = some (.int .i64 (st.i : Int)) := cell_of_heap h1 1
  unfold posOf; rw [c1]; simp

set_option maxHeartbeats 1600000 in
set_option maxRecDepth 100000 in
theorem only_long (s : Nat → Addr) (T : ByteArray) (w : World) (hs : Sent s w) (hT : T.size ≤ 9223372036854775807) (hl : 512 < T.size) :
    Calls Tryd.prog 6 #[.string T] w fun e w' => e = .returned (.bool true) ∧ Below w.heap.size w w' := by
  go_enter Tryd.func6, Tryd.ntmps6
  go_wp2_with fail
  refine (awake_c s _ hs).mono ?_
  rintro e w1 ⟨rfl, hb1⟩
  go_wp2_with fail
  go_ret
  exact ⟨rfl, by (repeat' (first | (with_reducible exact Below.refl _ _) | (with_reducible refine below_drewN ?_ _) | (with_reducible refine Below.drew ?_) | (with_reducible refine Below.alloc ?_ ?_ _) | (with_reducible refine Below.setCell ?_ ?_ _) | (with_reducible refine Below.trans ?_ (Below.mono (by with_reducible assumption) ?_)) | omega | (simp only [World.size_alloc, World.size_setCell, World.size_drew, Go.Proofs.YtcahidhcnhgbeaaDoor.World.size_drewN] at *; omega) | (with_reducible refine Below.size (B := 0) ?_)))⟩

theorem take_step (l : List UInt8) (k j : Nat) (e : List UInt8) (h : e = (l.drop k).take j) : l.take k ++ e = l.take (k + j) := by
  rw [h, List.take_add]
/-- What a round of the law begins with. -/
def ORel (s : Nat → Addr) (w : World) (q p : Nat) (T : ByteArray) (wr : World) : Prop :=
  ∃ k o, InAt s wr q q T ⟨k, none⟩ ∧ OutAt wr p o (T.data.toList.take k) ∧ Below w.heap.size w wr

set_option maxHeartbeats 3200000 in
set_option maxRecDepth 100000 in
theorem only_walk (s : Nat → Addr) (T : ByteArray) (w : World) (hs : Sent s w) (hl : T.size ≤ 512) :
    Calls Tryd.prog 6 #[.string T] w fun e w' => e = .returned (.bool true) ∧ Below w.heap.size w w' := by
  go_enter Tryd.func6, Tryd.ntmps6
  go_wp2_with fail
  refine (awake_c s _ hs).mono ?_
  rintro e w1 ⟨rfl, hb1⟩
  go_wp2_with fail
  refine (of_c s T _).mono ?_
  rintro e w2 ⟨rfl, i2, b2⟩
  have hz1 := hb1.size
  have hz2 := i2.lt.1
  have R : Hid (ORel s w w1.heap.size w2.heap.size T (w2.alloc (.cells #[.slice none 0 0] 27))) := Lib.hid ⟨0, _, i2.alloc _, by simpa using OutAt.new w2, (hb1.trans (b2.mono hz1)).alloc (by omega) _⟩
  clear i2 b2 hb1
  obtain ⟨q, hqq⟩ : ∃ q, q = w1.heap.size := ⟨_, rfl⟩
  rw [← hqq] at hz1 hz2 R ⊢
  clear hqq
  go_wp2_with fail
  obtain ⟨p, hpp⟩ : ∃ p, p = w2.heap.size := ⟨_, rfl⟩
  rw [← hpp] at hz2 R ⊢
  clear hpp
  go_loopw [5] (fun u wr => ORel s w q p T wr) (fun u wr => T.size - posOf q wr)
  case atStart => exact R.out
  case round =>
    obtain ⟨k, o, hi, ho, hb⟩ := hrel
    have hpos := Lib.hid hi.pos
    have hkl := hi.le
    have hzb := hb.size
    have hol := ho.lt
    clear R
    go_wp2_with fail
    refine (left_c s q _ T _ _ (by omega) hi).mono ?_
    rintro e w3 ⟨rfl, nd, rfl⟩
    by_cases hk : k < T.size
    · have hgt : (0 : Int) < (T.size : Int) - (k : Int) := by omega
      go_wp2_with fail
      refine (left_c s q _ T _ _ (by omega) (hi.drewN nd)).mono ?_
      rintro e w3 ⟨rfl, nd2, rfl⟩
      go_wp2_with fail
      cases hd : dec (T.data.toList.drop k) with
      | none =>
        refine (int_n s q _ T _ (failS T k ⟨k, none⟩) 0 _ (SentB.of hs (below_drewN hb _) hz1) (by omega) (hi.drewN _) (by rw [intS_none hd]) (by rw [intS_none hd]; rfl)).mono ?_
        rintro e w4 ⟨rfl, f4, i4, g4, r4⟩
        have K4 : Hid (Below w.heap.size w w4) := Lib.hid ((below_drewN hb _).trans (g4.below hz1 hz1 hzb))
        have HI4 := Lib.hid i4
        clear i4 g4 r4 hi ho hb hd hpos hol
        go_wp2_with fail
        refine (err_some s q _ k T _ _ (SentB.of hs K4.out hz1).sent rfl HI4.out).mono ?_
        rintro e w5 ⟨⟨ev, rfl, g, rfl, hF⟩, b5⟩
        have K5 : Hid (Below w.heap.size w w5) := Lib.hid (K4.out.trans (b5.mono K4.out.size))
        have HI5 := Lib.hid (HI4.out.below b5 HI4.out.lt.1 HI4.out.lt.2.2)
        clear b5 HI4 K4 hF
        go_wp2_with fail
        refine (left_c s q _ T _ _ (by omega) HI5.out).mono ?_
        rintro e w6 ⟨rfl, nd3, rfl⟩
        rw [show ((T.size : Nat) : Int) - (((failS T k ⟨k, none⟩).i : Nat) : Int) = 0 from by simp [failS]]
        go_wp2_with fail
        go_ret
        exact ⟨rfl, below_drewN K5.out _⟩
      | some pn =>
        obtain ⟨n, j⟩ := pn
        have hen := enc_of_dec _ n j hd
        have hj : k + j ≤ T.size := by have := hen.2.2.1; simp at this; omega
        have hj1 := hen.2.2.2.1
        refine (int_n s q _ T _ ⟨k + j, none⟩ n _ (SentB.of hs (below_drewN hb _) hz1) (by omega) (hi.drewN _) (by rw [intS_some hd]) (by rw [intS_some hd]; rfl)).mono ?_
        rintro e w4 ⟨rfl, f4, i4, g4, r4⟩
        obtain rfl := i4.own rfl
        have K4 : Hid (Below w.heap.size w w4) := Lib.hid ((below_drewN hb _).trans (g4.below hz1 hz1 hzb))
        have HO4 := Lib.hid ((ho.drewN _).kept g4 (by omega) (by omega) (by omega) (by omega))
        have HI4 := Lib.hid i4
        have HE := Lib.hid (take_step T.data.toList k j (enc n) hen.2.1)
        have Hn := Lib.hid hen.1
        clear i4 g4 r4 hi ho hb hd hen
        go_wp2_with fail
        refine (err_none s f4 _ T _ _ rfl HI4.out).mono ?_
        rintro e w5 ⟨rfl, b5⟩
        have K5 : Hid (Below w.heap.size w w5) := Lib.hid (K4.out.trans (b5.mono K4.out.size))
        have HI5 := Lib.hid (HI4.out.below b5 HI4.out.lt.1 HI4.out.lt.2.2)
        have HO5 := Lib.hid (HO4.out.below b5 HO4.out.lt.1 HO4.out.lt.2.2)
        clear b5 HI4 K4 HO4
        go_wp2_with fail
        refine (left_c s f4 _ T _ _ (by omega) HI5.out).mono ?_
        rintro e w6 ⟨rfl, nd3, rfl⟩
        have hlt : (T.size : Int) - ((k + j : Nat) : Int) < (T.size : Int) - (k : Int) := by omega
        have K6 : Hid (Below w.heap.size w (w5.drewN nd3)) := Lib.hid (below_drewN K5.out _)
        have HI6 := Lib.hid (HI5.out.drewN nd3)
        have HO6 := Lib.hid (HO5.out.drewN nd3)
        clear HI5 HO5 K5
        go_wp2_with fail
        refine (out_int n p o _ _ Hn.out HO6.out (by rw [List.length_take]; simp; omega)).mono ?_
        rintro e w7 ⟨rfl, o7, i7, g7, r7⟩
        have K7 : Hid (Below w.heap.size w w7) := Lib.hid (K6.out.trans (g7.below (by omega) (by omega) K6.out.size))
        have HI7 := Lib.hid (HI6.out.kept g7 (by omega) (by omega) (by omega) (by omega))
        rw [HE.out] at i7
        have HO7 := Lib.hid i7
        clear i7 g7 r7 HI6 HO6 K6
        have hp7 := Lib.hid HI7.out.pos
        go_wp2_with fail
        go_roundw
        case rel => exact ⟨k + j, o7, HI7.out, HO7.out, K7.out⟩
        case measure => rw [hp7.out, hpos.out]; omega
    · have hkk : k = T.size := by have h9 : k ≤ T.size := hkl; omega
      have hle : (T.size : Int) - (k : Int) ≤ 0 := by omega
      have HO3 := Lib.hid (ho.drewN nd)
      have HI3 := Lib.hid (hi.drewN nd)
      have K3 := Lib.hid (below_drewN hb nd)
      have HE := Lib.hid (show T.data.toList.take k = T.data.toList by rw [hkk]; exact List.take_of_length_le (by simp))
      have HK := Lib.hid hkk
      clear hi ho hb hkk hpos hkl
      go_wp2_with fail
      refine (out_bytes p o _ _ HO3.out).mono ?_
      rintro e w4 ⟨rfl, rfl⟩
      rw [HE.out]
      go_wp2_with fail
      refine (end_done s q _ T _ _ (by omega) rfl (by rw [HK.out]; simp) HI3.out).mono ?_
      rintro e w5 ⟨rfl, b5⟩
      have K5 := Lib.hid (K3.out.trans (b5.mono K3.out.size))
      clear b5 HO3 HI3 K3
      go_wp2_with fail
      go_ret
      exact ⟨rfl, K5.out⟩

theorem only_any (s : Nat → Addr) (T : ByteArray) (w : World) (hs : Sent s w) (hT : T.size ≤ 9223372036854775807) :
    Calls Tryd.prog 6 #[.string T] w fun e w' => e = .returned (.bool true) ∧ Below w.heap.size w w' := by
  by_cases h : 512 < T.size
  · exact only_long s T w hs hT h
  · exact only_walk s T w hs (by omega)
end Go.Proofs.YtcahidhcnhgbeaaDoor
