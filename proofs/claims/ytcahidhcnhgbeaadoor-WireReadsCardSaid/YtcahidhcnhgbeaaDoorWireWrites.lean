/- The walk of the law WireWrites: whatever the row of deeds, it returns true. Conditions: the sentinels lie as the program's text lays them; the deeds' cells hold what the list says. -/
import Derived.Test.YtcahidhcnhgbeaaDoorWireB
namespace Go.Proofs.YtcahidhcnhgbeaaDoor
open Go Go.RowKit

/-- A deed. -/
structure ActD where
  kind : Int
  n : Int
  s : ByteArray
  v : Q4
  b : Bool
def GoodA (x : ActD) : Prop := I64 x.n ∧ Good4 x.v ∧ x.s.size ≤ 9223372036854775807
/-- A slice of deeds that came in reads as a list; its cells lie below block B. -/
def ARow (w : World) (B : Nat) (A : Option Addr) (xs : List ActD) : Prop :=
  0 < xs.length → ∃ ad, A = some ad ∧ ad.block < B ∧ ∀ i x, xs[i]? = some x → w.cell? (ad.add (i * 8)) = some (.int .i64 x.kind) ∧ w.cell? ⟨(ad.add (i * 8)).block, (ad.add (i * 8)).off + 1, none⟩ = some (.int .i64 x.n) ∧
    w.cell? ⟨(ad.add (i * 8)).block, (ad.add (i * 8)).off + 2, none⟩ = some (.string x.s) ∧ w.cell? ⟨(ad.add (i * 8)).block, (ad.add (i * 8)).off + 3, none⟩ = some (.int .i64 x.v.a) ∧ w.cell? ⟨(ad.add (i * 8)).block, (ad.add (i * 8)).off + 4, none⟩ = some (.int .i64 x.v.b) ∧
    w.cell? ⟨(ad.add (i * 8)).block, (ad.add (i * 8)).off + 5, none⟩ = some (.int .i64 x.v.c) ∧ w.cell? ⟨(ad.add (i * 8)).block, (ad.add (i * 8)).off + 6, none⟩ = some (.int .i64 x.v.d) ∧ w.cell? ⟨(ad.add (i * 8)).block, (ad.add (i * 8)).off + 7, none⟩ = some (.bool x.b)
theorem ARow.cells {w W : World} {B : Nat} {A : Option Addr} {xs : List ActD} (h : ARow w B A xs) (hb : Below B w W) {i : Nat} {x : ActD} (hi : xs[i]? = some x) : ∃ ad, A = some ad ∧ W.cell? (ad.add (i * 8)) = some (.int .i64 x.kind) ∧ W.cell? ⟨(ad.add (i * 8)).block, (ad.add (i * 8)).off + 1, none⟩ = some (.int .i64 x.n) ∧
    W.cell? ⟨(ad.add (i * 8)).block, (ad.add (i * 8)).off + 2, none⟩ = some (.string x.s) ∧ W.cell? ⟨(ad.add (i * 8)).block, (ad.add (i * 8)).off + 3, none⟩ = some (.int .i64 x.v.a) ∧ W.cell? ⟨(ad.add (i * 8)).block, (ad.add (i * 8)).off + 4, none⟩ = some (.int .i64 x.v.b) ∧
    W.cell? ⟨(ad.add (i * 8)).block, (ad.add (i * 8)).off + 5, none⟩ = some (.int .i64 x.v.c) ∧ W.cell? ⟨(ad.add (i * 8)).block, (ad.add (i * 8)).off + 6, none⟩ = some (.int .i64 x.v.d) ∧ W.cell? ⟨(ad.add (i * 8)).block, (ad.add (i * 8)).off + 7, none⟩ = some (.bool x.b) := by
  obtain ⟨ad, e, hl, hc⟩ := h (Nat.lt_of_le_of_lt (Nat.zero_le _) (List.getElem?_eq_some_iff.1 hi).1)
  obtain ⟨h0, h1, h2, h3, h4, h5, h6, h7⟩ := hc i x hi
  have hp : (ad.add (i * 8)).block < B := by rw [block_add]; exact hl
  exact ⟨ad, e, (hb.cell hp).trans h0, (hb.cell (p := ⟨(ad.add (i * 8)).block, _, none⟩) hp).trans h1, (hb.cell (p := ⟨(ad.add (i * 8)).block, _, none⟩) hp).trans h2, (hb.cell (p := ⟨(ad.add (i * 8)).block, _, none⟩) hp).trans h3,
    (hb.cell (p := ⟨(ad.add (i * 8)).block, _, none⟩) hp).trans h4, (hb.cell (p := ⟨(ad.add (i * 8)).block, _, none⟩) hp).trans h5, (hb.cell (p := ⟨(ad.add (i * 8)).block, _, none⟩) hp).trans h6, (hb.cell (p := ⟨(ad.add (i * 8)).block, _, none⟩) hp).trans h7⟩

/-- A deed in a block of its own. -/
def XBlk (w : World) (g : Nat) (x : ActD) : Prop := w.heap[g]? = some (.cells #[.int .i64 x.kind, .int .i64 x.n, .string x.s, .int .i64 x.v.a, .int .i64 x.v.b, .int .i64 x.v.c, .int .i64 x.v.d, .bool x.b] 31 (0, 0))
theorem XBlk.new (w : World) (x : ActD) : XBlk (w.alloc (.cells #[.int .i64 x.kind, .int .i64 x.n, .string x.s, .int .i64 x.v.a, .int .i64 x.v.b, .int .i64 x.v.c, .int .i64 x.v.d, .bool x.b] 31)) w.heap.size x := heap_alloc_new w _
theorem XBlk.cells {w : World} {g : Nat} {x : ActD} (h : XBlk w g x) : w.cell? ⟨g, 0, none⟩ = some (.int .i64 x.kind) ∧ w.cell? ⟨g, 1, none⟩ = some (.int .i64 x.n) ∧ w.cell? ⟨g, 2, none⟩ = some (.string x.s) ∧ w.cell? ⟨g, 3, none⟩ = some (.int .i64 x.v.a) ∧ w.cell? ⟨g, 4, none⟩ = some (.int .i64 x.v.b) ∧
    w.cell? ⟨g, 5, none⟩ = some (.int .i64 x.v.c) ∧ w.cell? ⟨g, 6, none⟩ = some (.int .i64 x.v.d) ∧ w.cell? ⟨g, 7, none⟩ = some (.bool x.b) ∧ g < w.heap.size :=
  ⟨cell_of_heap h 0, cell_of_heap h 1, cell_of_heap h 2, cell_of_heap h 3, cell_of_heap h 4, cell_of_heap h 5, cell_of_heap h 6, cell_of_heap h 7, lt_of_block h⟩
theorem XBlk.kept {w w' : World} {g p q : Nat} {x : ActD} (h : XBlk w g x) (hc : Chg p q w w') (h1 : g ≠ p) (h2 : g ≠ q) : XBlk w' g x := hc.row h h1 h2
theorem XBlk.below {w w' : World} {g B : Nat} {x : ActD} (h : XBlk w g x) (hb : Below B w w') (hg : g < B) : XBlk w' g x := (hb.block g hg).trans h

/-- What a deed writes. -/
def encA (x : ActD) : List UInt8 := if x.kind = 1 then enc x.n else if x.kind = 2 then encT x.s.data.toList else if x.kind = 3 then encV x.v.a x.v.b x.v.c x.v.d else encB x.b
def encAs (xs : List ActD) : List UInt8 := xs.flatMap encA

theorem step_bytes {xs : List ActD} {k : Nat} {x : ActD} (h : xs[k]? = some x) : encAs (xs.take (k + 1)) = encAs (xs.take k) ++ encA x := by
  unfold encAs
  rw [List.take_add_one, h, List.flatMap_append]
  simp
theorem lenB (b : Bool) : (encB b).length ≤ 10 := by
  cases b
  · exact (enc_len 0 (by unfold I64; omega)).1
  · exact (enc_len 1 (by unfold I64; omega)).1
theorem lenV {v : Q4} (h : Good4 v) : (encV v.a v.b v.c v.d).length ≤ 40 := by
  have h1 := (enc_len _ h.1).1
  have h2 := (enc_len _ h.2.1).1
  have h3 := (enc_len _ h.2.2.1).1
  have h4 := (enc_len _ h.2.2.2).1
  simp only [encV, List.length_append]; omega
theorem lenT (S : List UInt8) (h : S.length ≤ 100) : (encT S).length ≤ 110 := by
  have h1 := (enc_len (S.length : Int) (by unfold I64; omega)).1
  simp only [encT, List.length_append]; omega
/-- What a round begins with. -/
def WRel (w : World) (P : Nat) (xs : List ActD) (k : Nat) (want : Value) (wr : World) : Prop :=
  ∃ o, OutAt wr P o (encAs (xs.take k)) ∧ want = .string ⟨(encAs (xs.take k)).toArray⟩ ∧ (encAs (xs.take k)).length ≤ 200 * k ∧ Below w.heap.size w wr

set_option maxHeartbeats 6400000 in
set_option maxRecDepth 100000 in
theorem writes_walk (s : Nat → Addr) (A : Option Addr) (c : Nat) (xs : List ActD) (w : World) (hs : Sent s w) (hn : xs.length ≤ 9223372036854775807) (hg : ∀ x ∈ xs, GoodA x) (hA : ARow w w.heap.size A xs) :
    Calls Tryd.prog 3 #[.slice A xs.length c] w fun e w' => e = .returned (.bool true) ∧ Below w.heap.size w w' := by
  have HG := Lib.hid hg; clear hg
  have HA := Lib.hid hA; clear hA
  go_enter Tryd.func3, Tryd.ntmps3
  go_wp2_with fail
  refine (awake_c s _ hs).mono ?_
  rintro e w1 ⟨rfl, hb1⟩
  have hz1 := hb1.size
  have R0 : Hid (WRel w w1.heap.size xs 0 (.string ⟨#[]⟩) (w1.alloc (.cells #[.slice none 0 0] 27))) := Lib.hid ⟨_, by simpa [encAs] using OutAt.new w1, by simp [encAs], by simp [encAs], hb1.alloc hz1 _⟩
  clear hb1
  go_wp2_with fail
  obtain ⟨P, hP⟩ : ∃ P, P = w1.heap.size := ⟨_, rfl⟩
  rw [← hP] at hz1 R0 ⊢
  clear hP
  go_loopw [4, 5] (fun want i wr => ∃ k : Nat, k ≤ xs.length ∧ i = .int .i64 k ∧ WRel w P xs k want wr) (fun _ i _ => xs.length - (intOf i).toNat)
  case atStart => exact ⟨0, Nat.zero_le _, rfl, R0.out⟩
  case round =>
    obtain ⟨k, hk, rfl, o, ho, rfl, hlen, hb⟩ := hrel
    clear R0
    have hbz := hb.size
    have hol := ho.lt
    by_cases hgo : k < xs.length ∧ k < 40
    · obtain ⟨hlt, h40⟩ := hgo
      obtain ⟨x, hx⟩ : ∃ x, xs[k]? = some x := ⟨_, List.getElem?_eq_getElem hlt⟩
      obtain ⟨ad, rfl, c0, c1, c2, c3, c4, c5, c6, c7⟩ := HA.out.cells hb hx
      obtain ⟨hn, hv, hs9⟩ := HG.out x (List.mem_of_getElem? hx)
      have HX := Lib.hid hx
      have Hn := Lib.hid hn
      have Hv := Lib.hid hv
      clear hx hn hv
      have hX0 := XBlk.new wr x
      have hbX := hb.alloc hbz (.cells #[.int .i64 x.kind, .int .i64 x.n, .string x.s, .int .i64 x.v.a, .int .i64 x.v.b, .int .i64 x.v.c, .int .i64 x.v.d, .bool x.b] 31)
      have hoX := ho.alloc (.cells #[.int .i64 x.kind, .int .i64 x.n, .string x.s, .int .i64 x.v.a, .int .i64 x.v.b, .int .i64 x.v.c, .int .i64 x.v.d, .bool x.b] 31)
      have KX := Lib.hid hbX
      have OX := Lib.hid hoX
      have XX := Lib.hid hX0
      clear hbX hoX hX0
      by_cases h100 : 100 < x.s.size
      · clear ho hb
        go_wp2_with fail
        go_ret
        exact ⟨rfl, KX.out⟩
      · have hS := Lib.hid (step_bytes HX.out)
        have hcat := cat_str
        have hl0 : (encAs (xs.take k)).length ≤ 8000 := by omega
        clear ho hb
        by_cases hk1 : x.kind = 1
        · have HS := Lib.hid (show encAs (xs.take (k + 1)) = encAs (xs.take k) ++ enc x.n by rw [hS.out]; unfold encA; rw [if_pos hk1])
          have hl1 := (enc_len x.n Hn.out).1
          have e1 : (x.kind == 1) = true := by simpa using hk1
          clear hk1
          go_wp2_with fail
          refine (out_int x.n P o _ _ Hn.out OX.out (by omega)).mono ?_
          rintro e w2 ⟨rfl, o2, i2, g2, q2⟩
          have K2 := Lib.hid (KX.out.trans (g2.below hz1 (by omega) KX.out.size))
          have I2 := Lib.hid i2
          have X2 := Lib.hid (XX.out.kept g2 (by omega) (by omega))
          clear i2 g2 q2 c0 c1 c2 c3 c4 c5 c6 c7 KX OX XX
          obtain ⟨d0, d1, d2, d3, d4, d5, d6, d7, dl⟩ := X2.out.cells
          go_wp2_with fail
          refine (rint_c x.n _ Hn.out).mono ?_
          rintro e w3 ⟨rfl, b3⟩
          have K3 := Lib.hid (K2.out.trans (b3.mono K2.out.size))
          have I3 := Lib.hid (I2.out.below b3 I2.out.lt.1 I2.out.lt.2.2)
          clear b3 K2 I2 X2 d0 d1 d2 d3 d4 d5 d6 d7 dl
          go_wp2_with fail
          refine (out_bytes P o2 _ _ I3.out).mono ?_
          rintro e w4 ⟨rfl, rfl⟩
          go_wp2_with fail
          go_roundw
          case rel => exact ⟨k + 1, by omega, by go_num, o2, by rw [HS.out]; exact I3.out, by rw [HS.out], by rw [HS.out, List.length_append]; omega, K3.out⟩
          case measure => simp [intOf]; omega
        · have e1 : (x.kind == 1) = false := by simpa using hk1
          by_cases hk2 : x.kind = 2
          · have HS := Lib.hid (show encAs (xs.take (k + 1)) = encAs (xs.take k) ++ encT x.s.data.toList by rw [hS.out]; unfold encA; rw [if_neg hk1, if_pos hk2])
            have hl1 := lenT x.s.data.toList (by simp; omega)
            have e2 : (x.kind == 2) = true := by simpa using hk2
            clear hk1 hk2
            go_wp2_with fail
            refine (out_text x.s P o _ _ OX.out (by omega) (by omega)).mono ?_
            rintro e w2 ⟨rfl, o2, i2, g2, q2⟩
            have K2 := Lib.hid (KX.out.trans (g2.below hz1 (by omega) KX.out.size))
            have I2 := Lib.hid i2
            have X2 := Lib.hid (XX.out.kept g2 (by omega) (by omega))
            clear i2 g2 q2 c0 c1 c2 c3 c4 c5 c6 c7 KX OX XX
            obtain ⟨d0, d1, d2, d3, d4, d5, d6, d7, dl⟩ := X2.out.cells
            go_wp2_with fail
            refine (rtext_c x.s _ (by omega)).mono ?_
            rintro e w3 ⟨rfl, b3⟩
            have K3 := Lib.hid (K2.out.trans (b3.mono K2.out.size))
            have I3 := Lib.hid (I2.out.below b3 I2.out.lt.1 I2.out.lt.2.2)
            clear b3 K2 I2 X2 d0 d1 d2 d3 d4 d5 d6 d7 dl
            go_wp2_with fail
            refine (out_bytes P o2 _ _ I3.out).mono ?_
            rintro e w4 ⟨rfl, rfl⟩
            go_wp2_with fail
            go_roundw
            case rel => exact ⟨k + 1, by omega, by go_num, o2, by rw [HS.out]; exact I3.out, by rw [HS.out], by rw [HS.out, List.length_append]; omega, K3.out⟩
            case measure => simp [intOf]; omega
          · have e2 : (x.kind == 2) = false := by simpa using hk2
            by_cases hk3 : x.kind = 3
            · have HS := Lib.hid (show encAs (xs.take (k + 1)) = encAs (xs.take k) ++ encV x.v.a x.v.b x.v.c x.v.d by rw [hS.out]; unfold encA; rw [if_neg hk1, if_neg hk2, if_pos hk3])
              have hl1 := lenV Hv.out
              have e3 : (x.kind == 3) = true := by simpa using hk3
              clear hk1 hk2 hk3
              go_wp2_with fail
              refine (out_vec x.v.a x.v.b x.v.c x.v.d P o _ _ Hv.out.1 Hv.out.2.1 Hv.out.2.2.1 Hv.out.2.2.2 OX.out (by omega)).mono ?_
              rintro e w2 ⟨rfl, o2, i2, g2, q2⟩
              have K2 := Lib.hid (KX.out.trans (g2.below hz1 (by omega) KX.out.size))
              have I2 := Lib.hid i2
              have X2 := Lib.hid (XX.out.kept g2 (by omega) (by omega))
              clear i2 g2 q2 c0 c1 c2 c3 c4 c5 c6 c7 KX OX XX
              obtain ⟨d0, d1, d2, d3, d4, d5, d6, d7, dl⟩ := X2.out.cells
              go_wp2_with fail
              refine (rvec_c x.v.a x.v.b x.v.c x.v.d _ Hv.out.1 Hv.out.2.1 Hv.out.2.2.1 Hv.out.2.2.2).mono ?_
              rintro e w3 ⟨rfl, b3⟩
              have K3 := Lib.hid (K2.out.trans (b3.mono K2.out.size))
              have I3 := Lib.hid (I2.out.below b3 I2.out.lt.1 I2.out.lt.2.2)
              clear b3 K2 I2 X2 d0 d1 d2 d3 d4 d5 d6 d7 dl
              go_wp2_with fail
              refine (out_bytes P o2 _ _ I3.out).mono ?_
              rintro e w4 ⟨rfl, rfl⟩
              go_wp2_with fail
              go_roundw
              case rel => exact ⟨k + 1, by omega, by go_num, o2, by rw [HS.out]; exact I3.out, by rw [HS.out], by rw [HS.out, List.length_append]; omega, K3.out⟩
              case measure => simp [intOf]; omega
            · have HS := Lib.hid (show encAs (xs.take (k + 1)) = encAs (xs.take k) ++ encB x.b by rw [hS.out]; unfold encA; rw [if_neg hk1, if_neg hk2, if_neg hk3])
              have hl1 := lenB x.b
              have e3 : (x.kind == 3) = false := by simpa using hk3
              clear hk1 hk2 hk3
              go_wp2_with fail
              refine (out_bool x.b P o _ _ OX.out (by omega)).mono ?_
              rintro e w2 ⟨rfl, o2, i2, g2, q2⟩
              have K2 := Lib.hid (KX.out.trans (g2.below hz1 (by omega) KX.out.size))
              have I2 := Lib.hid i2
              have X2 := Lib.hid (XX.out.kept g2 (by omega) (by omega))
              clear i2 g2 q2 c0 c1 c2 c3 c4 c5 c6 c7 KX OX XX
              obtain ⟨d0, d1, d2, d3, d4, d5, d6, d7, dl⟩ := X2.out.cells
              go_wp2_with fail
              refine (rbool_c x.b _).mono ?_
              rintro e w3 ⟨rfl, b3⟩
              have K3 := Lib.hid (K2.out.trans (b3.mono K2.out.size))
              have I3 := Lib.hid (I2.out.below b3 I2.out.lt.1 I2.out.lt.2.2)
              clear b3 K2 I2 X2 d0 d1 d2 d3 d4 d5 d6 d7 dl
              go_wp2_with fail
              refine (out_bytes P o2 _ _ I3.out).mono ?_
              rintro e w4 ⟨rfl, rfl⟩
              go_wp2_with fail
              go_roundw
              case rel => exact ⟨k + 1, by omega, by go_num, o2, by rw [HS.out]; exact I3.out, by rw [HS.out], by rw [HS.out, List.length_append]; omega, K3.out⟩
              case measure => simp [intOf]; omega
    · have hb' := Lib.hid hb
      clear hb ho
      by_cases hlt : k < xs.length
      all_goals
        first
          | (have h40 : ¬ k < 40 := fun h => hgo ⟨hlt, h⟩)
          | skip
        clear hgo
        go_wp2_with fail
        refine (nil_int _ _).mono ?_
        rintro e w2 ⟨rfl, rfl⟩
        go_wp2_with fail
        refine (nil_text _ _).mono ?_
        rintro e w2 ⟨rfl, rfl⟩
        go_wp2_with fail
        refine (nil_vec 0 0 0 0 _).mono ?_
        rintro e w2 ⟨rfl, b2⟩
        go_wp2_with fail
        refine (nil_bool _ _).mono ?_
        rintro e w3 ⟨rfl, rfl⟩
        go_wp2_with fail
        refine (nil_bytes _).mono ?_
        rintro e w3 ⟨rfl, rfl⟩
        go_wp2_with fail
        go_ret
        exact ⟨rfl, hb'.out.trans (b2.mono hb'.out.size)⟩
end Go.Proofs.YtcahidhcnhgbeaaDoor
