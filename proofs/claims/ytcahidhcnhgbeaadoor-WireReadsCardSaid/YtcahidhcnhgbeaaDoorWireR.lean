/- Contracts of the reference's writers: each returns the bytes that the plain arithmetic says. Conditions: integers have 64 bits, the string is no longer than memory allows. -/
import Derived.Test.YtcahidhcnhgbeaaDoorWireO
import Derived.Deep.RegionHeld3
namespace Go.Proofs.YtcahidhcnhgbeaaDoor
open Go Go.RowKit

theorem below_drewN {B : Nat} {a w : World} (h : Below B a w) (n : Nat) : Below B a (w.drewN n) := ⟨h.os, h.tape, h.output, h.size, h.block⟩
theorem World.size_drewN (w : World) (n : Nat) : (w.drewN n).heap.size = w.heap.size := rfl

theorem rfold_neg (n : Int) (h : n < 0) : (-(n + 1)) * 2 + 1 = foldI n := by
  unfold foldI; rw [if_pos h]; omega

theorem app_fits (acc : List UInt8) (x : Nat) (e : List UInt8) (h : acc ++ encU x = e) (h2 : e.length ≤ 10) : acc.length + 1 ≤ 10 := hle acc x h h2

/-- What a round of the reference's loop begins with. -/
def RRel (n : Int) (w : World) (u v : Value) (wr : World) : Prop :=
  ∃ (x : Nat) (acc : List UInt8) (v0 : Value), u = .int .u64 x ∧ v0 = v ∧ x < 18446744073709551616 ∧ wr.ownsRow w.heap.size 5 1 v0 acc.length (byteVs acc) ∧ acc ++ encU x = enc n ∧ Below w.heap.size w wr
theorem RRel.start {n : Int} {w : World} {u : Int} (hu : u = foldI n) (hn : I64 n) : RRel n w (.int .u64 u) (.slice (some ⟨w.heap.size, 0, none⟩) 0 0) (w.alloc (.cells #[] 5)) := by
  have hbd := foldI_bd n hn
  refine ⟨(foldI n).toNat, [], _, ret_v (by omega), rfl, by omega, ?_, rfl, (Below.refl _ _).alloc (Nat.le_refl _) _⟩
  exact World.ownsRow_made w #[] 0 (Nat.le_refl _) (by unfold maxLen; omega) (by simp)
theorem RRel.step {n : Int} {w wr w3 : World} {x : Nat} {acc : List UInt8} {c : UInt8} {v v' : Value} {t : TypeId} {cs : Array Value} {N : Nat} (hx : x < 18446744073709551616) (h128 : ¬ x < 128) (he : acc ++ encU x = enc n) (hc : c = UInt8.ofNat (x % 128 + 128))
    (hob : ∀ k, v.ownBlock = some k → w.heap.size ≤ k) (hb : Below w.heap.size w wr) (hN : N = acc.length + 1) (hown : w3.ownsRow w.heap.size 5 1 v' N (byteVs acc ++ byteVs [c])) (hg : (wr.alloc (.cells cs t)).grownBy w3 v.ownBlock) :
    RRel n w (.int .u64 ((x : Int) / 128)) v' w3 := by
  subst hN
  refine ⟨x / 128, acc ++ [c], _, ret_v (by omega), rfl, by omega, ?_, by rw [← he, encU_great h128, hc]; simp, (hb.alloc hb.size _).grown hg (by rw [World.size_alloc]; have := hb.size; omega) hob⟩
  rw [byteVs_app] at hown
  simpa using hown

set_option maxHeartbeats 3200000 in
set_option maxRecDepth 100000 in
theorem rint_c (n : Int) (w : World) (hn : I64 n) :
    Calls Tryd.prog 9 #[.int .i64 n] w fun e w' => e = .returned (.string ⟨(enc n).toArray⟩) ∧ Below w.heap.size w w' := by
  have HLen := Lib.hid (enc_len n hn).1
  have HN := Lib.hid hn
  unfold I64 at hn
  obtain ⟨h1, h2⟩ := hn
  by_cases hneg : n < 0
  all_goals
    have hst := fun (w : World) (u : Int) (h : u = foldI n) => RRel.start (w := w) h HN.out
    have HST := Lib.hid hst; clear hst
    go_enter Tryd.func9, Tryd.ntmps9
    go_wp2_with fail
    go_loopw [3, 4] (fun u v wr => RRel n w u v wr) (fun u _ _ => (intOf u).toNat)
    case atStart => first | exact HST.out _ _ (rfold_neg n hneg) | exact HST.out _ _ (fold_pos n (by omega))
    case round =>
      obtain ⟨x, acc, v, rfl, rfl, hx, hown, he, hb⟩ := hrel
      obtain ⟨i0, hi, hz0, hz1, hz2⟩ := info_parts Tryd.infoB
      have hob : ∀ k, v.ownBlock = some k → w.heap.size ≤ k := fun k hk => (hown.lt k hk).1
      have HOB := Lib.hid hob; clear hob
      have HX := Lib.hid hx; clear hx
      have HE := Lib.hid he; clear he
      have hle := app_fits acc x _ HE.out HLen.out
      have hsz := hb.size
      clear HST
      by_cases h128 : x < 128
      · have hv := Lib.hid (small_byte x h128)
        go_wp2_with (first | (at_builtin; refine wpList_append_own_at _ rfl _ _ 25 rfl w.heap.size 5 i0 _ 1 1 Tryd.underlying25 hi hz0 hz1 hz2 rfl (by decide) _ _ _ rfl (hown.alloc _) ⟨wr.heap.size, 0, none⟩ 1 1 (byteVs [UInt8.ofNat x]) rfl rfl ?c1 ?c2 ?c3 ?c4 ?c5 ?_))
        case c1 =>
          intro j u hu
          rw [add0, World.cell?_alloc_at _ _ _ _ rfl]
          match j, hu with
          | 0, hu => rw [hv.out]; exact hu
        case c2 => intro u hu; simp [byteVs] at hu; subst hu; rfl
        case c3 => unfold maxLen; omega
        case c4 => omega
        case c5 => rw [World.size_alloc]; omega
        intro v' w3 hown' hgrow _ hat
        rw [byteVs_app] at hown'
        have hcv := conv_out w3 _ _ _ v' hown'
        have hb3 := Lib.hid ((hb.alloc hsz _).grown hgrow (by rw [World.size_alloc]; omega) HOB.out)
        have hfin := Lib.hid (show acc ++ [UInt8.ofNat x] = enc n by rw [← HE.out, encU_small h128])
        rw [hfin.out] at hcv
        clear hown' hgrow hat hown
        go_wp2_with fail
        go_ret
        exact ⟨rfl, hb3.out⟩
      · have hx := HX.out
        obtain ⟨c, hc⟩ : ∃ c : UInt8, c = UInt8.ofNat (x % 128 + 128) := ⟨_, rfl⟩
        have hv : Hid ((x : Int) % 128 + 128 = (c.toNat : Int)) := Lib.hid (by rw [hc, byte_toNat _ (by omega)]; omega)
        have HC := Lib.hid hc; clear hc
        go_wp2_with (first | (at_builtin; refine wpList_append_own_at _ rfl _ _ 25 rfl w.heap.size 5 i0 _ 1 1 Tryd.underlying25 hi hz0 hz1 hz2 rfl (by decide) _ _ _ rfl (hown.alloc _) ⟨wr.heap.size, 0, none⟩ 1 1 (byteVs [c]) rfl rfl ?c1 ?c2 ?c3 ?c4 ?c5 ?_))
        case c1 =>
          intro j u hu
          rw [add0, World.cell?_alloc_at _ _ _ _ rfl]
          match j, hu with
          | 0, hu => rw [hv.out]; exact hu
        case c2 => intro u hu; simp [byteVs] at hu; subst hu; rfl
        case c3 => unfold maxLen; omega
        case c4 => omega
        case c5 => rw [World.size_alloc]; omega
        intro v' w3 hown' hgrow _ hat
        have hR := Lib.hid (RRel.step HX.out h128 HE.out HC.out HOB.out hb rfl hown' hgrow)
        clear hown' hgrow hat hown
        go_wp2_with fail
        go_roundw
        case rel => exact hR.out
        case measure => simp [intOf]; omega

theorem cat_str (a b : List UInt8) : (⟨a.toArray⟩ : ByteArray) ++ ⟨b.toArray⟩ = ⟨(a ++ b).toArray⟩ := by
  apply ByteArray.ext; simp

set_option maxHeartbeats 1600000 in
set_option maxRecDepth 100000 in
theorem rbool_c (b : Bool) (w : World) :
    Calls Tryd.prog 15 #[.bool b] w fun e w' => e = .returned (.string ⟨(encB b).toArray⟩) ∧ Below w.heap.size w w' := by
  cases b
  · go_enter Tryd.func15, Tryd.ntmps15
    go_wp2_with fail
    refine (rint_c 0 _ (by unfold I64; omega)).mono ?_
    rintro e w1 ⟨rfl, hb⟩
    go_wp2_with fail
    go_ret
    exact ⟨rfl, hb⟩
  · go_enter Tryd.func15, Tryd.ntmps15
    go_wp2_with fail
    refine (rint_c 1 _ (by unfold I64; omega)).mono ?_
    rintro e w1 ⟨rfl, hb⟩
    go_wp2_with fail
    go_ret
    exact ⟨rfl, hb⟩

theorem ret_s {a b : ByteArray} (h : a = b) : Ending.returned (.string a) = .returned (.string b) := by rw [h]
theorem text_str (s : ByteArray) : (⟨(enc (s.size : Int)).toArray⟩ : ByteArray) ++ s = ⟨(encT s.data.toList).toArray⟩ := by
  apply ByteArray.ext
  simp [encT]
theorem vec_str (a b c d : Int) : (⟨(enc a).toArray⟩ : ByteArray) ++ ⟨(enc b).toArray⟩ ++ ⟨(enc c).toArray⟩ ++ ⟨(enc d).toArray⟩ = ⟨(encV a b c d).toArray⟩ := by
  rw [cat_str, cat_str, cat_str]; simp [encV]

set_option maxHeartbeats 1600000 in
set_option maxRecDepth 100000 in
theorem rtext_c (s : ByteArray) (w : World) (hs : s.size ≤ 35184372088832) :
    Calls Tryd.prog 11 #[.string s] w fun e w' => e = .returned (.string ⟨(encT s.data.toList).toArray⟩) ∧ Below w.heap.size w w' := by
  have hle := (enc_len (s.size : Int) (by unfold I64; omega)).1
  go_enter Tryd.func11, Tryd.ntmps11
  go_wp2_with fail
  refine (rint_c (s.size : Int) _ (by unfold I64; omega)).mono ?_
  rintro e w1 ⟨rfl, hb⟩
  go_wp2_with fail
  go_ret
  exact ⟨ret_s (text_str s), hb⟩

theorem rint_b (n : Int) (B : Nat) (w W0 : World) (hn : I64 n) (h : Below B W0 w) (hB : B ≤ W0.heap.size) :
    Calls Tryd.prog 9 #[.int .i64 n] w fun e w' => e = .returned (.string ⟨(enc n).toArray⟩) ∧ Below B W0 w' :=
  (rint_c n w hn).mono fun _ _ ⟨h1, h2⟩ => ⟨h1, h.trans (h2.mono (Nat.le_trans hB h.size))⟩

set_option maxHeartbeats 1600000 in
set_option maxRecDepth 100000 in
theorem rvec_c (a b c d : Int) (w : World) (ha : I64 a) (hb : I64 b) (hc : I64 c) (hd : I64 d) :
    Calls Tryd.prog 13 #[.agg #[.int .i64 a, .int .i64 b, .int .i64 c, .int .i64 d]] w fun e w' => e = .returned (.string ⟨(encV a b c d).toArray⟩) ∧ Below w.heap.size w w' := by
  have la := (enc_len a ha).1
  have lb := (enc_len b hb).1
  have lc := (enc_len c hc).1
  have ld := (enc_len d hd).1
  have n1 : ¬ (9223372036854775807 < (enc a).length + (enc b).length) := by omega
  have n2 : ¬ (9223372036854775807 < (enc a).length + (enc b).length + (enc c).length) := by omega
  have n3 : ¬ (9223372036854775807 < (enc a).length + (enc b).length + (enc c).length + (enc d).length) := by omega
  have HA := Lib.hid ha; clear ha
  have HB := Lib.hid hb; clear hb
  have HC := Lib.hid hc; clear hc
  have HD := Lib.hid hd; clear hd
  have HS : Hid (∀ w' : World, Below (w.heap.size + 1) (w.alloc (.cells #[.int .i64 a, .int .i64 b, .int .i64 c, .int .i64 d] 29)) w' → (w'.cell? ⟨w.heap.size, 0, none⟩ = some (.int .i64 a) ∧ w'.cell? ⟨w.heap.size, 1, none⟩ = some (.int .i64 b) ∧ w'.cell? ⟨w.heap.size, 2, none⟩ = some (.int .i64 c) ∧ w'.cell? ⟨w.heap.size, 3, none⟩ = some (.int .i64 d) ∧ Below (w.heap.size + 1) (w.alloc (.cells #[.int .i64 a, .int .i64 b, .int .i64 c, .int .i64 d] 29)) w')) := Lib.hid fun w' h =>
    ⟨(h.cell (p := ⟨w.heap.size, 0, none⟩) (by simp)).trans (by simp), (h.cell (p := ⟨w.heap.size, 1, none⟩) (by simp)).trans (by simp), (h.cell (p := ⟨w.heap.size, 2, none⟩) (by simp)).trans (by simp), (h.cell (p := ⟨w.heap.size, 3, none⟩) (by simp)).trans (by simp), h⟩
  go_enter Tryd.func13, Tryd.ntmps13
  go_wp2_with fail
  go_region_held3 (fun w' => w'.cell? ⟨w.heap.size, 0, none⟩ = some (.int .i64 a) ∧ w'.cell? ⟨w.heap.size, 1, none⟩ = some (.int .i64 b) ∧ w'.cell? ⟨w.heap.size, 2, none⟩ = some (.int .i64 c) ∧ w'.cell? ⟨w.heap.size, 3, none⟩ = some (.int .i64 d) ∧ Below (w.heap.size + 1) (w.alloc (.cells #[.int .i64 a, .int .i64 b, .int .i64 c, .int .i64 d] 29)) w')
    (exact HS.out _ (by (repeat' (first | (with_reducible exact Below.refl _ _) | (with_reducible refine below_drewN ?_ _) | (with_reducible refine Below.drew ?_) | (with_reducible refine Below.alloc ?_ ?_ _) | (with_reducible refine Below.setCell ?_ ?_ _) | (with_reducible refine Below.trans ?_ (Below.mono (by with_reducible assumption) ?_)) | omega | (simp only [World.size_alloc, World.size_setCell, World.size_drew, Go.Proofs.YtcahidhcnhgbeaaDoor.World.size_drewN] at *; omega) | (with_reducible refine Below.size (B := 0) ?_)))))
    (first | (go_at_call 9; (with_reducible refine (rint_b a (w.heap.size + 1) _ (w.alloc (.cells #[.int .i64 a, .int .i64 b, .int .i64 c, .int .i64 d] 29)) HA.out (by (repeat' (first | (with_reducible exact Below.refl _ _) | (with_reducible refine below_drewN ?_ _) | (with_reducible refine Below.drew ?_) | (with_reducible refine Below.alloc ?_ ?_ _) | (with_reducible refine Below.setCell ?_ ?_ _) | (with_reducible refine Below.trans ?_ (Below.mono (by with_reducible assumption) ?_)) | omega | (simp only [World.size_alloc, World.size_setCell, World.size_drew, Go.Proofs.YtcahidhcnhgbeaaDoor.World.size_drewN] at *; omega) | (with_reducible refine Below.size (B := 0) ?_)))) (by rw [World.size_alloc]; omega)).mono ?_); rintro e w1 ⟨rfl, hb1⟩) | (go_at_call 9; (with_reducible refine (rint_b b (w.heap.size + 1) _ (w.alloc (.cells #[.int .i64 a, .int .i64 b, .int .i64 c, .int .i64 d] 29)) HB.out (by (repeat' (first | (with_reducible exact Below.refl _ _) | (with_reducible refine below_drewN ?_ _) | (with_reducible refine Below.drew ?_) | (with_reducible refine Below.alloc ?_ ?_ _) | (with_reducible refine Below.setCell ?_ ?_ _) | (with_reducible refine Below.trans ?_ (Below.mono (by with_reducible assumption) ?_)) | omega | (simp only [World.size_alloc, World.size_setCell, World.size_drew, Go.Proofs.YtcahidhcnhgbeaaDoor.World.size_drewN] at *; omega) | (with_reducible refine Below.size (B := 0) ?_)))) (by rw [World.size_alloc]; omega)).mono ?_); rintro e w1 ⟨rfl, hb1⟩) | (go_at_call 9; (with_reducible refine (rint_b c (w.heap.size + 1) _ (w.alloc (.cells #[.int .i64 a, .int .i64 b, .int .i64 c, .int .i64 d] 29)) HC.out (by (repeat' (first | (with_reducible exact Below.refl _ _) | (with_reducible refine below_drewN ?_ _) | (with_reducible refine Below.drew ?_) | (with_reducible refine Below.alloc ?_ ?_ _) | (with_reducible refine Below.setCell ?_ ?_ _) | (with_reducible refine Below.trans ?_ (Below.mono (by with_reducible assumption) ?_)) | omega | (simp only [World.size_alloc, World.size_setCell, World.size_drew, Go.Proofs.YtcahidhcnhgbeaaDoor.World.size_drewN] at *; omega) | (with_reducible refine Below.size (B := 0) ?_)))) (by rw [World.size_alloc]; omega)).mono ?_); rintro e w1 ⟨rfl, hb1⟩) | (go_at_call 9; (with_reducible refine (rint_b d (w.heap.size + 1) _ (w.alloc (.cells #[.int .i64 a, .int .i64 b, .int .i64 c, .int .i64 d] 29)) HD.out (by (repeat' (first | (with_reducible exact Below.refl _ _) | (with_reducible refine below_drewN ?_ _) | (with_reducible refine Below.drew ?_) | (with_reducible refine Below.alloc ?_ ?_ _) | (with_reducible refine Below.setCell ?_ ?_ _) | (with_reducible refine Below.trans ?_ (Below.mono (by with_reducible assumption) ?_)) | omega | (simp only [World.size_alloc, World.size_setCell, World.size_drew, Go.Proofs.YtcahidhcnhgbeaaDoor.World.size_drewN] at *; omega) | (with_reducible refine Below.size (B := 0) ?_)))) (by rw [World.size_alloc]; omega)).mono ?_); rintro e w1 ⟨rfl, hb1⟩))
  all_goals go_wp2_with fail
  all_goals go_ret
  all_goals exact ⟨ret_s (vec_str a b c d), by (repeat' (first | (with_reducible exact Below.refl _ _) | (with_reducible refine below_drewN ?_ _) | (with_reducible refine Below.drew ?_) | (with_reducible refine Below.alloc ?_ ?_ _) | (with_reducible refine Below.setCell ?_ ?_ _) | (with_reducible refine Below.trans ?_ (Below.mono (by with_reducible assumption) ?_)) | omega | (simp only [World.size_alloc, World.size_setCell, World.size_drew, Go.Proofs.YtcahidhcnhgbeaaDoor.World.size_drewN] at *; omega) | (with_reducible refine Below.size (B := 0) ?_)))⟩
end Go.Proofs.YtcahidhcnhgbeaaDoor
