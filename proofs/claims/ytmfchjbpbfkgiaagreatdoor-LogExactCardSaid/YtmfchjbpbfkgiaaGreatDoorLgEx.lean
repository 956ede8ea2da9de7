/- The walk of the law LogExact: whatever the arguments, it returns true. Condition: the sentinels lie as the program's text lays them. -/
import Derived.Test.YtmfchjbpbfkgiaaGreatDoorLgY
import Derived.Test.YtmfchjbpbfkgiaaGreatDoorLgH
namespace Go.Proofs.YtmfchjbpbfkgiaaGreatDoor
open Go Go.RowKit

theorem own_mono {w : World} {B B' n : Nat} {v : Value} {xs : List Value} (h : w.ownsRow B' 9 1 v n xs) (hB : B ≤ B') : w.ownsRow B 9 1 v n xs := by
  refine ⟨h.1, ?_⟩
  rcases h.2 with h | ⟨g, cap, cur, e, hb, rest⟩
  · exact .inl h
  · exact .inr ⟨g, cap, cur, e, Nat.le_trans hB hb, rest⟩
/-- The log grew: what is sure lies apart from it. -/
theorem SureAt.after {w w' : World} {B q p g : Nat} {u v v' : Value} {rs : List (List UInt8)} (h : SureAt w B q p g u v rs) (hc : ChgS (LogS q p g v) w w') (hv : ∀ k, v'.ownBlock = some k → v.ownBlock = some k ∨ w.heap.size ≤ k) : SureAt w' B q p g u v' rs := by
  have h1 := h.kept hc fun i hi => .inl hi
  exact ⟨h1.own, h1.some_, fun i hi hS => by
    rcases hS with h2 | h2 | h2 | h2
    · exact h.apart i hi (.inl h2)
    · exact h.apart i hi (.inr (.inl h2))
    · exact h.apart i hi (.inr (.inr (.inl h2)))
    · rcases hv i h2 with h3 | h3
      · exact h.apart i hi (.inr (.inr (.inr h3)))
      · have := (h.own.lt i hi).2; omega⟩
/-- Many more are sure. -/
theorem SureAt.many {w w5 : World} {B q p g : Nat} {u u' v : Value} {F G : List (List UInt8)} (h : SureAt w B q p g u v F) (hl : ∀ k, LogS q p g v k → B ≤ k ∧ k < w.heap.size) (o1 : w5.ownsRow B 9 1 u' (F.length + G.length) (strVs F ++ strVs G)) (hn : u' ≠ .slice none 0 0)
    (hat : u'.ownBlock = u.ownBlock ∨ u'.ownBlock = some w.heap.size) : SureAt w5 B q p g u' v (F ++ G) := by
  refine ⟨?_, hn, fun k hk hS => ?_⟩
  · rw [List.length_append]
    unfold strVs at o1 ⊢
    rw [List.map_append]
    exact o1
  · rcases hat with he | he
    · exact h.apart k (by rw [← he]; exact hk) hS
    · rw [he] at hk
      have h1 := Option.some.inj hk
      have := (hl k hS).2
      omega
/-- What lies round a log's region. -/
structure Out (d : DS) (n a m : Nat) (P1 P2 : List (List UInt8)) : Prop where
  n_ : d.n = n
  low : rowsD d 0 a = P1
  high : rowsD d (a + m) (n - (a + m)) = P2
theorem Out.step {d e : DS} {n a m : Nat} {P1 P2 : List (List UInt8)} (h : Out d n a m P1 P2) (hn : e.n = d.n) (ho : ∀ j, (j < a ∨ a + m ≤ j) → e.blk j = d.blk j) : Out e n a m P1 P2 :=
  ⟨hn.trans h.n_, by rw [rowsD_same (d := d) (e := e) fun i hi => ho _ (.inl (by omega))]; exact h.low, by rw [rowsD_same (d := d) (e := e) fun i hi => ho _ (.inr (by omega))]; exact h.high⟩
theorem bst_four (a b c d : List UInt8) : bst a ++ bst b ++ bst c ++ bst d = bst (a ++ (b ++ c) ++ d) := by
  rw [bst_cat, bst_cat, bst_cat]; congr 1; simp
theorem image_of {d : DS} {n a m b : Nat} {rs P1 P2 : List (List UInt8)} (h : LogAt d a m b rs) (hw : d.bs.length % 64 = 0) (ho : Out d n a m P1 P2) :
    strB d.bs = bst P1.flatten ++ bst (layR b rs).flatten ++ bst (List.replicate (64 * (m - (layR b rs).length)) 0) ++ bst P2.flatten := by
  rw [bst_four, ← ho.low, ← ho.high, ← ho.n_]
  exact congrArg bst (h.image hw)
theorem flat_len : ∀ (G : List (List UInt8)), (∀ x ∈ G, x.length = 64) → G.flatten.length = 64 * G.length
  | [], _ => rfl
  | y :: G, hG => by rw [List.flatten_cons, List.length_append, flat_len G fun x hx => hG x (by simp [hx]), hG y (by simp), List.length_cons]; omega
theorem layR_64 {b : Nat} {rs : List (List UInt8)} : ∀ x ∈ layR b rs, x.length = 64 := by
  induction rs generalizing b with
  | nil => intro x hx; simp [layR] at hx
  | cons d r ih =>
    intro x hx
    rw [layR] at hx
    rcases List.mem_append.1 hx with h | h
    · exact frames_64 x h
    · exact ih x h
theorem rowsD_64 {d : DS} {a m : Nat} (h : a + m ≤ d.n) : ∀ x ∈ rowsD d a m, x.length = 64 := fun x hx => by
  obtain ⟨i, hi⟩ := List.getElem?_of_mem hx
  have hl := (List.getElem?_eq_some_iff.1 hi).1
  rw [rowsD_len] at hl
  rw [rowsD_get hl] at hi
  rw [← Option.some.inj hi]
  have := DS.blk_len (has_nat (d := d) (i := a + i) (by omega))
  rwa [Int.toNat_natCast] at this

theorem live_reset (s : Nat → Addr) (w0 : World) (q p g cap a m b k : Nat) (v : Value) (rs : List (List UInt8)) (d : DS) (c : Nat) (x : Int) (w : World) (hs : Sent s w0) (hb : Below w0.heap.size w0 w) (h : Live w w0.heap.size q p g cap a m b v rs k d)
    (hx : x = (c : Int)) (hc : c ≤ 1073741824) (hw : k + m ≤ 1000000) :
    Calls Tryz.prog 19 #[.pointer (some ⟨q, 0, none⟩), .int .i64 x] w fun e w' => e = .returned .nilIface ∧ ∃ d', Live w' w0.heap.size q p g cap a m c (.slice none 0 0) [] (k + m) d' ∧ ChgS (LogS q p g v) w w' ∧ d'.n = d.n ∧ (∀ j, (j < a ∨ a + m ≤ j) → d'.blk j = d.blk j) ∧ Below w0.heap.size w0 w' := by
  have hwr := h.wr
  have hfit := h.mem.fits
  obtain ⟨d', hp, hat, hlike, hon, hfu, hwr', hout⟩ := reset_ok h.at_ (c := c) (by omega) h.on (.inl h.fuse)
  have hwn := wipe_n (d := d) (m := m) (i := a) hfit h.on
  rw [hp] at hwn
  refine (reset_c s w0 q p g cap d a m b v rs c x w hs hb h.mem hx hc h.on (by omega)).mono ?_
  rintro e w1 (⟨_, rfl, hm, hch⟩ | ⟨h1, _⟩)
  · rw [hp] at hm
    exact ⟨rfl, d', ⟨hm, hat, hon, by rw [hfu]; unfold fuseS; rw [if_pos h.fuse]; exact h.fuse, Nat.le_trans hwn.2 (by omega)⟩, hch.mono fun _ _ h => log3_logS h, hlike.n, hout, hb.trans (hch.below h.mem.lo3 hb.size)⟩
  · rw [hp] at h1; cases h1
theorem rblocks_okx (x : Int) (q : Nat) (d : ByteArray) (w : World) (hx : x = (q : Int)) (h1 : 1 ≤ q) (h2 : q ≤ 2147483647) (hd : d.size ≤ 6000) :
    Calls Tryz.prog 22 #[.int .i64 x, .string d] w fun e w' => (∃ v base, e = .returned (.tuple #[v, .bool true]) ∧ w'.ownsRow base 9 1 v (nblk d.size) (strVs (framesF q d.data.toList))) ∧ Below w.heap.size w w' := by
  subst hx; exact rblocks_ok q d w h1 h2 hd

/-- The state of the law: the log, its records as the law has them, its blocks as the law has them. -/
def ExSt (w : World) (q p g cap a m n : Nat) (P1 P2 : List (List UInt8)) (K : Nat) (base wv bl : Value) (wr : World) : Prop :=
  ∃ (be : Int) (b : Nat) (rs : List (List UInt8)) (uw ub v : Value) (d : DS), base = .int .i64 be ∧ be = (b : Int) ∧ b ≤ 1073741824 ∧ uw = wv ∧ ub = bl ∧ SureAt wr w.heap.size q p g uw v rs ∧ SureAt wr w.heap.size q p g ub v (layR b rs) ∧ (∀ k, uw.ownBlock = some k → ub.ownBlock ≠ some k) ∧
    Live wr w.heap.size q p g cap a m b v rs K d ∧ Out d n a m P1 P2 ∧ Below w.heap.size w wr
def ExRel (w : World) (q p g cap a m n N : Nat) (P1 P2 : List (List UInt8)) (base wv bl i : Value) (wr : World) : Prop :=
  ∃ j : Nat, i = .int .i64 (j : Int) ∧ j ≤ N ∧ ExSt w q p g cap a m n P1 P2 (5000 + 5000 * j) base wv bl wr

set_option maxHeartbeats 25600000 in
set_option maxRecDepth 100000 in
theorem exact_any (s : Nat → Addr) (T : ByteArray) (x y z : Int) (A : Option Addr) (c : Nat) (zs : List ByteArray) (Ar : Option Addr) (cr : Nat) (rr : List Int) (w : World) (hs : Sent s w) (hT : T.size ≤ 9223372036854775807) (_x0 : -9223372036854775808 ≤ x) (_x1 : x ≤ 9223372036854775807) (_y0 : -9223372036854775808 ≤ y) (_y1 : y ≤ 9223372036854775807) (_z0 : -9223372036854775808 ≤ z) (_z1 : z ≤ 9223372036854775807)
    (hA : SRow w w.heap.size A zs) (_hl : zs.length ≤ 9223372036854775807) (_hcz : zs.length ≤ c) (hR : IntRow w w.heap.size Ar rr) (_hlr : rr.length ≤ 9223372036854775807) :
    Calls Tryz.prog 3 #[.string T, .int .i64 x, .int .i64 y, .int .i64 z, .slice A zs.length c, .slice Ar rr.length cr] w fun e w' => e = .returned (.bool true) ∧ Below w.heap.size w w' := by
  have HA := Lib.hid hA; have HRR := Lib.hid hR
  clear hA hR
  by_cases hbig : 1920 < T.size
  · have hbi : (1920 : Int) < (T.size : Int) := by omega
    go_enter Tryz.func3, Tryz.ntmps3
    go_wp2_with fail
    refine (awake_c s _ hs).mono ?_
    rintro e w1 ⟨rfl, b1⟩
    go_wp2_with fail
    go_ret
    exact ⟨rfl, b1⟩
  have hbi : ¬ (1920 : Int) < (T.size : Int) := by omega
  by_cases h20 : 20 < zs.length
  · have h20i : (20 : Int) < (zs.length : Int) := by omega
    go_enter Tryz.func3, Tryz.ntmps3
    go_wp2_with fail
    refine (awake_c s _ hs).mono ?_
    rintro e w1 ⟨rfl, b1⟩
    go_wp2_with fail
    go_ret
    exact ⟨rfl, b1⟩
  have h20i : ¬ (20 : Int) < (zs.length : Int) := by omega
  obtain ⟨n, hn⟩ : ∃ n, T.size / 64 = n := ⟨_, rfl⟩
  have hn30 : n ≤ 30 := by omega
  have hclamp : clampI ((T.size : Int) / 64) 4096 = n := by unfold clampI; omega
  have hsl := size_len T
  by_cases hbad : x < 0 ∨ y ≤ x ∨ (n : Int) < y ∨ z < 0 ∨ 1073741824 < z
  · have HBAD := Lib.hid hbad
    have HN := Lib.hid hn; have HCL := Lib.hid hclamp
    clear hbad hn hclamp
    go_enter Tryz.func3, Tryz.ntmps3
    go_wp2_with fail
    refine (awake_c s _ hs).mono ?_
    rintro e w1 ⟨rfl, b1⟩
    have B1 := Lib.hid b1; clear b1
    go_wp2_with fail
    refine (dsk_of_c T _ hT).mono ?_
    rintro e w2 ⟨p, g, cap, rfl, hd, b2, hg⟩
    have HD2 := Lib.hid hd
    have B2 : Hid (Below w.heap.size w w2) := Lib.hid (B1.out.trans (b2.mono B1.out.size))
    clear hd b2
    go_wp2_with fail
    refine (rparts_c T _ (by omega)).mono ?_
    rintro e w3 ⟨⟨ga, ca, rfl, _⟩, b3⟩
    have HD3 := Lib.hid (HD2.out.below b3 HD2.out.lt.1)
    have B3 : Hid (Below w.heap.size w w3) := Lib.hid (B2.out.trans (b3.mono B2.out.size))
    clear b3 HD2
    rw [HN.out]
    have hob := open_bad s p g cap _ x y z w3 (hs.below B3.out (Nat.le_refl _)) HD3.out (by
      have e : (newD (T.data.toList.take (64 * clampI ((T.size : Int) / 64) 4096))).n = n := by
        have := HN.out
        unfold DS.n newD; rw [HCL.out]; simp only [List.length_take, hsl]; omega
      rw [e]; exact HBAD.out)
    have HOB := Lib.hid hob
    clear hob HD3
    go_wp2_with fail
    refine (HOB.out).mono ?_
    rintro e w4 ⟨rfl, h4⟩
    have B4 : Hid (Below w.heap.size w w4) := Lib.hid (B3.out.trans (h4.below _))
    have hk1 := kind_errV s 1 w4 (hs.below B4.out (Nat.le_refl _)) (by omega)
    have HK1 := Lib.hid hk1
    clear h4 hk1 HOB
    by_cases g1 : x < 0
    · go_wp2_with fail
      refine (HK1.out).mono ?_
      rintro e w5 ⟨rfl, b5⟩
      have B5 : Hid (Below w.heap.size w w5) := Lib.hid (B4.out.trans (b5.mono B4.out.size))
      clear b5
      go_wp2_with fail
      go_ret
      exact ⟨rfl, B5.out⟩
    by_cases g2 : y ≤ x
    · go_wp2_with fail
      refine (HK1.out).mono ?_
      rintro e w5 ⟨rfl, b5⟩
      have B5 : Hid (Below w.heap.size w w5) := Lib.hid (B4.out.trans (b5.mono B4.out.size))
      clear b5
      go_wp2_with fail
      go_ret
      exact ⟨rfl, B5.out⟩
    by_cases g3 : (n : Int) < y
    · go_wp2_with fail
      refine (HK1.out).mono ?_
      rintro e w5 ⟨rfl, b5⟩
      have B5 : Hid (Below w.heap.size w w5) := Lib.hid (B4.out.trans (b5.mono B4.out.size))
      clear b5
      go_wp2_with fail
      go_ret
      exact ⟨rfl, B5.out⟩
    by_cases g4 : z < 0
    · go_wp2_with fail
      refine (HK1.out).mono ?_
      rintro e w5 ⟨rfl, b5⟩
      have B5 : Hid (Below w.heap.size w w5) := Lib.hid (B4.out.trans (b5.mono B4.out.size))
      clear b5
      go_wp2_with fail
      go_ret
      exact ⟨rfl, B5.out⟩
    have g5 : 1073741824 < z := by have := HBAD.out; omega
    go_wp2_with fail
    refine (HK1.out).mono ?_
    rintro e w5 ⟨rfl, b5⟩
    have B5 : Hid (Below w.heap.size w w5) := Lib.hid (B4.out.trans (b5.mono B4.out.size))
    clear b5
    go_wp2_with fail
    go_ret
    exact ⟨rfl, B5.out⟩
  have hx0 : 0 ≤ x := by omega
  have hxy : x < y := by omega
  have hyn : y ≤ (n : Int) := by omega
  have hz0 : 0 ≤ z := by omega
  have hz1 : z ≤ 1073741824 := by omega
  clear hbad
  obtain ⟨a, rfl⟩ : ∃ a : Nat, x = (a : Int) := ⟨x.toNat, by omega⟩
  obtain ⟨t, rfl⟩ : ∃ t : Nat, y = (t : Int) := ⟨y.toNat, by omega⟩
  obtain ⟨b0, hb0⟩ : ∃ b0 : Nat, z = (b0 : Int) := ⟨z.toNat, by omega⟩
  obtain ⟨m, hm⟩ : ∃ m, t - a = m := ⟨_, rfl⟩
  have hat : a < t := by omega
  have htn : t ≤ n := by omega
  have hb1 : b0 ≤ 1073741824 := by omega
  have f1 : ¬ (a : Int) < 0 := by omega
  have f2 : ¬ (t : Int) ≤ (a : Int) := by omega
  have f3 : ¬ (n : Int) < (t : Int) := by omega
  have f4 : ¬ z < 0 := by omega
  have f5 : ¬ 1073741824 < z := by omega
  have HN := Lib.hid hn; have HCL := Lib.hid hclamp; have HB0 := Lib.hid hb0
  clear hn hclamp hb0 _x0 _x1 _y0 _y1 _z0 _z1 hx0 hxy hyn hz0 hz1
  have HAM : Hid (a + m = t) := Lib.hid (by omega)
  go_enter Tryz.func3, Tryz.ntmps3
  go_wp2_with fail
  refine (awake_c s _ hs).mono ?_
  rintro e w1 ⟨rfl, b1⟩
  have B1 := Lib.hid b1; clear b1
  go_wp2_with fail
  refine (dsk_of_c T _ hT).mono ?_
  rintro e w2 ⟨p, g, cap, rfl, hd, b2, hg⟩
  obtain ⟨D0, hD0⟩ : ∃ D0, newD (T.data.toList.take (64 * clampI ((T.size : Int) / 64) 4096)) = D0 := ⟨_, rfl⟩
  rw [hD0] at hd
  have hD0' : newD (T.data.toList.take (64 * (T.data.toList.length / 64))) = D0 := by rw [hsl, HN.out, ← hD0, HCL.out]
  have hD0n : D0.n = n := by rw [← hD0, HCL.out]; have := HN.out; unfold DS.n newD; simp only [List.length_take, hsl]; omega
  have hparts : rowsD D0 0 n = partsF T.data.toList := by have := parts_rows T.data.toList; rw [hD0', hD0n] at this; exact this
  have hD0o : D0.on = true := by rw [← hD0]; rfl
  have hD0f : D0.fuse < 0 := by rw [← hD0]; show (-1 : Int) < 0; omega
  have hD0w : D0.wr = 0 := by rw [← hD0]; rfl
  have HD2 := Lib.hid hd; have HP := Lib.hid hparts
  have B2 : Hid (Below w.heap.size w w2) := Lib.hid (B1.out.trans (b2.mono B1.out.size))
  have hgw : w.heap.size ≤ g := Nat.le_trans B1.out.size hg
  have hpg := hd.lt
  clear hd b2 hD0 hD0' hparts
  go_wp2_with fail
  refine (rparts_c T _ (by omega)).mono ?_
  rintro e w3 ⟨⟨ga, ca, rfl, oa⟩, b3⟩
  rw [HN.out, ← HP.out] at oa
  have HD3 := Lib.hid (HD2.out.below b3 HD2.out.lt.1)
  have B3 : Hid (Below w.heap.size w w3) := Lib.hid (B2.out.trans (b3.mono B2.out.size))
  have hga := (oa.lt ga rfl)
  have hca : n ≤ ca := by
    rcases oa.2 with ⟨h1, _⟩ | ⟨_, c1, _, h1, _, _, h2, _⟩
    · cases h1
    · simp only [Value.slice.injEq] at h1; omega
  have HOA := Lib.hid oa
  clear b3 HD2 oa
  rw [HN.out]
  obtain ⟨rs0, hf0⟩ := follows_exists (rowsD D0 a m) b0 (by omega)
  have hop := live_open s w p g cap D0 a m b0 0 rs0 (a : Int) (t : Int) z w3 hs B3.out HD3.out hgw rfl (by rw [HAM.out]) HB0.out (by omega) (by have := HAM.out; omega) hb1 hD0o hD0f (by omega) (by have := HAM.out; omega) hf0
  have HOP := Lib.hid hop; have HF0 := Lib.hid hf0
  clear hop hf0
  go_wp2_with fail
  refine (HOP.out).mono ?_
  rintro e w4 ⟨q, v4, d4, rfl, hl4, hc4, hq4, hv4, hn4, hout4, hb4⟩
  have oa4 := hc4.own HOA.out (fun k hk hS => by
    have h1 : ga = k := Option.some.inj hk
    rcases hS with h | h <;> omega)
  have hac := oa4.cells (g := ga) rfl
  have hOut4 : Out d4 n a m (rowsD D0 0 a) (rowsD D0 t (n - t)) := Out.step (d := D0) ⟨hD0n, rfl, by rw [HAM.out]⟩ hn4 hout4
  have hqa : ga < q := by omega
  have HL4 := Lib.hid hl4; have HOUT := Lib.hid hOut4; have HB4 := Lib.hid hb4; have HV4 := Lib.hid hv4
  have hlq4 := hl4.mem.lt
  have hga4 : ga < w4.heap.size := by omega
  have HALL : Hid (∀ W, Below w4.heap.size w4 W → SRow W w4.heap.size (some ⟨ga, 0, none⟩) ((rowsD D0 0 n).map bst)) := Lib.hid fun W hW h0 => ⟨_, rfl, hga4, fun i zz hz => by
    have hp : ((⟨ga, 0, none⟩ : Addr).add i).block < w4.heap.size := by rw [block_addS]; exact hga4
    refine (hW.cell (p := (⟨ga, 0, none⟩ : Addr).add i) hp).trans (hac i (.string zz) ?_)
    rw [strVs_get]
    rw [List.getElem?_map] at hz
    cases hF : (rowsD D0 0 n)[i]? with
    | none => rw [hF] at hz; cases hz
    | some bb => rw [hF] at hz; simp at hz; simp [hz]⟩
  clear hl4 hc4 hout4 hb4 hv4 oa4 hac hOut4 HOP HOA HD3
  have hcaa : ¬ ca = a := by omega
  have a0 : (0 : Int) ≤ (a : Int) := by omega
  have at1 : (a : Int) ≤ (t : Int) := by omega
  have an : (a : Int) ≤ (n : Int) := by omega
  have tn : (t : Int) ≤ (n : Int) := by omega
  have tca : (t : Int) ≤ (ca : Int) := by omega
  go_wp2_with fail
  have hmid : ((rowsD D0 0 n).drop a).take m = rowsD D0 a m := by
    rw [rows_rest D0 (by omega), show n - a = m + (n - t) by omega, rowsD_app, List.take_left' (rowsD_len _ _ _)]
  have hs4 := (((HALL.out w4 (Below.refl _ _)).at_end (n := a) (by rw [List.length_map, rowsD_len]; omega)).take m)
  rw [← List.map_drop, ← List.map_take, hmid, Nat.zero_add] at hs4
  have hrl := rlog_c ga a (ca - a) (rowsD D0 a m) b0 z w4 HB0.out hb1 hs4 (by rw [rowsD_len]; omega) (by rw [rowsD_len]; omega)
  rw [rowsD_len] at hrl
  have HRL := Lib.hid hrl; have HMID := Lib.hid hmid
  clear hrl hs4 hmid
  refine (HRL.out).mono ?_
  rintro e w5 ⟨⟨rs1, u1, rfl, hf1, o1, hne1⟩, b5⟩
  obtain rfl := follows_uniq hf1 HF0.out
  have hlaid := hf1.laid
  obtain ⟨U, hU⟩ : ∃ U, (layR b0 rs1).length = U := ⟨_, rfl⟩
  have hUm : U ≤ m := by rw [← hU]; exact HL4.out.mem.room
  rw [hU] at hlaid ⊢
  have HU := Lib.hid hU
  have HL5 := Lib.hid (HL4.out.below b5 (Nat.le_refl _))
  have HB5 : Hid (Below w.heap.size w w5) := Lib.hid (HB4.out.trans (b5.mono HB4.out.size))
  have hsu5 : SureAt w5 w.heap.size q p g u1 v4 rs1 := ⟨own_mono o1 HB4.out.size, hne1, fun k hk hS => by have h1 := (o1.lt k hk).1; have h2 := (HL4.out.mem.lts k hS).2; omega⟩
  obtain ⟨gw, cw, hu1, _, _⟩ := hsu5.addr
  subst hu1
  have hgw4 : w4.heap.size ≤ gw := (o1.lt gw rfl).1
  have HSW5 := Lib.hid hsu5
  have HALL5 := Lib.hid (HALL.out w5 b5)
  have B45 := Lib.hid b5
  have HLAID := Lib.hid hlaid
  clear o1 hne1 hsu5 b5 hf1 hU hlaid HL4 HRL
  go_wp2_with fail
  have hj1 := joined_c (.slice (some ⟨ga, 0, none⟩) a ca) (rowsD D0 0 a) w5 ⟨some ⟨ga, 0, none⟩, ca, by rw [rowsD_len], by rw [rowsD_len]; omega, by
    have h1 := (HALL5.out.take a)
    rw [← List.map_take, show (rowsD D0 0 n).take a = rowsD D0 0 a from by conv => lhs; rw [show n = a + (n - a) by omega, rowsD_take D0 a (n - a)]] at h1
    exact h1.mono B45.out.size⟩ (rowsD_64 (by omega)) (by rw [rowsD_len]; omega)
  refine hj1.mono ?_
  rintro e w6 ⟨rfl, rfl⟩
  obtain ⟨AH, hAH⟩ : ∃ AH, bst (rowsD D0 0 a).flatten = AH := ⟨_, rfl⟩
  have hAHs : AH.size = 64 * a := by rw [← hAH, bst_size, flat_len _ (rowsD_64 (by omega)), rowsD_len]
  rw [hAH]
  have HAH := Lib.hid hAH
  clear hj1 hAH
  obtain ⟨BH, hBH⟩ : ∃ BH, bst (rowsD D0 t (n - t)).flatten = BH := ⟨_, rfl⟩
  have hBHs : BH.size ≤ 64 * n := by rw [← hBH, bst_size, flat_len _ (rowsD_64 (by omega)), rowsD_len]; omega
  have HBH := Lib.hid hBH
  have hs12 := HALL5.out.cutD (n := t) (c := ca) (by rw [List.length_map, rowsD_len]; omega) (by rw [List.length_map, rowsD_len]; omega)
  rw [← List.map_drop, rows_rest D0 (by omega), Nat.zero_add] at hs12
  have hj2 : ∀ (B : Option Addr) (cc : Nat), n - t ≤ cc → B = (if ca = t then some ⟨ga, 0, none⟩ else some ⟨ga, t, none⟩) → Calls Tryz.prog 12 #[.slice B (n - t) cc] w6 fun e w' => e = .returned (.string BH) ∧ w' = w6 := fun B cc hcc hB => by
    have h1 := joined_c (.slice B (n - t) cc) (rowsD D0 t (n - t)) w6 ⟨_, cc, by rw [rowsD_len], by rw [rowsD_len]; exact hcc, by rw [hB]; exact hs12.mono B45.out.size⟩ (rowsD_64 (by omega)) (by rw [rowsD_len]; omega)
    rw [hBH] at h1
    exact h1
  have HJ2 := Lib.hid hj2
  clear hj2 hs12 hBH
  go_upto_region 12 with fail
  go_cut [14, 20] (fun al bh wx => al = .slice (some ⟨ga, 0, none⟩) n ca ∧ bh = .string BH ∧ w6 = wx)
  case first => as_aux_lemma =>
    by_cases hct : ca = t
    · have HJ3 := Lib.hid (HJ2.out (some ⟨ga, 0, none⟩) 0 (by omega) (by rw [if_pos hct]))
      clear HJ2
      go_wp2_with fail
      refine (HJ3.out).mono ?_
      rintro e w7 ⟨rfl, rfl⟩
      go_wp2_with fail
      go_meet
      exact ⟨by first | rfl | rw [hct], rfl, rfl⟩
    · go_wp2_with fail
      refine (HJ2.out _ _ (by omega) (by rw [if_neg hct])).mono ?_
      rintro e w7 ⟨rfl, rfl⟩
      go_wp2_with fail
      go_meet
      exact ⟨by first | rfl | rw [hct], rfl, rfl⟩
  case rest =>
  obtain ⟨rfl, rfl, rfl⟩ := hcut
  obtain ⟨V, hV⟩ : ∃ V : Nat, a + U = V := ⟨_, rfl⟩
  have hVi : (a : Int) + (U : Int) = (V : Int) := by omega
  have hVa : V - a = U := by omega
  have hVc : (V : Int) ≤ (ca : Int) := by omega
  have aV : (a : Int) ≤ (V : Int) := by omega
  have hmade : (w6.alloc (.cells #[] 9)).ownsRow w6.heap.size 9 1 (.slice (some ⟨w6.heap.size, 0, none⟩) 0 0) 0 [] := World.ownsRow_made w6 #[] 0 (Nat.le_refl _) (by unfold maxLen; omega) rfl
  have HMD := Lib.hid hmade
  have hnews : ∀ i xx, (strVs (layR b0 rs1))[i]? = some xx → (w6.alloc (.cells #[] 9)).cell? ((⟨ga, a, none⟩ : Addr).add i) = some xx := fun i xx hx => by
    have hiU : i < U := by have := (List.getElem?_eq_some_iff.1 hx).1; rw [strVs_len, HU.out] at this; exact this
    have hrow : (rowsD D0 0 n)[a + i]? = (layR b0 rs1)[i]? := by
      rw [← HLAID.out, List.getElem?_take_of_lt hiU, ← HMID.out, List.getElem?_take_of_lt (by omega), List.getElem?_drop]
    rw [strVs_get] at hx
    obtain ⟨bb, hbb, rfl⟩ := Option.map_eq_some_iff.1 hx
    obtain ⟨a', e', _, hc'⟩ := HALL5.out (by rw [List.length_map, rowsD_len]; omega)
    obtain rfl := Option.some.inj e'
    have h1 := hc' (a + i) (bst bb) (by rw [List.getElem?_map, hrow, hbb]; rfl)
    rw [addr_add] at h1 ⊢
    rw [Nat.zero_add] at h1
    exact (World.cell?_of_block (a := ⟨ga, a + i, none⟩) (Below.heap_alloc w6 _ ga (by have := B45.out.size; omega))).trans h1
  have HNW := Lib.hid hnews
  have hgp7 := HB5.out.size
  obtain ⟨ti, hti, hz0', hz1', hz2'⟩ := Tryz.infoSt
  clear hV hmade hnews
  go_wp2_with (at_builtin; refine wpList_append_own_at _ rfl _ _ 22 rfl w6.heap.size 9 ti _ 1 16 Tryz.underlying22 hti hz0' hz1' hz2' rfl (by decide) _ 0 [] rfl HMD.out ⟨ga, a, none⟩ U (ca - a) (strVs (layR b0 rs1)) rfl ?c0 ?c1 ?c2 ?c3 ?c4 ?c5 ?_)
  case c0 => rw [strVs_len, HU.out, Nat.mul_one]
  case c1 => exact HNW.out
  case c2 => exact strVs_one _
  case c3 => unfold maxLen; omega
  case c4 => omega
  case c5 => first | omega | (rw [World.size_alloc]; omega)
  intro u8 w8 o8 g8 hnil8 _
  have b68 : Below w6.heap.size w6 w8 := ((Below.refl _ w6).alloc (Nat.le_refl _) _).grown g8 (by rw [World.size_alloc]; omega) (fun k hk => by simp [Value.ownBlock] at hk; omega)
  have o8' : w8.ownsRow w6.heap.size 9 1 u8 U (strVs (layR b0 rs1)) := by simpa using o8
  have hlb8 := o8'.lt
  have hsb : SureAt w8 w.heap.size q p g u8 v4 (layR b0 rs1) := ⟨by rw [HU.out]; exact own_mono o8' hgp7, fun h => by first | exact hnil8 h | (have := hnil8.1 h; simp at this), fun k hk hS => by have h1 := (hlb8 k hk).1; have h2 := (HL5.out.mem.lts k hS).2; omega⟩
  obtain ⟨gu, cu, hu8, _, _⟩ := hsb.addr
  rw [HU.out] at hu8
  subst hu8
  have hguw : gw ≠ gu := by have h1 := (hlb8 gu rfl).1; have h2 := (HSW5.out.own.lt gw rfl).2; omega
  have HSB := Lib.hid hsb
  have HSW := Lib.hid (HSW5.out.below b68 (Nat.le_refl _))
  have HLV := Lib.hid (HL5.out.below b68 (Nat.le_refl _))
  have HBW : Hid (Below w.heap.size w w8) := Lib.hid (HB5.out.trans (b68.mono HB5.out.size))
  have hP1 : AH.size ≤ 2000 := by omega
  have hP2 : BH.size ≤ 2000 := by omega
  have HTM : Hid (t - a = m) := Lib.hid hm
  have HBE := HB0
  clear hnil8 g8 o8 o8' hlb8 hsb b68 HMD HNW HSW5 HL5 HB5 HALL HALL5 HLAID HMID hVi hVa hVc aV HJ2 hcaa a0 at1 an tn tca hgw4 hga hga4 hca hqa
  have hrs20 : rs1.length ≤ m := Nat.le_trans (layR_ge b0 rs1) (by rw [HU.out]; exact hUm)
  have hm30 : m ≤ 30 := by have := HTM.out; omega
  have him := image_of HLV.out.at_ HLV.out.mem.disk.ok.whole HOUT.out
  rw [HAH.out, HBH.out, HU.out] at him
  obtain ⟨JJ, hJJ⟩ : ∃ JJ, bst (layR b0 rs1).flatten = JJ := ⟨_, rfl⟩
  obtain ⟨ZZ, hZZ⟩ : ∃ ZZ, bst (List.replicate (64 * (m - U)) 0) = ZZ := ⟨_, rfl⟩
  have hJs : JJ.size = 64 * U := by rw [← hJJ, bst_size, flat_len _ layR_64, HU.out]
  have hZs : ZZ.size = 64 * (m - U) := by rw [← hZZ, bst_size, List.length_replicate]
  rw [hJJ, hZZ] at him
  have HIM := Lib.hid him; have HJJ := Lib.hid hJJ; have HZZ := Lib.hid hZZ
  have s1 : ¬ 9223372036854775807 < AH.size + JJ.size := by omega
  have s2 : ¬ 9223372036854775807 < AH.size + JJ.size + ZZ.size := by omega
  have s3 : ¬ 9223372036854775807 < AH.size + JJ.size + ZZ.size + BH.size := by omega
  have rq : (((m - U : Nat) : Int) != (t : Int) - (a : Int) - (U : Int)) = false := by rw [bne_eq_false_iff_eq]; have := HTM.out; omega
  clear him hJJ hZZ
  go_wp2_with fail
  refine (records_c w.heap.size q p g cap _ a m b0 _ rs1 false _ HLV.out.mem).mono ?_
  rintro e k1 ⟨⟨c1, rfl, o1⟩, b1⟩
  have HLV1 := Lib.hid (HLV.out.below b1 (Nat.le_refl _)); have HSW1 := Lib.hid (HSW.out.below b1 (Nat.le_refl _)); have HSB1 := Lib.hid (HSB.out.below b1 (Nat.le_refl _)); have HBW1 : Hid (Below w.heap.size w k1) := Lib.hid (HBW.out.trans (b1.mono HBW.out.size))
  have HR1 := Lib.hid (own_reads o1)
  clear o1 b1 HLV HSW HSB HBW
  go_wp2_with fail
  have hsm := same_c _ _ rs1 rs1 k1 HR1.out (own_reads HSW1.out.own) (by omega) (by omega)
  rw [decide_eq_true rfl] at hsm
  refine hsm.mono ?_
  rintro e k2 ⟨rfl, h2⟩
  have HLV2 := Lib.hid (HLV1.out.same h2); have HSW2 := Lib.hid (HSW1.out.same h2); have HSB2 := Lib.hid (HSB1.out.same h2); have HBW2 : Hid (Below w.heap.size w k2) := Lib.hid (HBW1.out.trans (h2.below _))
  clear h2 hsm HR1 HLV1 HSW1 HSB1 HBW1
  go_wp2_with fail
  refine (next_c _ q p g cap _ a m b0 _ rs1 false _ HLV2.out.mem).mono ?_
  rintro e k3 ⟨he, h3⟩
  obtain ⟨NX, he2, hnx⟩ : ∃ NX : Int, e = .returned (.int .i64 NX) ∧ (NX != z + (rs1.length : Int) + 1) = false := ⟨_, he, by rw [bne_eq_false_iff_eq, HBE.out]; omega⟩
  subst he2
  clear he
  have HLV3 := Lib.hid (HLV2.out.same h3); have HSW3 := Lib.hid (HSW2.out.same h3); have HSB3 := Lib.hid (HSB2.out.same h3); have HBW3 : Hid (Below w.heap.size w k3) := Lib.hid (HBW2.out.trans (h3.below _))
  clear h3 HLV2 HSW2 HSB2 HBW2
  go_wp2_with fail
  have hrm := room_c _ q p g cap _ a m b0 _ rs1 false _ HLV3.out.mem
  rw [HU.out] at hrm
  refine hrm.mono ?_
  rintro e k4 ⟨rfl, h4⟩
  have HLV4 := Lib.hid (HLV3.out.same h4); have HSW4 := Lib.hid (HSW3.out.same h4); have HSB4 := Lib.hid (HSB3.out.same h4); have HBW4 : Hid (Below w.heap.size w k4) := Lib.hid (HBW3.out.trans (h4.below _))
  clear h4 hrm HLV3 HSW3 HSB3 HBW3
  go_wp2_with fail
  refine (image_c p g cap _ _ HLV4.out.mem.disk).mono ?_
  rintro e k5 ⟨rfl, rfl⟩
  rw [HIM.out]
  go_wp2_with fail
  have hjn := joined_c _ (layR b0 rs1) k4 (own_reads HSB4.out.own) layR_64 (by rw [HU.out]; omega)
  rw [HJJ.out] at hjn
  refine hjn.mono ?_
  rintro e k5 ⟨rfl, rfl⟩
  go_wp2_with fail
  have hzc := zeros_c ((t : Int) - (a : Int) - (U : Int)) (m - U) k5 (by have := HTM.out; omega) (by omega)
  rw [HZZ.out] at hzc
  refine hzc.mono ?_
  rintro e k6 ⟨rfl, b6⟩
  have HLV := Lib.hid (HLV4.out.below b6 (Nat.le_refl _)); have HSW := Lib.hid (HSW4.out.below b6 (Nat.le_refl _)); have HSB := Lib.hid (HSB4.out.below b6 (Nat.le_refl _)); have HBW : Hid (Below w.heap.size w k6) := Lib.hid (HBW4.out.trans (b6.mono HBW4.out.size))
  clear b6 hzc hjn HLV4 HSW4 HSB4 HBW4 hnx rq HIM HJJ HZZ
  have hst : ExRel w q p g cap a m n zs.length (rowsD D0 0 a) (rowsD D0 t (n - t)) (.int .i64 z) (.slice (some ⟨gw, 0, none⟩) rs1.length cw) (.slice (some ⟨gu, 0, none⟩) U cu) (.int .i64 0) k6 := ⟨0, rfl, Nat.zero_le _, z, b0, rs1, _, _, v4, d4, rfl, HB0.out, hb1, rfl, rfl, HSW.out, HSB.out, fun k hk hk2 => by
    have h1 : gw = k := Option.some.inj hk
    have h2 : gu = k := Option.some.inj hk2
    omega, HLV.out.le (by omega), HOUT.out, HBW.out⟩
  have HST := Lib.hid hst
  clear hst HLV HSW HSB HBW HOUT HU hrs20
  go_wp2_with fail
  go_loopw [3, 17, 21, 22] (fun base wv bl i wr => ExRel w q p g cap a m n zs.length (rowsD D0 0 a) (rowsD D0 t (n - t)) base wv bl i wr) (fun _ _ _ i _ => zs.length - (intOf i).toNat)
  case atStart => exact HST.out
  case round => as_aux_lemma =>
    obtain ⟨j, rfl, hj, be, b, rs, uw, ub, v, d, rfl, hbe, hbb, rfl, rfl, hsw, hsb, hdis, hlv, hout, hb⟩ := hrel
    clear HST
    by_cases hjl : j < zs.length
    case neg => as_aux_lemma =>
      have hge : ¬ (j : Int) < (zs.length : Int) := by omega
      have HB := Lib.hid hb
      clear hsw hsb hdis hlv hout hb
      go_wp2_with fail
      have HO := Lib.hid (nil_open s 0 1 0 wr (hs.below HB.out (Nat.le_refl _)))
      refine (HO.out).mono ?_
      rintro e w20 ⟨rfl, h20a⟩
      have B20 : Hid (Below w.heap.size w w20) := Lib.hid (HB.out.trans (h20a.below _))
      clear h20a HB HO
      go_wp2_with fail
      refine (kind_errV s 2 _ (hs.below B20.out (Nat.le_refl _)) (by omega)).mono ?_
      rintro e w21 ⟨rfl, b21⟩
      have B21 : Hid (Below w.heap.size w w21) := Lib.hid (B20.out.trans (b21.mono B20.out.size))
      clear b21 B20
      go_wp2_with fail
      refine (nil_add s _ _ (hs.below B21.out (Nat.le_refl _))).mono ?_
      rintro e w22 ⟨rfl, rfl⟩
      go_wp2_with fail
      refine (kind_errV s 2 _ (hs.below B21.out (Nat.le_refl _)) (by omega)).mono ?_
      rintro e w22 ⟨rfl, b22⟩
      have B22 : Hid (Below w.heap.size w w22) := Lib.hid (B21.out.trans (b22.mono B21.out.size))
      clear b22 B21
      go_wp2_with fail
      refine (nil_reset s _ _ (hs.below B22.out (Nat.le_refl _))).mono ?_
      rintro e w23 ⟨rfl, rfl⟩
      go_wp2_with fail
      refine (kind_errV s 2 _ (hs.below B22.out (Nat.le_refl _)) (by omega)).mono ?_
      rintro e w23 ⟨rfl, b23⟩
      have B23 : Hid (Below w.heap.size w w23) := Lib.hid (B22.out.trans (b23.mono B22.out.size))
      clear b23 B22
      go_wp2_with fail
      refine (nil_records _).mono ?_
      rintro e w24 ⟨rfl, rfl⟩
      go_wp2_with fail
      refine (nil_next _).mono ?_
      rintro e w24 ⟨rfl, rfl⟩
      go_wp2_with fail
      refine (nil_room _).mono ?_
      rintro e w24 ⟨rfl, rfl⟩
      go_wp2_with fail
      go_ret
      exact ⟨rfl, B23.out⟩
    obtain ⟨zz, hzz⟩ : ∃ zz, zs[j]? = some zz := ⟨_, List.getElem?_eq_getElem hjl⟩
    have HCZ : Hid (∀ W, Below w.heap.size w W → ∃ aZ, A = some aZ ∧ W.cell? (aZ.add j) = some (.string zz)) := Lib.hid fun W hW => by
      obtain ⟨aZ, e, _, h⟩ := (HA.out.below hW (Nat.le_refl _)).cell hzz
      exact ⟨aZ, e, h⟩
    obtain ⟨aZ, rfl, caZ⟩ := HCZ.out wr hb
    have j0 : (0 : Int) ≤ (j : Int) := by omega
    have j1 : (j : Int) < (zs.length : Int) := by omega
    by_cases hz7 : 7000 < zz.size
    · have hz7i : (7000 : Int) < (zz.size : Int) := by omega
      have HB := Lib.hid hb
      clear hsw hsb hdis hlv hout hb
      go_wp2_with fail
      go_ret
      exact ⟨rfl, HB.out⟩
    have hz7i : ¬ (7000 : Int) < (zz.size : Int) := by omega
    have HSW := Lib.hid hsw; have HSB := Lib.hid hsb; have HLV := Lib.hid hlv; have HOUT := Lib.hid hout; have HB := Lib.hid hb; have HDI := Lib.hid hdis; have HBE := Lib.hid hbe
    clear hsw hsb hlv hout hb hdis hbe
    have HSTA : Hid (ExSt w q p g cap a m n (rowsD D0 0 a) (rowsD D0 t (n - t)) (5000 + 5000 * j + 1000) (.int .i64 be) uw ub wr) := Lib.hid ⟨be, b, rs, uw, ub, v, d, rfl, HBE.out, hbb, rfl, rfl, HSW.out, HSB.out, HDI.out, HLV.out.le (by omega), HOUT.out, HB.out⟩
    go_upto_region 21 with fail
    go_cut [179] (fun cc wx => ∃ bb : Bool, cc = .bool bb ∧ (bb = true → ∃ r, rr[j]? = some r ∧ -5 < r) ∧ wr = wx)
    case first => as_aux_lemma =>
      by_cases hjr : j < rr.length
      · have kr1 : (j : Int) < (rr.length : Int) := by omega
        obtain ⟨r, hr⟩ : ∃ r, rr[j]? = some r := ⟨_, List.getElem?_eq_getElem hjr⟩
        obtain ⟨aR, hAr, caR⟩ := HRR.out.cell HB.out hr
        subst hAr
        by_cases hr5 : -5 < r
        · go_wp2_with fail
          go_meet
          exact ⟨true, rfl, fun _ => ⟨r, hr, hr5⟩, rfl⟩
        · go_wp2_with fail
          go_meet
          exact ⟨false, rfl, (fun h => by cases h), rfl⟩
      · have kr1 : ¬ (j : Int) < (rr.length : Int) := by omega
        go_wp2_with fail
        go_meet
        exact ⟨false, rfl, (fun h => by cases h), rfl⟩
    case rest =>
    obtain ⟨bb, rfl, hbr, rfl⟩ := hcut
    go_upto_if 179 with fail
    go_cut [3, 17, 21] (fun base wv bl wx => ExSt w q p g cap a m n (rowsD D0 0 a) (rowsD D0 t (n - t)) (5000 + 5000 * j + 1000) base wv bl wx)
    case first => as_aux_lemma =>
      cases bb with
      | false =>
        clear hbr
        go_wp2_with fail
        go_meet
        exact HSTA.out
      | true =>
        obtain ⟨r, hr, hr5⟩ := hbr rfl
        obtain ⟨aR, hAr, caR⟩ := HRR.out.cell HB.out hr
        subst hAr
        have hjr := (List.getElem?_eq_some_iff.1 hr).1
        have kr1 : (j : Int) < (rr.length : Int) := by omega
        have HCR : Hid (∀ W, Below w.heap.size w W → W.cell? (aR.add j) = some (.int .i64 r)) := Lib.hid fun W hW => by
          obtain ⟨aR', e', h⟩ := HRR.out.cell hW hr
          obtain rfl := Option.some.inj e'
          exact h
        by_cases hrb : r < 0 ∨ 1073741824 < r
        · have hrs := reset_bad s q r wr (hs.below HB.out (Nat.le_refl _)) hrb
          have HRS := Lib.hid hrs
          have HFIN : Hid (∀ W, Below wr.heap.size wr W → ExSt w q p g cap a m n (rowsD D0 0 a) (rowsD D0 t (n - t)) (5000 + 5000 * j + 1000) (.int .i64 be) uw ub W) := Lib.hid fun W hW => ⟨be, b, rs, uw, ub, v, d, rfl, HBE.out, hbb, rfl, rfl, HSW.out.below hW (Nat.le_refl _), HSB.out.below hW (Nat.le_refl _), HDI.out, (HLV.out.below hW (Nat.le_refl _)).le (by omega), HOUT.out, HB.out.trans (hW.mono HB.out.size)⟩
          have hk1 := kind_errV s 1 wr (hs.below HB.out (Nat.le_refl _)) (by omega)
          have HK1 := Lib.hid hk1
          clear hrs hk1 HSTA
          by_cases hr0 : r < 0
          · go_wp2_with fail
            refine (HRS.out).mono ?_
            rintro e w6 ⟨rfl, rfl⟩
            go_wp2_with fail
            refine (HK1.out).mono ?_
            rintro e w6 ⟨rfl, b6⟩
            have HF6 := Lib.hid (HFIN.out w6 b6)
            clear b6
            go_wp2_with fail
            go_meet
            exact HF6.out
          · have hr1 : 1073741824 < r := by omega
            go_wp2_with fail
            refine (HRS.out).mono ?_
            rintro e w6 ⟨rfl, rfl⟩
            go_wp2_with fail
            refine (HK1.out).mono ?_
            rintro e w6 ⟨rfl, b6⟩
            have HF6 := Lib.hid (HFIN.out w6 b6)
            clear b6
            go_wp2_with fail
            go_meet
            exact HF6.out
        · have hr0 : ¬ r < 0 := by omega
          have hr1 : ¬ 1073741824 < r := by omega
          have hre := live_reset s w q p g cap a m b _ v rs d r.toNat r wr hs HB.out HLV.out (by omega) (by omega) (by omega)
          have HRE := Lib.hid hre
          clear hre hrb HSTA
          go_wp2_with fail
          refine (HRE.out).mono ?_
          rintro e w6 ⟨rfl, d6, hl6, hc6, hn6, ho6, hb6⟩
          have caR6 := HCR.out w6 hb6
          have hbA : Below w6.heap.size w6 ((w6.alloc (.cells #[] 9)).alloc (.cells #[] 9)) := ((Below.refl _ _).alloc (Nat.le_refl _) _).alloc (by rw [World.size_alloc]; omega) _
          have HFIN : Hid (ExSt w q p g cap a m n (rowsD D0 0 a) (rowsD D0 t (n - t)) (5000 + 5000 * j + 1000) (.int .i64 r) (.slice (some ⟨w6.heap.size, 0, none⟩) 0 0) (.slice (some ⟨w6.heap.size + 1, 0, none⟩) 0 0) ((w6.alloc (.cells #[] 9)).alloc (.cells #[] 9))) := Lib.hid (by
            have h1 : (w6.alloc (.cells #[] 9)).ownsRow w.heap.size 9 1 (.slice (some ⟨w6.heap.size, 0, none⟩) 0 0) 0 [] := World.ownsRow_made w6 #[] 0 hb6.size (by unfold maxLen; omega) rfl
            have h2 := World.ownsRow_made (e := 9) (size := 1) (base := w.heap.size) (w6.alloc (.cells #[] 9)) #[] 0 (by rw [World.size_alloc]; have := hb6.size; omega) (by unfold maxLen; omega) rfl
            rw [World.size_alloc] at h2
            refine ⟨r, r.toNat, [], _, _, .slice none 0 0, d6, rfl, by omega, by omega, rfl, rfl, ⟨h1.alloc _, by simp, fun k hk hS => ?_⟩, ⟨h2, by simp, fun k hk hS => ?_⟩, fun k hk hk2 => ?_, (hl6.below hbA (Nat.le_refl _)).le (by omega), HOUT.out.step hn6 ho6, hb6.trans (hbA.mono hb6.size)⟩
            · have h3 : w6.heap.size = k := Option.some.inj hk
              have := (hl6.mem.lts k hS).2; omega
            · have h3 : w6.heap.size + 1 = k := Option.some.inj hk
              have := (hl6.mem.lts k hS).2; omega
            · have h3 : w6.heap.size = k := Option.some.inj hk
              have h4 : w6.heap.size + 1 = k := Option.some.inj hk2
              omega)
          clear hl6 hc6 hn6 ho6 hb6 hbA HRE
          go_wp2_with fail
          go_meet
          exact HFIN.out
    case rest =>
    clear HSTA HSW HSB HLV HOUT HB HDI HBE hbr
    obtain ⟨be2, b2, rs2, uw2, ub2, v2, d2, rfl, hbe2, hbb2, rfl, rfl, hsw, hsb, hdis, hlv, hout, hb⟩ := hcut
    obtain ⟨gw2, cw2, hu1, _, _⟩ := hsw.addr
    subst hu1
    obtain ⟨gu2, cu2, hu2, _, _⟩ := hsb.addr
    obtain ⟨U, hU⟩ : ∃ U, (layR b2 rs2).length = U := ⟨_, rfl⟩
    rw [hU] at hu2
    subst hu2
    have hUm : U ≤ m := by rw [← hU]; exact hlv.mem.room
    have hguw : gw2 ≠ gu2 := fun h => hdis gw2 rfl (by rw [h]; rfl)
    have HU := Lib.hid hU
    have HSW := Lib.hid hsw; have HSB := Lib.hid hsb; have HLV := Lib.hid hlv; have HOUT := Lib.hid hout; have HBW := Lib.hid hb; have HBE := Lib.hid hbe2
    obtain ⟨aZ2, e2, caZ⟩ := HCZ.out _ hb
    obtain rfl := Option.some.inj e2
    have hrs2 : rs2.length ≤ 30 := by have := layR_ge b2 rs2; have := HTM.out; omega
    have hbl : 0 ≤ be2 := by omega
    have hbh : be2 ≤ 1073741824 := by omega
    obtain ⟨LB, hLB⟩ : ∃ LB : Int, be2 + (rs2.length : Int) + 1 = LB := ⟨_, rfl⟩
    obtain ⟨N, hN⟩ : ∃ N, nblk zz.size = N := ⟨_, rfl⟩
    have HNN := Lib.hid hN
    have hLBb : LB = ((b2 + rs2.length + 1 : Nat) : Int) := by rw [← hLB, hbe2]; omega
    have HLB := Lib.hid hLBb
    have hsz : ∀ W, Calls Tryz.prog 21 #[.string zz] W fun e w' => e = .returned (.int .i64 (N : Nat)) ∧ w' = W := fun W => by
      have h := rsize_c zz W (by omega)
      rw [hN] at h; exact h.mono fun _ _ ⟨h1, h2⟩ => ⟨h1, h2.symm⟩
    have HSZ := Lib.hid hsz
    clear hU hsw hsb hdis hlv hout hb hbe2 hN hsz hLBb
    by_cases h6 : 6000 < zz.size
    · as_aux_lemma =>
        have h6i : (6000 : Int) < (zz.size : Int) := by omega
        have hadd := add_long s w.heap.size q p g cap d2 a m b2 v2 rs2 false zz _ (hs.below HBW.out (Nat.le_refl _)) HLV.out.mem (by omega) h6
        have HADD := Lib.hid hadd
        clear hadd
        go_wp2_with fail
        refine (HADD.out).mono ?_
        rintro e x1 ⟨rfl, y1⟩
        have HLVa := Lib.hid (HLV.out.below y1 (Nat.le_refl _)); have HSWa := Lib.hid (HSW.out.below y1 (Nat.le_refl _)); have HSBa := Lib.hid (HSB.out.below y1 (Nat.le_refl _)); have HBWa : Hid (Below w.heap.size w x1) := Lib.hid (HBW.out.trans (y1.mono HBW.out.size))
        clear y1 HLV HSW HSB HBW HADD
        obtain ⟨aZ3, e3, caZ3⟩ := HCZ.out _ HBWa.out
        obtain rfl := Option.some.inj e3
        go_wp2_with fail
        refine (HSZ.out _).mono ?_
        rintro e x2 ⟨rfl, rfl⟩
        go_wp2_with fail
        refine (kind_errV s 1 _ (hs.below HBWa.out (Nat.le_refl _)) (by omega)).mono ?_
        rintro e x3 ⟨rfl, y3⟩
        have HLV := Lib.hid (HLVa.out.below y3 (Nat.le_refl _)); have HSW := Lib.hid (HSWa.out.below y3 (Nat.le_refl _)); have HSB := Lib.hid (HSBa.out.below y3 (Nat.le_refl _)); have HBW : Hid (Below w.heap.size w x3) := Lib.hid (HBWa.out.trans (y3.mono HBWa.out.size))
        clear y3 HLVa HSWa HSBa HBWa caZ caZ3
        have hrs20 : rs2.length ≤ m := Nat.le_trans (layR_ge b2 rs2) (by rw [HU.out]; exact hUm)
        have hm30 : m ≤ 30 := by have := HTM.out; omega
        have him := image_of HLV.out.at_ HLV.out.mem.disk.ok.whole HOUT.out
        rw [HAH.out, HBH.out, HU.out] at him
        obtain ⟨JJ, hJJ⟩ : ∃ JJ, bst (layR b2 rs2).flatten = JJ := ⟨_, rfl⟩
        obtain ⟨ZZ, hZZ⟩ : ∃ ZZ, bst (List.replicate (64 * (m - U)) 0) = ZZ := ⟨_, rfl⟩
        have hJs : JJ.size = 64 * U := by rw [← hJJ, bst_size, flat_len _ layR_64, HU.out]
        have hZs : ZZ.size = 64 * (m - U) := by rw [← hZZ, bst_size, List.length_replicate]
        rw [hJJ, hZZ] at him
        have HIM := Lib.hid him; have HJJ := Lib.hid hJJ; have HZZ := Lib.hid hZZ
        have s1 : ¬ 9223372036854775807 < AH.size + JJ.size := by omega
        have s2 : ¬ 9223372036854775807 < AH.size + JJ.size + ZZ.size := by omega
        have s3 : ¬ 9223372036854775807 < AH.size + JJ.size + ZZ.size + BH.size := by omega
        have rq : (((m - U : Nat) : Int) != (t : Int) - (a : Int) - (U : Int)) = false := by rw [bne_eq_false_iff_eq]; have := HTM.out; omega
        clear him hJJ hZZ
        go_wp2_with fail
        refine (records_c w.heap.size q p g cap _ a m b2 _ rs2 false _ HLV.out.mem).mono ?_
        rintro e k1 ⟨⟨c1, rfl, o1⟩, b1⟩
        have HLV1 := Lib.hid (HLV.out.below b1 (Nat.le_refl _)); have HSW1 := Lib.hid (HSW.out.below b1 (Nat.le_refl _)); have HSB1 := Lib.hid (HSB.out.below b1 (Nat.le_refl _)); have HBW1 : Hid (Below w.heap.size w k1) := Lib.hid (HBW.out.trans (b1.mono HBW.out.size))
        have HR1 := Lib.hid (own_reads o1)
        clear o1 b1 HLV HSW HSB HBW
        go_wp2_with fail
        have hsm := same_c _ _ rs2 rs2 k1 HR1.out (own_reads HSW1.out.own) (by omega) (by omega)
        rw [decide_eq_true rfl] at hsm
        refine hsm.mono ?_
        rintro e k2 ⟨rfl, h2⟩
        have HLV2 := Lib.hid (HLV1.out.same h2); have HSW2 := Lib.hid (HSW1.out.same h2); have HSB2 := Lib.hid (HSB1.out.same h2); have HBW2 : Hid (Below w.heap.size w k2) := Lib.hid (HBW1.out.trans (h2.below _))
        clear h2 hsm HR1 HLV1 HSW1 HSB1 HBW1
        go_wp2_with fail
        refine (next_c _ q p g cap _ a m b2 _ rs2 false _ HLV2.out.mem).mono ?_
        rintro e k3 ⟨he, h3⟩
        obtain ⟨NX, he2, hnx⟩ : ∃ NX : Int, e = .returned (.int .i64 NX) ∧ (NX != LB) = false := ⟨_, he, by rw [bne_eq_false_iff_eq, HLB.out]⟩
        subst he2
        clear he
        have HLV3 := Lib.hid (HLV2.out.same h3); have HSW3 := Lib.hid (HSW2.out.same h3); have HSB3 := Lib.hid (HSB2.out.same h3); have HBW3 : Hid (Below w.heap.size w k3) := Lib.hid (HBW2.out.trans (h3.below _))
        clear h3 HLV2 HSW2 HSB2 HBW2
        go_wp2_with fail
        have hrm := room_c _ q p g cap _ a m b2 _ rs2 false _ HLV3.out.mem
        rw [HU.out] at hrm
        refine hrm.mono ?_
        rintro e k4 ⟨rfl, h4⟩
        have HLV4 := Lib.hid (HLV3.out.same h4); have HSW4 := Lib.hid (HSW3.out.same h4); have HSB4 := Lib.hid (HSB3.out.same h4); have HBW4 : Hid (Below w.heap.size w k4) := Lib.hid (HBW3.out.trans (h4.below _))
        clear h4 hrm HLV3 HSW3 HSB3 HBW3
        go_wp2_with fail
        refine (image_c p g cap _ _ HLV4.out.mem.disk).mono ?_
        rintro e k5 ⟨rfl, rfl⟩
        rw [HIM.out]
        go_wp2_with fail
        have hjn := joined_c _ (layR b2 rs2) k4 (own_reads HSB4.out.own) layR_64 (by rw [HU.out]; omega)
        rw [HJJ.out] at hjn
        refine hjn.mono ?_
        rintro e k5 ⟨rfl, rfl⟩
        go_wp2_with fail
        have hzc := zeros_c ((t : Int) - (a : Int) - (U : Int)) (m - U) k5 (by have := HTM.out; omega) (by omega)
        rw [HZZ.out] at hzc
        refine hzc.mono ?_
        rintro e k6 ⟨rfl, b6⟩
        have HLV := Lib.hid (HLV4.out.below b6 (Nat.le_refl _)); have HSW := Lib.hid (HSW4.out.below b6 (Nat.le_refl _)); have HSB := Lib.hid (HSB4.out.below b6 (Nat.le_refl _)); have HBW : Hid (Below w.heap.size w k6) := Lib.hid (HBW4.out.trans (b6.mono HBW4.out.size))
        clear b6 hzc hjn HLV4 HSW4 HSB4 HBW4 hnx rq HIM HJJ HZZ
        go_wp2_with fail
        have HNX : Hid (ExRel w q p g cap a m n zs.length (rowsD D0 0 a) (rowsD D0 t (n - t)) (.int .i64 be2) (.slice (some ⟨gw2, 0, none⟩) rs2.length cw2) (.slice (some ⟨gu2, 0, none⟩) U cu2) (.int .i64 ((j : Int) + 1)) k6) := Lib.hid ⟨j + 1, ret_v (by omega), hjl, be2, b2, rs2, _, _, _, _, rfl, HBE.out, hbb2, rfl, rfl, HSW.out, HSB.out, fun k hk hk2 => hguw (by have h1 : gw2 = k := Option.some.inj hk; have h2 : gu2 = k := Option.some.inj hk2; omega), HLV.out.le (by omega), HOUT.out, HBW.out⟩
        clear HLV HSW HSB HBW
        go_roundw
        case rel => exact HNX.out
        case measure => simp [intOf]; omega
    have h6i : ¬ (6000 : Int) < (zz.size : Int) := by omega
    by_cases hfull : m - U < N
    · as_aux_lemma =>
        have hfi : (t : Int) - (a : Int) - (U : Int) < (N : Int) := by have := HTM.out; omega
        have hadd := add_full s w.heap.size q p g cap d2 a m b2 v2 rs2 false zz _ (hs.below HBW.out (Nat.le_refl _)) HLV.out.mem (by omega) (.inl (by rw [HU.out, HNN.out]; exact hfull))
        have HADD := Lib.hid hadd
        clear hadd
        go_wp2_with fail
        refine (HADD.out).mono ?_
        rintro e x1 ⟨rfl, y1⟩
        have HLVa := Lib.hid (HLV.out.below y1 (Nat.le_refl _)); have HSWa := Lib.hid (HSW.out.below y1 (Nat.le_refl _)); have HSBa := Lib.hid (HSB.out.below y1 (Nat.le_refl _)); have HBWa : Hid (Below w.heap.size w x1) := Lib.hid (HBW.out.trans (y1.mono HBW.out.size))
        clear y1 HLV HSW HSB HBW HADD
        obtain ⟨aZ3, e3, caZ3⟩ := HCZ.out _ HBWa.out
        obtain rfl := Option.some.inj e3
        go_wp2_with fail
        refine (HSZ.out _).mono ?_
        rintro e x2 ⟨rfl, rfl⟩
        go_wp2_with fail
        refine (kind_errV s 7 _ (hs.below HBWa.out (Nat.le_refl _)) (by omega)).mono ?_
        rintro e x3 ⟨rfl, y3⟩
        have HLV := Lib.hid (HLVa.out.below y3 (Nat.le_refl _)); have HSW := Lib.hid (HSWa.out.below y3 (Nat.le_refl _)); have HSB := Lib.hid (HSBa.out.below y3 (Nat.le_refl _)); have HBW : Hid (Below w.heap.size w x3) := Lib.hid (HBWa.out.trans (y3.mono HBWa.out.size))
        clear y3 HLVa HSWa HSBa HBWa caZ caZ3
        have hrs20 : rs2.length ≤ m := Nat.le_trans (layR_ge b2 rs2) (by rw [HU.out]; exact hUm)
        have hm30 : m ≤ 30 := by have := HTM.out; omega
        have him := image_of HLV.out.at_ HLV.out.mem.disk.ok.whole HOUT.out
        rw [HAH.out, HBH.out, HU.out] at him
        obtain ⟨JJ, hJJ⟩ : ∃ JJ, bst (layR b2 rs2).flatten = JJ := ⟨_, rfl⟩
        obtain ⟨ZZ, hZZ⟩ : ∃ ZZ, bst (List.replicate (64 * (m - U)) 0) = ZZ := ⟨_, rfl⟩
        have hJs : JJ.size = 64 * U := by rw [← hJJ, bst_size, flat_len _ layR_64, HU.out]
        have hZs : ZZ.size = 64 * (m - U) := by rw [← hZZ, bst_size, List.length_replicate]
        rw [hJJ, hZZ] at him
        have HIM := Lib.hid him; have HJJ := Lib.hid hJJ; have HZZ := Lib.hid hZZ
        have s1 : ¬ 9223372036854775807 < AH.size + JJ.size := by omega
        have s2 : ¬ 9223372036854775807 < AH.size + JJ.size + ZZ.size := by omega
        have s3 : ¬ 9223372036854775807 < AH.size + JJ.size + ZZ.size + BH.size := by omega
        have rq : (((m - U : Nat) : Int) != (t : Int) - (a : Int) - (U : Int)) = false := by rw [bne_eq_false_iff_eq]; have := HTM.out; omega
        clear him hJJ hZZ
        go_wp2_with fail
        refine (records_c w.heap.size q p g cap _ a m b2 _ rs2 false _ HLV.out.mem).mono ?_
        rintro e k1 ⟨⟨c1, rfl, o1⟩, b1⟩
        have HLV1 := Lib.hid (HLV.out.below b1 (Nat.le_refl _)); have HSW1 := Lib.hid (HSW.out.below b1 (Nat.le_refl _)); have HSB1 := Lib.hid (HSB.out.below b1 (Nat.le_refl _)); have HBW1 : Hid (Below w.heap.size w k1) := Lib.hid (HBW.out.trans (b1.mono HBW.out.size))
        have HR1 := Lib.hid (own_reads o1)
        clear o1 b1 HLV HSW HSB HBW
        go_wp2_with fail
        have hsm := same_c _ _ rs2 rs2 k1 HR1.out (own_reads HSW1.out.own) (by omega) (by omega)
        rw [decide_eq_true rfl] at hsm
        refine hsm.mono ?_
        rintro e k2 ⟨rfl, h2⟩
        have HLV2 := Lib.hid (HLV1.out.same h2); have HSW2 := Lib.hid (HSW1.out.same h2); have HSB2 := Lib.hid (HSB1.out.same h2); have HBW2 : Hid (Below w.heap.size w k2) := Lib.hid (HBW1.out.trans (h2.below _))
        clear h2 hsm HR1 HLV1 HSW1 HSB1 HBW1
        go_wp2_with fail
        refine (next_c _ q p g cap _ a m b2 _ rs2 false _ HLV2.out.mem).mono ?_
        rintro e k3 ⟨he, h3⟩
        obtain ⟨NX, he2, hnx⟩ : ∃ NX : Int, e = .returned (.int .i64 NX) ∧ (NX != LB) = false := ⟨_, he, by rw [bne_eq_false_iff_eq, HLB.out]⟩
        subst he2
        clear he
        have HLV3 := Lib.hid (HLV2.out.same h3); have HSW3 := Lib.hid (HSW2.out.same h3); have HSB3 := Lib.hid (HSB2.out.same h3); have HBW3 : Hid (Below w.heap.size w k3) := Lib.hid (HBW2.out.trans (h3.below _))
        clear h3 HLV2 HSW2 HSB2 HBW2
        go_wp2_with fail
        have hrm := room_c _ q p g cap _ a m b2 _ rs2 false _ HLV3.out.mem
        rw [HU.out] at hrm
        refine hrm.mono ?_
        rintro e k4 ⟨rfl, h4⟩
        have HLV4 := Lib.hid (HLV3.out.same h4); have HSW4 := Lib.hid (HSW3.out.same h4); have HSB4 := Lib.hid (HSB3.out.same h4); have HBW4 : Hid (Below w.heap.size w k4) := Lib.hid (HBW3.out.trans (h4.below _))
        clear h4 hrm HLV3 HSW3 HSB3 HBW3
        go_wp2_with fail
        refine (image_c p g cap _ _ HLV4.out.mem.disk).mono ?_
        rintro e k5 ⟨rfl, rfl⟩
        rw [HIM.out]
        go_wp2_with fail
        have hjn := joined_c _ (layR b2 rs2) k4 (own_reads HSB4.out.own) layR_64 (by rw [HU.out]; omega)
        rw [HJJ.out] at hjn
        refine hjn.mono ?_
        rintro e k5 ⟨rfl, rfl⟩
        go_wp2_with fail
        have hzc := zeros_c ((t : Int) - (a : Int) - (U : Int)) (m - U) k5 (by have := HTM.out; omega) (by omega)
        rw [HZZ.out] at hzc
        refine hzc.mono ?_
        rintro e k6 ⟨rfl, b6⟩
        have HLV := Lib.hid (HLV4.out.below b6 (Nat.le_refl _)); have HSW := Lib.hid (HSW4.out.below b6 (Nat.le_refl _)); have HSB := Lib.hid (HSB4.out.below b6 (Nat.le_refl _)); have HBW : Hid (Below w.heap.size w k6) := Lib.hid (HBW4.out.trans (b6.mono HBW4.out.size))
        clear b6 hzc hjn HLV4 HSW4 HSB4 HBW4 hnx rq HIM HJJ HZZ
        go_wp2_with fail
        have HNX : Hid (ExRel w q p g cap a m n zs.length (rowsD D0 0 a) (rowsD D0 t (n - t)) (.int .i64 be2) (.slice (some ⟨gw2, 0, none⟩) rs2.length cw2) (.slice (some ⟨gu2, 0, none⟩) U cu2) (.int .i64 ((j : Int) + 1)) k6) := Lib.hid ⟨j + 1, ret_v (by omega), hjl, be2, b2, rs2, _, _, _, _, rfl, HBE.out, hbb2, rfl, rfl, HSW.out, HSB.out, fun k hk hk2 => hguw (by have h1 : gw2 = k := Option.some.inj hk; have h2 : gu2 = k := Option.some.inj hk2; omega), HLV.out.le (by omega), HOUT.out, HBW.out⟩
        clear HLV HSW HSB HBW
        go_roundw
        case rel => exact HNX.out
        case measure => simp [intOf]; omega
    by_cases hnum : 1073741824 ≤ b2 + rs2.length + 1
    · as_aux_lemma =>
        have hfi : ¬ (t : Int) - (a : Int) - (U : Int) < (N : Int) := by have := HTM.out; omega
        have hni : 1073741824 ≤ LB := by rw [HLB.out]; omega
        have hadd := add_full s w.heap.size q p g cap d2 a m b2 v2 rs2 false zz _ (hs.below HBW.out (Nat.le_refl _)) HLV.out.mem (by omega) (.inr hnum)
        have HADD := Lib.hid hadd
        clear hadd
        go_wp2_with fail
        refine (HADD.out).mono ?_
        rintro e x1 ⟨rfl, y1⟩
        have HLVa := Lib.hid (HLV.out.below y1 (Nat.le_refl _)); have HSWa := Lib.hid (HSW.out.below y1 (Nat.le_refl _)); have HSBa := Lib.hid (HSB.out.below y1 (Nat.le_refl _)); have HBWa : Hid (Below w.heap.size w x1) := Lib.hid (HBW.out.trans (y1.mono HBW.out.size))
        clear y1 HLV HSW HSB HBW HADD
        obtain ⟨aZ3, e3, caZ3⟩ := HCZ.out _ HBWa.out
        obtain rfl := Option.some.inj e3
        go_wp2_with fail
        refine (HSZ.out _).mono ?_
        rintro e x2 ⟨rfl, rfl⟩
        go_wp2_with fail
        refine (kind_errV s 7 _ (hs.below HBWa.out (Nat.le_refl _)) (by omega)).mono ?_
        rintro e x3 ⟨rfl, y3⟩
        have HLV := Lib.hid (HLVa.out.below y3 (Nat.le_refl _)); have HSW := Lib.hid (HSWa.out.below y3 (Nat.le_refl _)); have HSB := Lib.hid (HSBa.out.below y3 (Nat.le_refl _)); have HBW : Hid (Below w.heap.size w x3) := Lib.hid (HBWa.out.trans (y3.mono HBWa.out.size))
        clear y3 HLVa HSWa HSBa HBWa caZ caZ3
        have hrs20 : rs2.length ≤ m := Nat.le_trans (layR_ge b2 rs2) (by rw [HU.out]; exact hUm)
        have hm30 : m ≤ 30 := by have := HTM.out; omega
        have him := image_of HLV.out.at_ HLV.out.mem.disk.ok.whole HOUT.out
        rw [HAH.out, HBH.out, HU.out] at him
        obtain ⟨JJ, hJJ⟩ : ∃ JJ, bst (layR b2 rs2).flatten = JJ := ⟨_, rfl⟩
        obtain ⟨ZZ, hZZ⟩ : ∃ ZZ, bst (List.replicate (64 * (m - U)) 0) = ZZ := ⟨_, rfl⟩
        have hJs : JJ.size = 64 * U := by rw [← hJJ, bst_size, flat_len _ layR_64, HU.out]
        have hZs : ZZ.size = 64 * (m - U) := by rw [← hZZ, bst_size, List.length_replicate]
        rw [hJJ, hZZ] at him
        have HIM := Lib.hid him; have HJJ := Lib.hid hJJ; have HZZ := Lib.hid hZZ
        have s1 : ¬ 9223372036854775807 < AH.size + JJ.size := by omega
        have s2 : ¬ 9223372036854775807 < AH.size + JJ.size + ZZ.size := by omega
        have s3 : ¬ 9223372036854775807 < AH.size + JJ.size + ZZ.size + BH.size := by omega
        have rq : (((m - U : Nat) : Int) != (t : Int) - (a : Int) - (U : Int)) = false := by rw [bne_eq_false_iff_eq]; have := HTM.out; omega
        clear him hJJ hZZ
        go_wp2_with fail
        refine (records_c w.heap.size q p g cap _ a m b2 _ rs2 false _ HLV.out.mem).mono ?_
        rintro e k1 ⟨⟨c1, rfl, o1⟩, b1⟩
        have HLV1 := Lib.hid (HLV.out.below b1 (Nat.le_refl _)); have HSW1 := Lib.hid (HSW.out.below b1 (Nat.le_refl _)); have HSB1 := Lib.hid (HSB.out.below b1 (Nat.le_refl _)); have HBW1 : Hid (Below w.heap.size w k1) := Lib.hid (HBW.out.trans (b1.mono HBW.out.size))
        have HR1 := Lib.hid (own_reads o1)
        clear o1 b1 HLV HSW HSB HBW
        go_wp2_with fail
        have hsm := same_c _ _ rs2 rs2 k1 HR1.out (own_reads HSW1.out.own) (by omega) (by omega)
        rw [decide_eq_true rfl] at hsm
        refine hsm.mono ?_
        rintro e k2 ⟨rfl, h2⟩
        have HLV2 := Lib.hid (HLV1.out.same h2); have HSW2 := Lib.hid (HSW1.out.same h2); have HSB2 := Lib.hid (HSB1.out.same h2); have HBW2 : Hid (Below w.heap.size w k2) := Lib.hid (HBW1.out.trans (h2.below _))
        clear h2 hsm HR1 HLV1 HSW1 HSB1 HBW1
        go_wp2_with fail
        refine (next_c _ q p g cap _ a m b2 _ rs2 false _ HLV2.out.mem).mono ?_
        rintro e k3 ⟨he, h3⟩
        obtain ⟨NX, he2, hnx⟩ : ∃ NX : Int, e = .returned (.int .i64 NX) ∧ (NX != LB) = false := ⟨_, he, by rw [bne_eq_false_iff_eq, HLB.out]⟩
        subst he2
        clear he
        have HLV3 := Lib.hid (HLV2.out.same h3); have HSW3 := Lib.hid (HSW2.out.same h3); have HSB3 := Lib.hid (HSB2.out.same h3); have HBW3 : Hid (Below w.heap.size w k3) := Lib.hid (HBW2.out.trans (h3.below _))
        clear h3 HLV2 HSW2 HSB2 HBW2
        go_wp2_with fail
        have hrm := room_c _ q p g cap _ a m b2 _ rs2 false _ HLV3.out.mem
        rw [HU.out] at hrm
        refine hrm.mono ?_
        rintro e k4 ⟨rfl, h4⟩
        have HLV4 := Lib.hid (HLV3.out.same h4); have HSW4 := Lib.hid (HSW3.out.same h4); have HSB4 := Lib.hid (HSB3.out.same h4); have HBW4 : Hid (Below w.heap.size w k4) := Lib.hid (HBW3.out.trans (h4.below _))
        clear h4 hrm HLV3 HSW3 HSB3 HBW3
        go_wp2_with fail
        refine (image_c p g cap _ _ HLV4.out.mem.disk).mono ?_
        rintro e k5 ⟨rfl, rfl⟩
        rw [HIM.out]
        go_wp2_with fail
        have hjn := joined_c _ (layR b2 rs2) k4 (own_reads HSB4.out.own) layR_64 (by rw [HU.out]; omega)
        rw [HJJ.out] at hjn
        refine hjn.mono ?_
        rintro e k5 ⟨rfl, rfl⟩
        go_wp2_with fail
        have hzc := zeros_c ((t : Int) - (a : Int) - (U : Int)) (m - U) k5 (by have := HTM.out; omega) (by omega)
        rw [HZZ.out] at hzc
        refine hzc.mono ?_
        rintro e k6 ⟨rfl, b6⟩
        have HLV := Lib.hid (HLV4.out.below b6 (Nat.le_refl _)); have HSW := Lib.hid (HSW4.out.below b6 (Nat.le_refl _)); have HSB := Lib.hid (HSB4.out.below b6 (Nat.le_refl _)); have HBW : Hid (Below w.heap.size w k6) := Lib.hid (HBW4.out.trans (b6.mono HBW4.out.size))
        clear b6 hzc hjn HLV4 HSW4 HSB4 HBW4 hnx rq HIM HJJ HZZ
        go_wp2_with fail
        have HNX : Hid (ExRel w q p g cap a m n zs.length (rowsD D0 0 a) (rowsD D0 t (n - t)) (.int .i64 be2) (.slice (some ⟨gw2, 0, none⟩) rs2.length cw2) (.slice (some ⟨gu2, 0, none⟩) U cu2) (.int .i64 ((j : Int) + 1)) k6) := Lib.hid ⟨j + 1, ret_v (by omega), hjl, be2, b2, rs2, _, _, _, _, rfl, HBE.out, hbb2, rfl, rfl, HSW.out, HSB.out, fun k hk hk2 => hguw (by have h1 : gw2 = k := Option.some.inj hk; have h2 : gu2 = k := Option.some.inj hk2; omega), HLV.out.le (by omega), HOUT.out, HBW.out⟩
        clear HLV HSW HSB HBW
        go_roundw
        case rel => exact HNX.out
        case measure => simp [intOf]; omega
    as_aux_lemma =>
      have hN1 : 1 ≤ N ∧ N ≤ 108 := by rw [← HNN.out]; exact nblk_bd (by omega)
      have hj20 : j < 20 := by omega
      have hfi : ¬ (t : Int) - (a : Int) - (U : Int) < (N : Int) := by have := HTM.out; omega
      have hni : ¬ 1073741824 ≤ LB := by rw [HLB.out]; omega
      have hadd := live_add s w q p g cap a m b2 _ v2 rs2 d2 zz _ hs HBW.out HLV.out (by omega) (by rw [HU.out, HNN.out]; omega) (by omega) (by omega)
      have HADD := Lib.hid hadd
      clear hadd
      go_wp2_with fail
      refine (HADD.out).mono ?_
      rintro e x1 ⟨rfl, v3, d3, hl3, hc3, hv3, hn3, ho3, hb3⟩
      have HLVa := Lib.hid hl3; have HSWa := Lib.hid (HSW.out.after hc3 hv3); have HSBa := Lib.hid (HSB.out.after hc3 hv3); have HOUTa := Lib.hid (HOUT.out.step hn3 ho3); have HBWa := Lib.hid hb3
      clear hl3 hc3 hv3 hn3 ho3 hb3 HLV HSW HSB HBW HOUT HADD
      obtain ⟨aZ3, e3, caZ3⟩ := HCZ.out _ HBWa.out
      obtain rfl := Option.some.inj e3
      go_wp2_with fail
      refine (HSZ.out _).mono ?_
      rintro e x2 ⟨rfl, rfl⟩
      go_wp2_with fail
      refine (rblocks_okx LB (b2 + rs2.length + 1) zz _ HLB.out (by omega) (by omega) (by omega)).mono ?_
      rintro e x4 ⟨⟨vb, bas, rfl, ob⟩, b4⟩
      rw [HNN.out] at ob
      obtain ⟨Ab, cb, rfl⟩ := own_form ob
      obtain ⟨gb, rfl⟩ : ∃ gb, Ab = some ⟨gb, 0, none⟩ := by
        rcases ob.2 with ⟨_, h2⟩ | ⟨gr, _, _, h1, _⟩
        · omega
        · simp only [Value.slice.injEq] at h1; exact ⟨gr, h1.1⟩
      have hcb := ob.cells (g := gb) rfl
      obtain ⟨FF, hFF⟩ : ∃ FF, framesF (b2 + rs2.length + 1) zz.data.toList = FF := ⟨_, rfl⟩
      have hFl : FF.length = N := by rw [← hFF, framesF_len, size_len, HNN.out]
      rw [hFF] at hcb
      have HLVb := Lib.hid (HLVa.out.below b4 (Nat.le_refl _)); have HSWb := Lib.hid (HSWa.out.below b4 (Nat.le_refl _)); have HSBb := Lib.hid (HSBa.out.below b4 (Nat.le_refl _)); have HBWb : Hid (Below w.heap.size w x4) := Lib.hid (HBWa.out.trans (b4.mono HBWa.out.size))
      have HCB := Lib.hid hcb; have HFF := Lib.hid hFF; have HFL := Lib.hid hFl
      clear b4 ob hcb hFF hFl HLVa HSWa HSBa HBWa caZ caZ3
      obtain ⟨ti, hti, hz0, hz1, hz2⟩ := Tryz.infoSt
      have hob := HSBb.out.own
      rw [HU.out] at hob
      have HOB := Lib.hid hob
      have hszw4 := HBWb.out.size
      obtain ⟨aZ4, e4, caZ4⟩ := HCZ.out _ HBWb.out
      obtain rfl := Option.some.inj e4
      clear hob
      go_wp2_with (at_builtin; refine wpList_append_own_at _ rfl _ _ 22 rfl w.heap.size 9 ti _ 1 16 Tryz.underlying22 hti hz0 hz1 hz2 rfl (by decide) _ U (strVs (layR b2 rs2)) rfl HOB.out ⟨gb, 0, none⟩ N cb (strVs FF) rfl ?c0 ?c1 ?c2 ?c3 ?c4 ?c5 ?_)
      case c0 => rw [strVs_len, Nat.mul_one]; exact HFL.out
      case c1 => exact HCB.out
      case c2 => exact strVs_one FF
      case c3 => unfold maxLen; omega
      case c4 => omega
      case c5 => exact hszw4
      intro ub3 x5 o5 g5 hn5 hat5
      have hsb5 : SureAt x5 w.heap.size q p g ub3 v3 (layR b2 rs2 ++ FF) := HSBb.out.many HLVb.out.mem.lts (by rw [HU.out, HFL.out]; exact o5) (by simpa using hn5) hat5
      have hc5 : ChgS (fun k => k = gu2) x4 x5 := (ChgS.refl _ _).grown g5 fun k hk => .inl (Option.some.inj hk).symm
      have hap5 : ∀ k, LogS q p g v3 k → k ≠ gu2 := fun k hk h => HSBb.out.apart gu2 rfl (by rw [← h]; exact hk)
      have hsw5 : SureAt x5 w.heap.size q p g (.slice (some ⟨gw2, 0, none⟩) rs2.length cw2) v3 rs2 := ⟨hc5.own HSWb.out.own fun k hk h => hguw ((Option.some.inj hk).trans h), HSWb.out.some_, HSWb.out.apart⟩
      have hlv5 := HLVb.out.kept hc5 hap5
      have hb5 : Below w.heap.size w x5 := HBWb.out.trans (hc5.below (fun k hk => by rw [hk]; exact (HSBb.out.own.lt gu2 rfl).1) hszw4)
      have hub5 : ∀ k, ub3.ownBlock = some k → k = gu2 ∨ x4.heap.size ≤ k := fun k hk => by
        rcases hat5 with h | h
        · rw [h] at hk; exact .inl (Option.some.inj hk).symm
        · rw [h] at hk; have := Option.some.inj hk; omega
      have hgw4 := (HSWb.out.own.lt gw2 rfl).2
      have hlen5 : ∀ k, ub3.ownBlock = some k → k < x5.heap.size := fun k hk => (hsb5.own.lt k hk).2
      have HSW5 := Lib.hid hsw5; have HSB5 := Lib.hid hsb5; have HLV5 := Lib.hid hlv5; have HB5 := Lib.hid hb5; have HUB5 := Lib.hid hub5; have HLN5 := Lib.hid hlen5
      have hszw5 := hb5.size
      have HO5 : Hid (∀ o : Obj, (x5.alloc o).ownsRow w.heap.size 9 1 (.slice (some ⟨gw2, 0, none⟩) rs2.length cw2) rs2.length (strVs rs2)) := Lib.hid fun o => hsw5.own.alloc o
      obtain ⟨U3, hU3e⟩ : ∃ U3, U + N = U3 := ⟨_, rfl⟩
      rw [hU3e] at o5
      obtain ⟨Au, cu5, rfl⟩ := own_form o5
      have HU3E := Lib.hid hU3e
      obtain ⟨aZ5, e5, caZ5⟩ := HCZ.out _ hb5
      obtain rfl := Option.some.inj e5
      clear hU3e o5 g5 hn5 hat5 hsb5 hc5 hap5 hsw5 hlv5 hb5 hub5 hlen5 HSBb HSWb HLVb HBWb HOB HCB caZ4
      go_wp2_with (at_builtin; refine wpList_append_own_at _ rfl _ _ 22 rfl w.heap.size 9 ti _ 1 16 Tryz.underlying22 hti hz0 hz1 hz2 rfl (by decide) _ rs2.length (strVs rs2) rfl (HO5.out _) ⟨_, 0, none⟩ 1 1 [.string zz] rfl rfl ?d1 ?d2 ?d3 ?d4 ?d5 ?_)
      case d2 => first | rfl | (intro u hu; simp at hu; subst hu; rfl)
      case d3 => unfold maxLen; omega
      case d4 => omega
      case d5 => first | omega | (rw [World.size_alloc]; omega)
      intro uw3 x6 o6 g6 hn6 hat6
      obtain ⟨RS3, hRS3⟩ : ∃ RS3, rs2 ++ [zz.data.toList] = RS3 := ⟨_, rfl⟩
      have hRl : RS3.length = rs2.length + 1 := by rw [← hRS3, List.length_append, List.length_singleton]
      have hLR : layR b2 RS3 = layR b2 rs2 ++ FF := by rw [← hRS3, layR_snoc, HFF.out]
      have hU3 : (layR b2 RS3).length = U3 := by rw [hLR, List.length_append, HU.out, HFL.out, HU3E.out]
      have hc6 : ChgS (fun k => k = gw2) x5 x6 := ((ChgS.refl _ _).alloc _).grown g6 fun k hk => .inl (Option.some.inj hk).symm
      have hsw6 : SureAt x6 w.heap.size q p g uw3 v3 RS3 := by
        rw [← hRS3]
        exact HSW5.out.more (fun k hk => (HLV5.out.mem.lts k hk).2) (by rw [← bst_of]; exact o6) (by simpa using hn6) (by simpa [World.size_alloc] using hat6)
      have hgwl := (HSW5.out.own.lt gw2 rfl)
      have hsap : ∀ k, (Value.slice Au U3 cu5).ownBlock = some k → ¬ k = gw2 := fun k hk h => by
        rcases HUB5.out k hk with h1 | h1
        · exact hguw (h.symm.trans h1)
        · omega
      have hsb6 : SureAt x6 w.heap.size q p g (.slice Au U3 cu5) v3 (layR b2 RS3) := by
        rw [hLR]
        exact ⟨hc6.own HSB5.out.own hsap, HSB5.out.some_, HSB5.out.apart⟩
      have hlv6 := HLV5.out.kept hc6 fun k hk h => HSW5.out.apart gw2 rfl (by rw [← h]; exact hk)
      rw [hRS3] at hlv6
      have hb6 : Below w.heap.size w x6 := HB5.out.trans (hc6.below (fun k hk => by rw [hk]; exact hgwl.1) hszw5)
      have hdis6 : ∀ k, uw3.ownBlock = some k → (Value.slice Au U3 cu5).ownBlock ≠ some k := fun k hk hk2 => by
        rcases hat6 with h | h
        · rw [h] at hk
          have h1 : gw2 = k := Option.some.inj hk
          rcases HUB5.out k hk2 with h2 | h2
          · exact hguw (h1.trans h2)
          · omega
        · rw [h] at hk
          have h1 := Option.some.inj hk
          have h2 := HLN5.out k hk2
          omega
      have HU3 := Lib.hid hU3
      obtain ⟨gw3, cw3, hu1, _, _⟩ := hsw6.addr
      subst hu1
      obtain ⟨gu3, cu3, hu2, _, _⟩ := hsb6.addr
      rw [hU3] at hu2
      simp only [Value.slice.injEq, true_and] at hu2
      obtain ⟨rfl, rfl⟩ := hu2
      have hUm3 : U3 ≤ m := by rw [← hU3]; exact hlv6.mem.room
      have hguw3 : gw3 ≠ gu3 := fun h => hdis6 gw3 rfl (by rw [h]; rfl)
      have HLV := Lib.hid hlv6; have HSW := Lib.hid hsw6; have HSB := Lib.hid hsb6; have HBW := Lib.hid hb6; have HOUT := HOUTa
      have hRl3 : RS3.length ≤ 31 := by omega
      obtain ⟨aZ6, e6, caZ6⟩ := HCZ.out _ hb6
      obtain rfl := Option.some.inj e6
      have hrb3 : be2 + (RS3.length : Int) ≤ 1073741900 := by omega
      clear hRl o6 g6 hn6 hat6 hsw6 hsb6 hlv6 hb6 hdis6 hc6 HSW5 HSB5 HLV5 HB5 HUB5 HLN5 HO5 hU3 hLR HU3E hRS3 HOUTa HFF HFL caZ5
      have hrs20 : RS3.length ≤ m := Nat.le_trans (layR_ge b2 RS3) (by rw [HU3.out]; exact hUm3)
      have hm30 : m ≤ 30 := by have := HTM.out; omega
      have him := image_of HLV.out.at_ HLV.out.mem.disk.ok.whole HOUT.out
      rw [HAH.out, HBH.out, HU3.out] at him
      obtain ⟨JJ, hJJ⟩ : ∃ JJ, bst (layR b2 RS3).flatten = JJ := ⟨_, rfl⟩
      obtain ⟨ZZ, hZZ⟩ : ∃ ZZ, bst (List.replicate (64 * (m - U3)) 0) = ZZ := ⟨_, rfl⟩
      have hJs : JJ.size = 64 * U3 := by rw [← hJJ, bst_size, flat_len _ layR_64, HU3.out]
      have hZs : ZZ.size = 64 * (m - U3) := by rw [← hZZ, bst_size, List.length_replicate]
      rw [hJJ, hZZ] at him
      have HIM := Lib.hid him; have HJJ := Lib.hid hJJ; have HZZ := Lib.hid hZZ
      have s1 : ¬ 9223372036854775807 < AH.size + JJ.size := by omega
      have s2 : ¬ 9223372036854775807 < AH.size + JJ.size + ZZ.size := by omega
      have s3 : ¬ 9223372036854775807 < AH.size + JJ.size + ZZ.size + BH.size := by omega
      have rq : (((m - U3 : Nat) : Int) != (t : Int) - (a : Int) - (U3 : Int)) = false := by rw [bne_eq_false_iff_eq]; have := HTM.out; omega
      clear him hJJ hZZ
      go_wp2_with fail
      refine (records_c w.heap.size q p g cap _ a m b2 _ RS3 false _ HLV.out.mem).mono ?_
      rintro e k1 ⟨⟨c1, rfl, o1⟩, b1⟩
      have HLV1 := Lib.hid (HLV.out.below b1 (Nat.le_refl _)); have HSW1 := Lib.hid (HSW.out.below b1 (Nat.le_refl _)); have HSB1 := Lib.hid (HSB.out.below b1 (Nat.le_refl _)); have HBW1 : Hid (Below w.heap.size w k1) := Lib.hid (HBW.out.trans (b1.mono HBW.out.size))
      have HR1 := Lib.hid (own_reads o1)
      clear o1 b1 HLV HSW HSB HBW
      go_wp2_with fail
      have hsm := same_c _ _ RS3 RS3 k1 HR1.out (own_reads HSW1.out.own) (by omega) (by omega)
      rw [decide_eq_true rfl] at hsm
      refine hsm.mono ?_
      rintro e k2 ⟨rfl, h2⟩
      have HLV2 := Lib.hid (HLV1.out.same h2); have HSW2 := Lib.hid (HSW1.out.same h2); have HSB2 := Lib.hid (HSB1.out.same h2); have HBW2 : Hid (Below w.heap.size w k2) := Lib.hid (HBW1.out.trans (h2.below _))
      clear h2 hsm HR1 HLV1 HSW1 HSB1 HBW1
      go_wp2_with fail
      refine (next_c _ q p g cap _ a m b2 _ RS3 false _ HLV2.out.mem).mono ?_
      rintro e k3 ⟨he, h3⟩
      obtain ⟨NX, he2, hnx⟩ : ∃ NX : Int, e = .returned (.int .i64 NX) ∧ (NX != be2 + (RS3.length : Int) + 1) = false := ⟨_, he, by rw [bne_eq_false_iff_eq, HBE.out]; omega⟩
      subst he2
      clear he
      have HLV3 := Lib.hid (HLV2.out.same h3); have HSW3 := Lib.hid (HSW2.out.same h3); have HSB3 := Lib.hid (HSB2.out.same h3); have HBW3 : Hid (Below w.heap.size w k3) := Lib.hid (HBW2.out.trans (h3.below _))
      clear h3 HLV2 HSW2 HSB2 HBW2
      go_wp2_with fail
      have hrm := room_c _ q p g cap _ a m b2 _ RS3 false _ HLV3.out.mem
      rw [HU3.out] at hrm
      refine hrm.mono ?_
      rintro e k4 ⟨rfl, h4⟩
      have HLV4 := Lib.hid (HLV3.out.same h4); have HSW4 := Lib.hid (HSW3.out.same h4); have HSB4 := Lib.hid (HSB3.out.same h4); have HBW4 : Hid (Below w.heap.size w k4) := Lib.hid (HBW3.out.trans (h4.below _))
      clear h4 hrm HLV3 HSW3 HSB3 HBW3
      go_wp2_with fail
      refine (image_c p g cap _ _ HLV4.out.mem.disk).mono ?_
      rintro e k5 ⟨rfl, rfl⟩
      rw [HIM.out]
      go_wp2_with fail
      have hjn := joined_c _ (layR b2 RS3) k4 (own_reads HSB4.out.own) layR_64 (by rw [HU3.out]; omega)
      rw [HJJ.out] at hjn
      refine hjn.mono ?_
      rintro e k5 ⟨rfl, rfl⟩
      go_wp2_with fail
      have hzc := zeros_c ((t : Int) - (a : Int) - (U3 : Int)) (m - U3) k5 (by have := HTM.out; omega) (by omega)
      rw [HZZ.out] at hzc
      refine hzc.mono ?_
      rintro e k6 ⟨rfl, b6⟩
      have HLV := Lib.hid (HLV4.out.below b6 (Nat.le_refl _)); have HSW := Lib.hid (HSW4.out.below b6 (Nat.le_refl _)); have HSB := Lib.hid (HSB4.out.below b6 (Nat.le_refl _)); have HBW : Hid (Below w.heap.size w k6) := Lib.hid (HBW4.out.trans (b6.mono HBW4.out.size))
      clear b6 hzc hjn HLV4 HSW4 HSB4 HBW4 hnx rq HIM HJJ HZZ
      go_wp2_with fail
      have HNX : Hid (ExRel w q p g cap a m n zs.length (rowsD D0 0 a) (rowsD D0 t (n - t)) (.int .i64 be2) (.slice (some ⟨gw3, 0, none⟩) RS3.length cw3) (.slice (some ⟨gu3, 0, none⟩) U3 cu5) (.int .i64 ((j : Int) + 1)) k6) := Lib.hid ⟨j + 1, ret_v (by omega), hjl, be2, b2, RS3, _, _, _, _, rfl, HBE.out, hbb2, rfl, rfl, HSW.out, HSB.out, fun k hk hk2 => hguw3 (by have h1 : gw3 = k := Option.some.inj hk; have h2 : gu3 = k := Option.some.inj hk2; omega), HLV.out.le (by omega), HOUT.out, HBW.out⟩
      clear HLV HSW HSB HBW
      go_roundw
      case rel => exact HNX.out
      case measure => simp [intOf]; omega
end Go.Proofs.YtmfchjbpbfkgiaaGreatDoor
