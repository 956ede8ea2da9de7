/- The walk of the law LogKeeps: whatever the arguments, it returns true. Condition: the sentinels lie as the program's text lays them. -/
import Derived.Test.YtmfchjbpbfkgiaaDoorLgQ
import Derived.Test.YtmfchjbpbfkgiaaDoorOpenL
import Derived.Deep.RegionHeld3
import Derived.Deep.DeepCutAuto
import Derived.Deep.CutBlock
namespace Go.Proofs.YtmfchjbpbfkgiaaDoor
open Go Go.RowKit

/-- An append whose guard says yes. -/
theorem wpList_append_yes {ops : Array Oper} {rest : List Oper} {o : Oper} {a : Act} {w : World} {Q : Exit → Act → World → Prop} (hw : Region.wanted o (yielded ops a.tmps) = true) (s x : Operand) (t : TypeId)
    (ho : o.op = .call { callee := .builtin .append, args := #[s, x], argTypes := #[t, t] })
    (base : Nat) (e : TypeId) (i : TypeInfo) (z : Value) (size bytes : Nat) (ht : Tryd.prog.underlying t = some (.slice e)) (hi : Tryd.prog.info? e = some i) (hz : i.zero = some z)
    (hsize : i.size = size) (hby : i.bytes = bytes) (hzs : z.cells.size = size) (hsz : 0 < size)
    (v : Value) (n : Nat) (xs : List Value) (hs : a.eval s = v) (hown : w.ownsRow base e size v n xs)
    (ad : Addr) (m c : Nat) (news : List Value) (hx : a.eval x = .slice (some ad) m c) (hl : news.length = m * size) (hnews : ∀ j u, news[j]? = some u → w.cell? (ad.add j) = some u) (h1 : ∀ u ∈ news, u.oneCell' = true)
    (h63 : n + m ≤ maxLen) (hbytes : (n + m) * bytes ≤ 140737488355328) (hbase : base ≤ w.heap.size)
    (h : ∀ v' w', w'.ownsRow base e size v' (n + m) (xs ++ news) → w.grownBy w' v.ownBlock → (v' = .slice none 0 0 ↔ v = .slice none 0 0 ∧ m = 0) → (v'.ownBlock = v.ownBlock ∨ v'.ownBlock = some w.heap.size) → wpList Tryd.prog ops Q rest (a.put o.dst v') w') :
    wpList Tryd.prog ops Q (o :: rest) a w := by
  refine wpList_step fun K hK => ?_
  rw [if_pos hw]
  obtain ⟨v', w', hr, h2, h3, h4, h5⟩ := run_append_own_at (P := Tryd.prog) w base t o.type e i z size bytes ht hi hz hsize hby hzs hsz v n xs hown ad m c news hl hnews h1 h63 hbytes hbase
  unfold Oper.wp execOp
  simp only [ho, resolve, invoke, builtin, Sem.run_bind, Sem.run_pure, Result.andThen_ok, List.map_toArray, List.map_cons, List.map_nil, hs, hx, hr]
  exact hK _ _ (h v' w' h2 h3 h4 h5)

/-- The power goes at rest: nothing that the blocks hold has turned. -/
theorem rest_disk {d : DS} {a m b : Nat} {rs : List (List UInt8)} (h : LogAt d a m b rs) (hn0 : 0 < d.n) (ho : d.on = true) :
    (d.setFuse 0 0).write ((0 : Nat) : Int) zeroF = (14, (d.setFuse 0 0).torn1 ((0 : Nat) : Int) zeroF) ∧ LogAt ((d.setFuse 0 0).torn1 ((0 : Nat) : Int) zeroF).come a m b rs ∧ ((d.setFuse 0 0).torn1 ((0 : Nat) : Int) zeroF).come.on = true ∧ ((d.setFuse 0 0).torn1 ((0 : Nat) : Int) zeroF).come.fuse < 0 ∧
      ((d.setFuse 0 0).torn1 ((0 : Nat) : Int) zeroF).come.wr = d.wr ∧ ((d.setFuse 0 0).torn1 ((0 : Nat) : Int) zeroF).come.n = d.n ∧ (d.setFuse 0 0).wr = d.wr ∧ (d.setFuse 0 0).n = d.n := by
  have e1 : d.setFuse 0 0 = { d with fuse := 0, torn := 0 } := by unfold DS.setFuse; rw [if_pos ho]; rfl
  obtain ⟨D, hD⟩ : ∃ D, d.setFuse 0 0 = D := ⟨_, rfl⟩
  have hDn : D.n = d.n := by rw [← hD, e1]; rfl
  have hDo : D.on = true := by rw [← hD, e1]; exact ho
  have hDf : D.fuse = 0 := by rw [← hD, e1]
  have hDt : D.torn = 0 := by rw [← hD, e1]
  have hDb : ∀ j, D.blk j = d.blk j := fun j => by rw [← hD, e1]; rfl
  have hDw : D.wr = d.wr := by rw [← hD, e1]
  rw [hD]
  have hi : 0 < D.n := by rw [hDn]; exact hn0
  have hw := write_cut (d := D) (i := 0) (s := zeroF) hi rfl hDo hDf
  have hbl := torn_blk (d := D) (i := 0) (s := zeroF) hi rfl (by omega)
  have hTn := torn_n (d := D) (i := 0) (s := zeroF) hi rfl
  have hoff : (D.torn1 ((0 : Nat) : Int) zeroF).on = false := rfl
  have hc : (D.torn1 ((0 : Nat) : Int) zeroF).come = { D.torn1 ((0 : Nat) : Int) zeroF with on := true, fuse := -1 } := by unfold DS.come; rw [hoff]; rfl
  refine ⟨hw, ?_, by rw [hc], by rw [hc]; show (-1 : Int) < 0; omega, by rw [hc]; exact hDw, by rw [hc]; exact hTn.trans hDn, hDw, hDn⟩
  refine h.same (by rw [hc]; exact hTn.trans hDn) fun i _ => ?_
  rw [hc]
  show (D.torn1 ((0 : Nat) : Int) zeroF).blk (a + i) = _
  rw [hbl, hDt]
  by_cases h0 : a + i = 0
  · rw [if_pos h0, h0, hDb]; rfl
  · rw [if_neg h0, hDb]
theorem come_disk {E : DS} (ho : E.on = false) : E.come.on = true ∧ E.come.fuse < 0 ∧ E.come.wr = E.wr ∧ E.come.n = E.n ∧ ∀ a m, rowsD E.come a m = rowsD E a m := by
  have hc : E.come = { E with on := true, fuse := -1 } := by unfold DS.come; rw [ho]; rfl
  exact ⟨by rw [hc], by rw [hc]; show (-1 : Int) < 0; omega, by rw [hc], by rw [hc]; rfl, fun a m => by rw [hc]; rfl⟩

theorem log2_logS {q p g : Nat} {v : Value} {i : Nat} (h : i = p ∨ i = g) : LogS q p g v i := by
  rcases h with h | h
  · exact .inr (.inl h)
  · exact .inr (.inr (.inl h))
/-- The law's own row of what is sure: not nil, its cells its own. -/
structure SureAt (w : World) (B q p g : Nat) (u v : Value) (rs : List (List UInt8)) : Prop where
  own : w.ownsRow B 9 1 u rs.length (strVs rs)
  some_ : u ≠ .slice none 0 0
  apart : ∀ k, u.ownBlock = some k → ¬ LogS q p g v k
theorem SureAt.addr {w : World} {B q p g : Nat} {u v : Value} {rs : List (List UInt8)} (h : SureAt w B q p g u v rs) : ∃ gu cu, u = .slice (some ⟨gu, 0, none⟩) rs.length cu ∧ B ≤ gu ∧ gu < w.heap.size := by
  rcases h.own.2 with ⟨h1, _⟩ | ⟨gu, cu, _, h1, hb, hg, _⟩
  · exact absurd h1 h.some_
  · exact ⟨gu, cu, h1, hb, (Array.getElem?_eq_some_iff.1 hg).1⟩
theorem SureAt.kept {w w' : World} {S : Nat → Prop} {B q p g : Nat} {u v : Value} {rs : List (List UInt8)} (h : SureAt w B q p g u v rs) (hc : ChgS S w w') (hS : ∀ k, S k → LogS q p g v k ∨ w.heap.size ≤ k) : SureAt w' B q p g u v rs :=
  ⟨hc.own h.own fun k hk hs => by rcases hS k hs with h1 | h1; · exact h.apart k hk h1
                                  · have := (h.own.lt k hk).2; omega, h.some_, h.apart⟩
theorem SureAt.below {w w' : World} {C B q p g : Nat} {u v : Value} {rs : List (List UInt8)} (h : SureAt w B q p g u v rs) (hb : Below C w w') (hC : w.heap.size ≤ C) : SureAt w' B q p g u v rs :=
  ⟨own_same h.own fun k hk => hb.block k (by have := (h.own.lt k hk).2; omega), h.some_, h.apart⟩
theorem SureAt.same {w w' : World} {B q p g : Nat} {u v : Value} {rs : List (List UInt8)} (h : SureAt w B q p g u v rs) (hs : Same w w') : SureAt w' B q p g u v rs :=
  ⟨own_same h.own fun k _ => hs.block k, h.some_, h.apart⟩
/-- Another log round the same disk, made since. -/
theorem SureAt.moved {w : World} {B q p g q' N : Nat} {u v v' : Value} {rs : List (List UInt8)} (h : SureAt w B q p g u v rs) (hN : ∀ k, u.ownBlock = some k → k < N) (hq : N ≤ q') (hv : ∀ k, v'.ownBlock = some k → N ≤ k) : SureAt w B q' p g u v' rs :=
  ⟨h.own, h.some_, fun k hk hS => by
    have hl := hN k hk
    rcases hS with h1 | h1 | h1 | h1
    · omega
    · exact h.apart k hk (.inr (.inl h1))
    · exact h.apart k hk (.inr (.inr (.inl h1)))
    · have := hv k h1; omega⟩
/-- One more is sure. -/
theorem SureAt.more {w w5 : World} {B q p g : Nat} {u u' v : Value} {rs : List (List UInt8)} {x : List UInt8} (h : SureAt w B q p g u v rs) (hl : ∀ k, LogS q p g v k → k < w.heap.size) (o1 : w5.ownsRow B 9 1 u' (rs.length + 1) (strVs rs ++ [.string (bst x)])) (hn : u' = .slice none 0 0 ↔ u = .slice none 0 0 ∧ 1 = 0) (hat : u'.ownBlock = u.ownBlock ∨ u'.ownBlock = some (w.heap.size + 1)) :
    SureAt w5 B q p g u' v (rs ++ [x]) := by
  refine ⟨?_, fun h => by have := hn.1 h; omega, fun k hk hS => ?_⟩
  · rw [List.length_append, List.length_singleton]
    unfold strVs at o1 ⊢
    rw [List.map_append]
    exact o1
  · rcases hat with he | he
    · exact h.apart k (by rw [← he]; exact hk) hS
    · rw [he] at hk
      have h1 := Option.some.inj hk
      have := hl k hS
      omega

/-- What a life begins with. -/
def HoRel (w : World) (p g cap : Nat) (L : List (List ByteArray)) (lv sure ki : Value) (wr : World) : Prop :=
  ∃ (k q : Nat) (rs : List (List UInt8)) (u v : Value) (d : DS), lv = .pointer (some ⟨q, 0, none⟩) ∧ u = sure ∧ ki = .int .i64 (k : Int) ∧ k ≤ L.length ∧ SureAt wr w.heap.size q p g u v rs ∧ Live wr w.heap.size q p g cap 5 105 7 v rs (2000 * k + 200) d ∧ Below w.heap.size w wr
/-- What a round within a life begins with. -/
def HiRel (w : World) (q p g cap K : Nat) (zs : List ByteArray) (sure la cu ii : Value) (wr : World) : Prop :=
  ∃ (j : Nat) (rs : List (List UInt8)) (u v : Value) (d : DS), u = sure ∧ la = .string ⟨#[]⟩ ∧ cu = .bool false ∧ ii = .int .i64 (j : Int) ∧ j ≤ zs.length ∧ j ≤ 10 ∧ SureAt wr w.heap.size q p g u v rs ∧ LogMem wr w.heap.size q p g cap d 5 105 7 v rs false ∧ LogAt d 5 105 7 rs ∧ d.on = true ∧ d.wr ≤ K + 108 * j ∧ Below w.heap.size w wr

set_option maxHeartbeats 12800000 in
set_option maxRecDepth 100000 in
theorem keeps_any (s : Nat → Addr) (A : Option Addr) (c : Nat) (L : List (List ByteArray)) (Af : Option Addr) (cf : Nat) (fs : List Int) (At : Option Addr) (ct : Nat) (ts : List Int) (w : World) (hs : Sent s w) (hA : SSRow w w.heap.size A L) (_hl : L.length ≤ 9223372036854775807)
    (hF : IntRow w w.heap.size Af fs) (_hlf : fs.length ≤ 9223372036854775807) (hT : IntRow w w.heap.size At ts) (_hlt : ts.length ≤ 9223372036854775807) :
    Calls Tryd.prog 3 #[.slice A L.length c, .slice Af fs.length cf, .slice At ts.length ct] w fun e w' => e = .returned (.bool true) ∧ Below w.heap.size w w' := by
  have HA := Lib.hid hA; have HF := Lib.hid hF; have HT := Lib.hid hT
  clear hA hF hT
  by_cases h4 : 4 < L.length
  · have h4i : (4 : Int) < (L.length : Int) := by omega
    go_enter Tryd.func3, Tryd.ntmps3
    go_wp2_with fail
    refine (awake_c s _ hs).mono ?_
    rintro e w1 ⟨rfl, b1⟩
    go_wp2_with fail
    go_ret
    exact ⟨rfl, b1⟩
  have h4i : ¬ (4 : Int) < (L.length : Int) := by omega
  go_enter Tryd.func3, Tryd.ntmps3
  go_wp2_with fail
  refine (awake_c s _ hs).mono ?_
  rintro e w1 ⟨rfl, b1⟩
  have B1 := Lib.hid b1; clear b1
  go_wp2_with fail
  refine (fresh_c 120 120 _ rfl (by omega)).mono ?_
  rintro e w2 ⟨p, g, cap, d, rfl, hd, b2, hg⟩
  have hb2 : Below w.heap.size w w2 := B1.out.trans (b2.mono B1.out.size)
  have hop := live_open s w p g cap d 5 105 7 0 [] 5 110 7 w2 hs hb2 hd.at_ (Nat.le_trans B1.out.size hg) rfl rfl rfl (by omega) (by have := hd.n_; omega) (by omega) hd.on hd.fuse (by have := hd.wr; omega) (by omega) (fresh_follows hd (by omega) (by omega))
  have HOP := Lib.hid hop
  clear hop hd b2 hb2
  go_wp2_with fail
  refine (HOP.out).mono ?_
  rintro e w3 ⟨q3, v, d3, rfl, hl3, hc3, hq3, hv3, hn3, _, hb3⟩
  have hlt3 := hl3.mem.lt
  have hown : (w3.alloc (.cells #[] 9)).ownsRow w.heap.size 9 1 (.slice (some ⟨w3.heap.size, 0, none⟩) 0 0) 0 [] := World.ownsRow_made w3 #[] 0 hb3.size (by unfold maxLen; omega) rfl
  have b4 : Below w3.heap.size w3 (w3.alloc (.cells #[] 9)) := (Below.refl _ _).alloc (Nat.le_refl _) _
  have HST : Hid (HoRel w p g cap L (.pointer (some ⟨q3, 0, none⟩)) (.slice (some ⟨w3.heap.size, 0, none⟩) 0 0) (.int .i64 0) (w3.alloc (.cells #[] 9))) := Lib.hid
    ⟨0, q3, [], _, v, d3, rfl, rfl, rfl, Nat.zero_le _, ⟨hown, by simp, fun k hk hS => by
      have hk' : w3.heap.size = k := Option.some.inj hk
      have := (hl3.mem.lts k hS).2
      omega⟩, (hl3.below b4 (Nat.le_refl _)).le (by omega), hb3.trans (b4.mono hb3.size)⟩
  have hgp : w.heap.size ≤ g ∧ g < p := by omega
  clear hl3 hc3 hv3 hb3 hown b4 HOP
  go_wp2_with fail
  go_loopw [8, 10, 11] (fun lv sure ki wr => HoRel w p g cap L lv sure ki wr) (fun _ _ ki _ => L.length - (intOf ki).toNat)
  case atStart => exact HST.out
  case round =>
    obtain ⟨k, q, rs, u, v, d, rfl, rfl, rfl, hk, hsu, hlv, hb⟩ := hrel
    clear HST
    by_cases hkl : k < L.length
    case neg =>
      have hge : ¬ (k : Int) < (L.length : Int) := by omega
      have HB := Lib.hid hb
      clear hsu hlv hb
      go_wp2_with fail
      go_ret
      exact ⟨rfl, HB.out⟩
    obtain ⟨zs, hz⟩ : ∃ zs, L[k]? = some zs := ⟨_, List.getElem?_eq_getElem hkl⟩
    obtain ⟨aL, rfl, A2, c2, caL, hzc, hzr, hzl⟩ := HA.out.cell hb hz
    have k0 : (0 : Int) ≤ (k : Int) := by omega
    have k1 : (k : Int) < (L.length : Int) := by omega
    have hblk := lt_of_cell caL
    have HZ : Hid (∀ W, Below w.heap.size w W → W.cell? (aL.add k) = some (.slice A2 zs.length c2) ∧ SRow W w.heap.size A2 zs) := Lib.hid fun W hW => by
      obtain ⟨aL', e', A3, c3, ca3, _, hr3, _⟩ := HA.out.cell hW hz
      obtain rfl := Option.some.inj e'
      obtain ⟨a0, e0, hbl0, hc0⟩ := HA.out (Nat.lt_of_le_of_lt (Nat.zero_le _) hkl)
      obtain rfl := Option.some.inj e0
      obtain ⟨A4, c4, h41, _, h43, _⟩ := hc0 k zs hz
      have hlow : (aL.add k).block < w.heap.size := by rw [block_addS]; exact hbl0
      have hw1 := (hb.cell (p := aL.add k) hlow).trans h41
      rw [caL] at hw1
      simp only [Option.some.injEq, Value.slice.injEq, true_and] at hw1
      obtain ⟨rfl, rfl⟩ := hw1
      exact ⟨(hW.cell (p := aL.add k) hlow).trans h41, h43.below hW (Nat.le_refl _)⟩
    clear hzr
    go_upto_region 13 with fail
    go_cut [46] (fun cc wx => ∃ bb : Bool, cc = .bool bb ∧ (bb = true → k < fs.length ∧ k < ts.length) ∧ wr = wx)
    case first =>
      by_cases hkf : k < fs.length
      · have kf1 : (k : Int) < (fs.length : Int) := by omega
        by_cases hkt : k < ts.length
        · have kt1 : (k : Int) < (ts.length : Int) := by omega
          go_wp2_with fail
          go_meet
          exact ⟨true, rfl, fun _ => ⟨hkf, hkt⟩, rfl⟩
        · have kt1 : ¬ (k : Int) < (ts.length : Int) := by omega
          go_wp2_with fail
          go_meet
          exact ⟨false, rfl, (fun h => by cases h), rfl⟩
      · have kf1 : ¬ (k : Int) < (fs.length : Int) := by omega
        go_wp2_with fail
        go_meet
        exact ⟨false, rfl, (fun h => by cases h), rfl⟩
    case rest =>
    obtain ⟨bb, rfl, hbb, rfl⟩ := hcut
    have hi0 : HiRel w q p g cap (2000 * k + 200) zs u (.string ⟨#[]⟩) (.bool false) (.int .i64 0) wr := ⟨0, rs, u, v, d, rfl, rfl, rfl, rfl, Nat.zero_le _, by omega, hsu, hlv.mem, hlv.at_, hlv.on, by have := hlv.wr; omega, hb⟩
    have HI0 := Lib.hid hi0
    clear hi0
    go_upto_if 46 with fail
    go_cut [] (fun wx => HiRel w q p g cap (2000 * k + 200) zs u (.string ⟨#[]⟩) (.bool false) (.int .i64 0) wx)
    case first =>
      cases bb with
      | false =>
        clear hsu hlv hb caL
        go_wp2_with fail
        go_meet
        exact HI0.out
      | true =>
        obtain ⟨hkf, hkt⟩ := hbb rfl
        obtain ⟨fz, hfz⟩ : ∃ fz, fs[k]? = some fz := ⟨_, List.getElem?_eq_getElem hkf⟩
        obtain ⟨tz, htz⟩ : ∃ tz, ts[k]? = some tz := ⟨_, List.getElem?_eq_getElem hkt⟩
        obtain ⟨aF, rfl, caF⟩ := HF.out.cell hb hfz
        obtain ⟨aT, rfl, caT⟩ := HT.out.cell hb htz
        obtain ⟨F, hF, eF⟩ := mod_pos fz 30 (by omega) (by omega)
        obtain ⟨T, hT, eT⟩ := mod_pos tz 65 (by omega) (by omega)
        have eF' : wrap64 ((IntKind.u64.wrap fz).tmod 30) = (F : Int) := eF
        have eT' : wrap64 ((IntKind.u64.wrap tz).tmod 65) = (T : Int) := eT
        have kf1 : (k : Int) < (fs.length : Int) := by omega
        have kt1 : (k : Int) < (ts.length : Int) := by omega
        obtain ⟨D, hD⟩ : ∃ D, d.setFuse (F : Int) (T : Int) = D := ⟨_, rfl⟩
        have hD1 : D.bs = d.bs ∧ D.on = true ∧ D.wr = d.wr := by
          rw [← hD]; unfold DS.setFuse; rw [if_pos hlv.on]
          exact ⟨rfl, hlv.on, rfl⟩
        obtain ⟨hDb, hDo, hDw⟩ := hD1
        have hDn : D.n = d.n := by unfold DS.n; rw [hDb]
        have hatD : LogAt D 5 105 7 rs := hlv.at_.same hDn fun i _ => by unfold DS.blk; rw [hDb]
        have HFU : Hid (∀ W, Same wr W → Calls Tryd.prog 9 #[.pointer (some ⟨p, 0, none⟩), .int .i64 (IntKind.i64.wrap ((IntKind.u64.wrap fz).tmod 30)), .int .i64 (IntKind.i64.wrap ((IntKind.u64.wrap tz).tmod 65))] W fun e w' => e = .returned (.tuple #[]) ∧ HiRel w q p g cap (2000 * k + 200) zs u (.string ⟨#[]⟩) (.bool false) (.int .i64 0) w' ∧ w'.cell? (aF.add k) = some (.int .i64 fz) ∧ w'.cell? (aT.add k) = some (.int .i64 tz)) := Lib.hid fun W hW => by
          have hl2 := hlv.same hW
          rw [show IntKind.i64.wrap ((IntKind.u64.wrap fz).tmod 30) = (F : Int) by rw [IntWalk.i64_left]; exact eF, show IntKind.i64.wrap ((IntKind.u64.wrap tz).tmod 65) = (T : Int) by rw [IntWalk.i64_left]; exact eT]
          refine (fuse_c p g cap d (F : Int) (T : Int) W hl2.mem.disk (by omega) (by omega) (by omega) (by omega)).mono ?_
          rintro e w5 ⟨rfl, hd5, hc5⟩
          rw [hD] at hd5
          have hcs5 : ChgS (fun i => i = p ∨ i = g) W w5 := ChgS.of_chg hc5 (.inl rfl) (.inr rfl)
          have hlt := hl2.mem.lt
          have hm5 := hl2.mem.other hcs5 (by rintro (h | h) <;> omega) (fun i hi hS => by obtain ⟨h1, h2, h3⟩ := hl2.mem.apart i hi; rcases hS with h | h <;> contradiction) hd5 hDn
          have hbW : Below w.heap.size w W := hb.trans (hW.below _)
          have hb5 : Below w.heap.size w w5 := hbW.trans (hcs5.below (fun i hi => by omega) hbW.size)
          obtain ⟨aF', eF2, caF5⟩ := HF.out.cell hb5 hfz
          obtain ⟨aT', eT2, caT5⟩ := HT.out.cell hb5 htz
          obtain rfl := Option.some.inj eF2
          obtain rfl := Option.some.inj eT2
          refine ⟨rfl, ?_, caF5, caT5⟩
          exact ⟨0, rs, u, v, D, rfl, rfl, rfl, rfl, Nat.zero_le _, by omega, (hsu.same hW).kept hcs5 (fun i hi => .inl (log2_logS hi)), hm5, hatD, hDo, by have := hlv.wr; omega, hb5⟩
        have HSS : Hid (∀ W, Same wr W → (W.cell? (aF.add k) = some (.int .i64 fz) ∧ W.cell? (aT.add k) = some (.int .i64 tz))) := Lib.hid fun W hW => ⟨(World.cell?_of_block (hW.block _)).trans caF, (World.cell?_of_block (hW.block _)).trans caT⟩
        clear hsu hlv hb hD hatD eF eT
        go_wp2_with fail
        go_region_held3 (fun W => W.cell? (aF.add k) = some (.int .i64 fz) ∧ W.cell? (aT.add k) = some (.int .i64 tz))
          (first | assumption | exact HSS.out _ ⟨rfl, rfl, rfl, rfl, fun _ => rfl⟩)
          (first
            | (go_at_call 9; (refine (HFU.out _ ?_).mono ?_; exact ⟨rfl, rfl, rfl, rfl, fun _ => rfl⟩); rintro e w5 ⟨rfl, hi5, s5⟩; have HI : Hid (HiRel w q p g cap (2000 * k + 200) zs u (.string ⟨#[]⟩) (.bool false) (.int .i64 0) w5) := Lib.hid hi5; clear hi5))
        all_goals go_wp2_with fail
        all_goals go_meet
        all_goals exact HI.out
    case rest =>
    have HI := Lib.hid hcut
    clear hsu hlv hb hbb HI0 hcut
    go_wp2_with fail
    go_loopw [10, 12, 13, 14] (fun sure la cu ii wr => HiRel w q p g cap (2000 * k + 200) zs sure la cu ii wr) (fun _ _ _ ii _ => 10 - (intOf ii).toNat)
    case atStart => exact HI.out
    case round =>
      obtain ⟨j, rs, u, v, d, rfl, rfl, rfl, rfl, hj, hj10, hsu, hm, hat, hon, hwr, hb⟩ := hrel
      clear HI
      obtain ⟨caL, hzr⟩ := HZ.out wr hb
      have j0 : (0 : Int) ≤ (j : Int) := by omega
      by_cases hgo : j < zs.length ∧ j < 10
      · obtain ⟨hjl, hj1⟩ := hgo
        obtain ⟨z, hzj⟩ : ∃ z, zs[j]? = some z := ⟨_, List.getElem?_eq_getElem hjl⟩
        have HCE : Hid (∀ W, Below w.heap.size w W → ∃ aZ, A2 = some aZ ∧ W.cell? (aL.add k) = some (.slice A2 zs.length c2) ∧ W.cell? (aZ.add j) = some (.string z)) := Lib.hid fun W hW => by
          obtain ⟨h1, h2⟩ := HZ.out W hW
          obtain ⟨aZ, e, _, h3⟩ := h2.cell hzj
          exact ⟨aZ, e, h1, h3⟩
        obtain ⟨aZ, rfl, _, caZ⟩ := HCE.out wr hb
        have j1 : (j : Int) < (zs.length : Int) := by omega
        have j2 : (j : Int) < 10 := by omega
        by_cases hbig : 200 < z.size
        · have hbi : (200 : Int) < (z.size : Int) := by omega
          have HB := Lib.hid hb
          clear hsu hm hat hb hzr HCE HZ
          go_wp2_with fail
          go_ret
          exact ⟨rfl, HB.out⟩
        have hbi : ¬ (200 : Int) < (z.size : Int) := by omega
        obtain ⟨y1, y2, y3⟩ := hm.sizes
        have hnb : 1 ≤ nblk z.size ∧ nblk z.size ≤ 4 := by unfold nblk; omega
        have HSU := Lib.hid hsu; have HM := Lib.hid hm; have HAT := Lib.hid hat; have HB := Lib.hid hb
        have hlts : ∀ i, LogS q p g v i → i < wr.heap.size := fun i hi => (hm.lts i hi).2
        have HLT := Lib.hid hlts
        have htorn := hm.disk.ok.torn
        by_cases hfull : 105 - (layR 7 rs).length < nblk z.size
        · have hfc := add_full s w.heap.size q p g cap d 5 105 7 v rs false z wr (hs.below hb (Nat.le_refl _)) hm (by omega) (.inl hfull)
          have HFC := Lib.hid hfc
          clear hfc hsu hm hat hb hzr hlts
          go_wp2_with fail
          refine (HFC.out).mono ?_
          rintro e w6 ⟨rfl, b6⟩
          have hb6 : Below w.heap.size w w6 := HB.out.trans (b6.mono HB.out.size)
          have HSU6 := Lib.hid (HSU.out.below b6 (Nat.le_refl _)); have HM6 := Lib.hid (HM.out.below b6 (Nat.le_refl _)); have HB6 := Lib.hid hb6
          clear b6 hb6 HSU HM HB HFC
          go_wp2_with fail
          refine (kind_errV s 7 _ (hs.below HB6.out (Nat.le_refl _)) (by omega)).mono ?_
          rintro e w7 ⟨rfl, b7⟩
          have HSUx := Lib.hid (HSU6.out.below b7 (Nat.le_refl _)); have HMx := Lib.hid (HM6.out.below b7 (Nat.le_refl _)); have HBx : Hid (Below w.heap.size w w7) := Lib.hid (HB6.out.trans (b7.mono HB6.out.size))
          clear b7 HSU6 HM6 HB6 hfull HCE caL caZ
          go_wp2_with fail
          refine (ison_c p g cap d _ HMx.out.disk).mono ?_
          rintro e w20 ⟨rfl, rfl⟩
          rw [hon]
          have hfit := HMx.out.fits
          obtain ⟨r1, r2, r3, r4, r5, r6, r7, r8⟩ := rest_disk HAT.out (by omega) hon
          obtain ⟨D1, hD1⟩ : ∃ D1, d.setFuse 0 0 = D1 := ⟨_, rfl⟩
          rw [hD1] at r1 r2 r3 r4 r5 r6 r7 r8
          obtain ⟨D2, hD2⟩ : ∃ D2, D1.torn1 ((0 : Nat) : Int) zeroF = D2 := ⟨_, rfl⟩
          rw [hD2] at r1 r2 r3 r4 r5 r6
          have hfu := fuse_c p g cap d 0 0 w7 HMx.out.disk (by omega) (by omega) (by omega) (by omega)
          rw [hD1] at hfu
          have HFU := Lib.hid hfu; have HR1 := Lib.hid r1; have HR2 := Lib.hid r2
          have hgp' := hgp
          clear hfu r1 r2 hD1 hD2
          go_wp2_with fail
          refine (HFU.out).mono ?_
          rintro e w21 ⟨rfl, hd21, hc21⟩
          have hcs21 : ChgS (fun i => i = p ∨ i = g) w7 w21 := ChgS.of_chg hc21 (.inl rfl) (.inr rfl)
          have hb21 : Below w.heap.size w w21 := HBx.out.trans (hcs21.below (fun i hi => by omega) HBx.out.size)
          have HSU21 := Lib.hid (HSUx.out.kept hcs21 fun i hi => .inl (log2_logS hi))
          have HD21 := Lib.hid hd21; have HB21 := Lib.hid hb21
          clear hd21 hc21 hcs21 hb21 HSUx HMx HBx HFU
          go_wp2_with fail
          refine (zeros_c 1 1 _ rfl (by omega)).mono ?_
          rintro e w22 ⟨rfl, b22⟩
          have HSU22 := Lib.hid (HSU21.out.below b22 (Nat.le_refl _)); have HD22 := Lib.hid (HD21.out.below b22 HD21.out.lt.1); have HB22 : Hid (Below w.heap.size w w22) := Lib.hid (HB21.out.trans (b22.mono HB21.out.size))
          have hwc := write_c s p g cap D1 0 (bst (List.replicate (64 * 1) 0)) w22 (hs.below HB22.out (Nat.le_refl _)) HD22.out (by rw [bst_size, List.length_replicate]; omega) (by omega)
          rw [show D1.write 0 (bst (List.replicate (64 * 1) 0)).data.toList = D1.write ((0 : Nat) : Int) zeroF from rfl, HR1.out] at hwc
          have HWC := Lib.hid hwc
          clear hwc b22 HSU21 HD21 HB21
          go_wp2_with fail
          refine (HWC.out).mono ?_
          rintro e w23 ⟨rfl, hd23, hc23⟩
          have hcs23 : ChgS (fun i => i = p ∨ i = g) w22 w23 := ChgS.of_chg hc23 (.inl rfl) (.inr rfl)
          have hb23 : Below w.heap.size w w23 := HB22.out.trans (hcs23.below (fun i hi => by omega) HB22.out.size)
          have HSU23 := Lib.hid (HSU22.out.kept hcs23 fun i hi => .inl (log2_logS hi))
          have HD23 := Lib.hid hd23; have HB23 := Lib.hid hb23
          clear hd23 hc23 hcs23 hb23 HSU22 HD22 HB22 HWC
          go_wp2_with fail
          refine (come_c p g cap D2 _ HD23.out).mono ?_
          rintro e w24 ⟨rfl, hd24, hc24⟩
          have hcs24 : ChgS (fun i => i = p ∨ i = g) w23 w24 := ChgS.of_chg hc24 (.inl rfl) (.inr rfl)
          have hb24 : Below w.heap.size w w24 := HB23.out.trans (hcs24.below (fun i hi => by omega) HB23.out.size)
          have HSU24 := Lib.hid (HSU23.out.kept hcs24 fun i hi => .inl (log2_logS hi))
          have hop := live_open s w p g cap D2.come 5 105 7 (2000 * k + 200 + 108 * j) rs 5 110 7 w24 hs hb24 hd24 hgp.1 rfl rfl rfl (by omega) (by omega) (by omega) r3 r4 (by omega) (by omega) HR2.out.follows
          have HOP := Lib.hid hop; have HB24 := Lib.hid hb24
          clear hop hd24 hc24 hcs24 hb24 HSU23 HD23 HB23 HR1
          go_wp2_with fail
          refine (HOP.out).mono ?_
          rintro e w25 ⟨q13, v13, d13, rfl, hl13, hc13, hq13, hv13, _, _, hb25⟩
          have hsu25 : SureAt w25 w.heap.size q13 p g u v13 rs := (HSU24.out.kept hc13 fun i hi => .inl (log2_logS hi)).moved (N := w24.heap.size) (fun i hi => (HSU24.out.own.lt i hi).2) hq13 hv13
          have HSU25 := Lib.hid hsu25; have HL25 := Lib.hid hl13; have HB25 := Lib.hid hb25
          clear hsu25 hl13 hc13 hv13 hb25 HSU24 HB24 HOP
          go_wp2_with fail
          refine (records_c w.heap.size q13 p g cap d13 5 105 7 v13 rs false _ HL25.out.mem).mono ?_
          rintro e w26 ⟨⟨v26, rfl, o26⟩, b26⟩
          have HSU26 := Lib.hid (HSU25.out.below b26 (Nat.le_refl _)); have HL26 := Lib.hid (HL25.out.below b26 (Nat.le_refl _)); have HB26 : Hid (Below w.heap.size w w26) := Lib.hid (HB25.out.trans (b26.mono HB25.out.size))
          have HR26 := Lib.hid (own_reads o26)
          clear o26 b26 HSU25 HL25 HB25
          go_wp2_with fail
          have hsame := same_c _ _ rs rs w26 HR26.out (own_reads HSU26.out.own) (by omega) (by omega)
          rw [decide_eq_true rfl] at hsame
          refine hsame.mono ?_
          rintro e w27 ⟨rfl, h27⟩
          have HN : Hid (HoRel w p g cap L (.pointer (some ⟨q13, 0, none⟩)) u (.int .i64 ((k : Int) + 1)) w27) := Lib.hid ⟨k + 1, q13, rs, u, v13, d13, rfl, rfl, ret_v (by omega), by omega, HSU26.out.same h27, (HL26.out.same h27).le (by omega), HB26.out.trans (h27.below _)⟩
          clear h27 hsame HSU26 HL26 HR26 HB26
          go_wp2_with fail
          go_roundw
          case rel => exact HN.out
          case measure => simp [intOf]; omega
        have hroom : nblk z.size ≤ 105 - (layR 7 rs).length := by omega
        have hsl : z.data.toList.length = z.size := size_len z
        have hac := add_c s w q p g cap d 5 105 7 v rs z wr hs hb hm (by omega) hroom (by omega) hon (by omega)
        by_cases hput : d.fuse < 0 ∨ (nblk z.size : Int) ≤ d.fuse
        · obtain ⟨d6, hp, hat6, hlike, hon6, _, hwr6, _⟩ := hat.add (x := z.data.toList) (by omega) (by omega) (by rw [hsl]; exact hroom) hon (by rw [hsl]; exact hput)
          rw [hp] at hac
          rw [hsl] at hwr6
          have HAC := Lib.hid hac; have HAT6 := Lib.hid hat6
          clear hac hsu hm hat hb hzr hlts hp hat6 hlike
          go_wp2_with fail
          refine (HAC.out).mono ?_
          rintro e w6 (⟨_, rfl, v6, hm6, hc6, hv6⟩ | ⟨h6, _⟩)
          case inr => cases h6
          have hb6 : Below w.heap.size w w6 := HB.out.trans (hc6.below (fun i hi => by have := HM.out.lts i hi; omega) HB.out.size)
          have hsu6 : SureAt w6 w.heap.size q p g u v6 rs := by
            have h1 := HSU.out.kept hc6 fun i hi => .inl hi
            exact ⟨h1.own, h1.some_, fun i hi hS => by
              rcases hS with h | h | h | h
              · exact HSU.out.apart i hi (.inl h)
              · exact HSU.out.apart i hi (.inr (.inl h))
              · exact HSU.out.apart i hi (.inr (.inr (.inl h)))
              · rcases hv6 i h with h2 | h2
                · exact HSU.out.apart i hi (.inr (.inr (.inr h2)))
                · have := (HSU.out.own.lt i hi).2; omega⟩
          have HSU6 := Lib.hid hsu6; have HM6 := Lib.hid hm6; have HB6 := Lib.hid hb6
          clear hsu6 hm6 hb6 hc6 hv6 HSU HM HB HAC HAT
          go_wp2_with fail
          refine (kind_nil _).mono ?_
          rintro e w7 ⟨rfl, b7⟩
          have HSU7 := Lib.hid (HSU6.out.below b7 (Nat.le_refl _)); have HM7 := Lib.hid (HM6.out.below b7 (Nat.le_refl _)); have HB7 : Hid (Below w.heap.size w w7) := Lib.hid (HB6.out.trans (b7.mono HB6.out.size))
          clear b7 HSU6 HM6 HB6
          obtain ⟨aZ', e7, caL7, caZ7⟩ := HCE.out w7 HB7.out
          obtain rfl := Option.some.inj e7
          have HO7 : Hid (∀ o : Obj, (w7.alloc o).ownsRow w.heap.size 9 1 u rs.length (strVs rs)) := Lib.hid fun o => HSU7.out.own.alloc o
          have hsz7 := HB7.out.size
          obtain ⟨ti, hti, hz0, hz1, hz2⟩ := Tryd.infoSt
          clear caL caZ
          go_wp2_with (at_builtin; refine wpList_append_own_at _ rfl _ _ 32 rfl w.heap.size 9 ti _ 1 16 Tryd.underlying32 hti hz0 hz1 hz2 rfl (by decide) _ rs.length (strVs rs) rfl (HO7.out _) ⟨_, 0, none⟩ 1 1 [.string z] rfl rfl ?c1 ?c2 ?c3 ?c4 ?c5 ?_)
          case c1 => exact cell_one_new _ _ _
          case c2 => first | rfl | (intro u hu; simp at hu; subst hu; rfl)
          case c3 => unfold maxLen; omega
          case c4 => omega
          case c5 => first | omega | (rw [World.size_alloc]; omega)
          intro u' w8 o8 g8 hnil hatt
          have HN : Hid (HiRel w q p g cap (2000 * k + 200) zs u' (.string ⟨#[]⟩) (.bool false) (.int .i64 ((j : Int) + 1)) w8) := Lib.hid (by
            have hu' := (HO7.out (.cells #[.string z] 9)).lt
            have hc8 : ChgS (fun i => u.ownBlock = some i) w7 w8 := ((ChgS.refl _ w7).alloc _).grown g8 fun i hi => .inl hi
            have hT : Value.string z = .string (bst z.data.toList) := by rw [← bst_of]
            rw [hT] at o8
            refine ⟨j + 1, rs ++ [z.data.toList], u', v6, d6, rfl, rfl, rfl, ret_v (by omega), by omega, by omega, HSU7.out.more (fun i hi => (HM7.out.lts i hi).2) o8 (by simpa using hnil) (by simpa using hatt), HM7.out.kept hc8 (fun i hi hs' => HSU7.out.apart i hs' hi), HAT6.out, hon6, by omega, HB7.out.trans (hc8.below (fun i hi => (hu' i hi).1) hsz7)⟩)
          clear o8 g8 hnil hatt HO7 HSU7 HM7 HB7 HAT6 HCE caL7 caZ7
          go_wp2_with fail
          go_roundw
          case rel => exact HN.out
          case measure => simp [intOf]; omega
        · obtain ⟨F, hF⟩ : ∃ F : Nat, d.fuse = (F : Int) := ⟨d.fuse.toNat, by omega⟩
          obtain ⟨E, hp, hfo, hlike, honE, hwrE, _⟩ := hat.cut (x := z.data.toList) (k := F) (by omega) (by omega) (by rw [hsl]; exact hroom) hon htorn hF (by rw [hsl]; omega)
          rw [hp] at hac
          obtain ⟨X, hX⟩ : ∃ X, z.data.toList = X := ⟨_, rfl⟩
          obtain ⟨co1, co2, co3, co4, co5⟩ := come_disk honE
          have hfo' : Follows (rowsD E.come 5 105) 7 rs ∨ Follows (rowsD E.come 5 105) 7 (rs ++ [X]) := by rw [co5, ← hX]; exact hfo
          have hEn : E.n = d.n := hlike.n
          have hdn := hm.fits
          have HAC := Lib.hid hac; have HFO := Lib.hid hfo'; have HX := Lib.hid hX
          have hw1 : E.come.wr ≤ 2000 * k + 200 + 108 * j + 4 := by rw [co3, hwrE]; omega
          clear hac hsu hm hat hb hzr hlts hp hlike hfo hfo' hX co5 co3
          go_wp2_with fail
          refine (HAC.out).mono ?_
          rintro e w6 (⟨h6, _⟩ | ⟨_, rfl, hm6, hc6⟩)
          case inl => cases h6
          have hb6 : Below w.heap.size w w6 := HB.out.trans (hc6.below (fun i hi => by have := HM.out.lts i hi; omega) HB.out.size)
          have HSU6 := Lib.hid (HSU.out.kept hc6 fun i hi => .inl hi); have HM6 := Lib.hid hm6; have HB6 := Lib.hid hb6
          clear hm6 hb6 hc6 HSU HM HB HAC HAT
          simp only [errV_pos]
          go_wp2_with fail
          refine (kind_errV s 14 _ (hs.below HB6.out (Nat.le_refl _)) (by omega)).mono ?_
          rintro e w7 ⟨rfl, b7⟩
          have HSU7 := Lib.hid (HSU6.out.below b7 (Nat.le_refl _)); have HM7 := Lib.hid (HM6.out.below b7 (Nat.le_refl _)); have HB7 : Hid (Below w.heap.size w w7) := Lib.hid (HB6.out.trans (b7.mono HB6.out.size))
          clear b7 HSU6 HM6 HB6
          go_wp2_with fail
          refine (kind_errV s 14 _ (hs.below HB7.out (Nat.le_refl _)) (by omega)).mono ?_
          rintro e w8 ⟨rfl, b8⟩
          have HSU8 := Lib.hid (HSU7.out.below b8 (Nat.le_refl _)); have HM8 := Lib.hid (HM7.out.below b8 (Nat.le_refl _)); have HB8 : Hid (Below w.heap.size w w8) := Lib.hid (HB7.out.trans (b8.mono HB7.out.size))
          clear b8 HSU7 HM7 HB7
          go_wp2_with fail
          refine (add_fell s w.heap.size q p g cap E 5 105 7 v rs ⟨#[120]⟩ _ (hs.below HB8.out (Nat.le_refl _)) HM8.out (by decide) (by rw [show nblk (ByteArray.size ⟨#[120]⟩) = 1 from rfl]; omega) (by omega)).mono ?_
          rintro e w9 ⟨rfl, b9⟩
          have HSU9 := Lib.hid (HSU8.out.below b9 (Nat.le_refl _)); have HM9 := Lib.hid (HM8.out.below b9 (Nat.le_refl _)); have HB9 : Hid (Below w.heap.size w w9) := Lib.hid (HB8.out.trans (b9.mono HB8.out.size))
          clear b9 HSU8 HM8 HB8
          go_wp2_with fail
          refine (kind_errV s 14 _ (hs.below HB9.out (Nat.le_refl _)) (by omega)).mono ?_
          rintro e w10 ⟨rfl, b10⟩
          have HSU10 := Lib.hid (HSU9.out.below b10 (Nat.le_refl _)); have HM10 := Lib.hid (HM9.out.below b10 (Nat.le_refl _)); have HB10 : Hid (Below w.heap.size w w10) := Lib.hid (HB9.out.trans (b10.mono HB9.out.size))
          clear b10 HSU9 HM9 HB9
          go_wp2_with fail
          refine (reset_fell s w.heap.size q p g cap E 5 105 7 v rs 0 _ (hs.below HB10.out (Nat.le_refl _)) HM10.out (by omega)).mono ?_
          rintro e w11 ⟨rfl, rfl⟩
          go_wp2_with fail
          refine (kind_errV s 14 _ (hs.below HB10.out (Nat.le_refl _)) (by omega)).mono ?_
          rintro e w11 ⟨rfl, b11⟩
          have HSU11 := Lib.hid (HSU10.out.below b11 (Nat.le_refl _)); have HM11 := Lib.hid (HM10.out.below b11 (Nat.le_refl _)); have HB11 : Hid (Below w.heap.size w w11) := Lib.hid (HB10.out.trans (b11.mono HB10.out.size))
          clear b11 HSU10 HM10 HB10
          obtain ⟨aZ', e7, caL7, caZ7⟩ := HCE.out w11 HB11.out
          obtain rfl := Option.some.inj e7
          clear caL caZ
          go_wp2_with fail
          refine (ison_c p g cap E _ HM11.out.disk).mono ?_
          rintro e w12 ⟨rfl, rfl⟩
          rw [honE]
          go_wp2_with fail
          refine (come_c p g cap E _ HM11.out.disk).mono ?_
          rintro e w12 ⟨rfl, hd12, hc12⟩
          have hcs12 : ChgS (fun i => i = p ∨ i = g) w11 w12 := ChgS.of_chg hc12 (.inl rfl) (.inr rfl)
          have hb12 : Below w.heap.size w w12 := HB11.out.trans (hcs12.below (fun i hi => by omega) HB11.out.size)
          have hf12 := HM11.out.fits
          have HSU12 := Lib.hid (HSU11.out.kept hcs12 fun i hi => .inl (log2_logS hi))
          have HD12 := Lib.hid hd12; have HB12 := Lib.hid hb12
          clear hd12 hc12 hcs12 hb12 HSU11 HM11 HB11 HCE caL7 caZ7
          rcases HFO.out with hfa | hfb
          · have hop := live_open s w p g cap E.come 5 105 7 (2000 * k + 200 + 108 * j + 4) rs 5 110 7 w12 hs HB12.out HD12.out hgp.1 rfl rfl rfl (by omega) (by omega) (by omega) co1 co2 hw1 (by omega) hfa
            have HOP := Lib.hid hop
            clear hop
            go_wp2_with fail
            refine (HOP.out).mono ?_
            rintro e w13 ⟨q13, v13, d13, rfl, hl13, hc13, hq13, hv13, _, _, hb13⟩
            have hsu13 : SureAt w13 w.heap.size q13 p g u v13 rs := (HSU12.out.kept hc13 fun i hi => .inl (log2_logS hi)).moved (N := w12.heap.size) (fun i hi => (HSU12.out.own.lt i hi).2) hq13 hv13
            have HSU13 := Lib.hid hsu13; have HL13 := Lib.hid hl13; have HB13 := Lib.hid hb13
            clear hsu13 hl13 hc13 hv13 hb13 HSU12 HB12 HD12 HOP
            go_wp2_with fail
            refine (records_c w.heap.size q13 p g cap d13 5 105 7 v13 rs false _ HL13.out.mem).mono ?_
            rintro e w14 ⟨⟨v14, rfl, o14⟩, b14⟩
            have HSU14 := Lib.hid (HSU13.out.below b14 (Nat.le_refl _)); have HL14 := Lib.hid (HL13.out.below b14 (Nat.le_refl _)); have HB14 : Hid (Below w.heap.size w w14) := Lib.hid (HB13.out.trans (b14.mono HB13.out.size))
            have HR14 := Lib.hid (own_reads o14)
            have HV14 := Lib.hid (fun i hi => (o14.lt i hi).2)
            have HLT14 : Hid (∀ i, LogS q13 p g v13 i → i < w14.heap.size) := Lib.hid fun i hi => by have h1 := (HL13.out.mem.lts i hi).2; have h2 := b14.size; omega
            clear o14 b14 HSU13 HL13 HB13
            obtain ⟨gu, cu, hu, hgu, hgul⟩ := HSU14.out.addr
            have hucell := HSU14.out.own.cells (g := gu) (by rw [hu]; rfl)
            have HUC := Lib.hid hucell
            have b15 : Below w14.heap.size w14 (w14.alloc (.cells #[] 9)) := (Below.refl _ _).alloc (Nat.le_refl _) _
            have hmade : (w14.alloc (.cells #[] 9)).ownsRow w14.heap.size 9 1 (.slice (some ⟨w14.heap.size, 0, none⟩) 0 0) 0 [] := World.ownsRow_made w14 #[] 0 (Nat.le_refl _) (by unfold maxLen; omega) rfl
            have HMD := Lib.hid hmade; have HB15 := Lib.hid b15
            have hsz14 := HB14.out.size
            obtain ⟨ti, hti, hz0, hz1, hz2⟩ := Tryd.infoSt
            clear hucell hmade b15
            subst hu
            go_wp2_with (at_builtin; refine wpList_append_yes (by first | rfl | go_simp) _ _ 32 rfl w14.heap.size 9 ti _ 1 16 Tryd.underlying32 hti hz0 hz1 hz2 rfl (by decide) _ 0 [] rfl HMD.out ⟨gu, 0, none⟩ rs.length cu (strVs rs) rfl ?c0 ?c1 ?c2 ?c3 ?c4 ?c5 ?_)
            case c0 => rw [strVs_len, Nat.mul_one]
            case c1 =>
              intro i x hx
              exact (World.cell?_of_block (a := (⟨gu, 0, none⟩ : Addr).add i) (by rw [block_addS]; exact Below.heap_alloc w14 _ gu hgul)).trans (HUC.out i x hx)
            case c2 => exact strVs_one rs
            case c3 => unfold maxLen; omega
            case c4 => omega
            case c5 => first | omega | (rw [World.size_alloc]; omega)
            intro u16 w16 o16 g16 _ _
            have hb16 : Below w14.heap.size w14 w16 := HB15.out.grown g16 (by first | omega | (rw [World.size_alloc]; omega)) (fun i hi => by simp [Value.ownBlock] at hi; omega)
            have hsu16 := HSU14.out.below hb16 (Nat.le_refl _)
            have hl16 := HL14.out.below hb16 (Nat.le_refl _)
            have hr16 := HR14.out.below hb16 (Nat.le_refl _)
            have o16' : ∀ o : Obj, (w16.alloc o).ownsRow w14.heap.size 9 1 u16 rs.length (strVs rs) := fun o => World.ownsRow.alloc (by simpa using o16) o
            have hsz16 := hb16.size
            have HO16 := Lib.hid o16'; have HSU16 := Lib.hid hsu16; have HL16 := Lib.hid hl16; have HR16 := Lib.hid hr16; have HB16 := Lib.hid hb16
            clear o16 o16' g16 hsu16 hl16 hr16 hb16 HSU14 HL14 HR14 HMD HB15 HUC
            go_wp2_with (at_builtin; refine wpList_append_yes (by first | rfl | go_simp) _ _ 32 rfl w14.heap.size 9 ti _ 1 16 Tryd.underlying32 hti hz0 hz1 hz2 rfl (by decide) _ rs.length (strVs rs) rfl (HO16.out _) ⟨_, 0, none⟩ 1 1 [.string z] rfl rfl ?c1 ?c2 ?c3 ?c4 ?c5 ?_)
            case c1 => exact cell_one_new _ _ _
            case c2 => first | rfl | (intro u hu; simp at hu; subst hu; rfl)
            case c3 => unfold maxLen; omega
            case c4 => omega
            case c5 => first | omega | (rw [World.size_alloc]; omega)
            intro u17 w17 o17 g17 _ _
            have hu16 := (HO16.out (.cells #[.string z] 9)).lt
            have hc17 : ChgS (fun i => u16.ownBlock = some i) w16 w17 := ((ChgS.refl _ w16).alloc _).grown g17 fun i hi => .inl hi
            have hb17 : Below w14.heap.size w16 w17 := hc17.below (fun i hi => (hu16 i hi).1) hsz16
            have hb1417 : Below w14.heap.size w14 w17 := HB16.out.trans hb17
            have HB17 : Hid (Below w.heap.size w w17) := Lib.hid (HB14.out.trans (hb1417.mono HB14.out.size))
            have hown17 : w17.ownsRow w14.heap.size 9 1 u17 (rs ++ [X]).length (strVs (rs ++ [X])) := by
              have hT : Value.string z = .string (bst X) := by rw [← HX.out, ← bst_of]
              rw [hT] at o17
              rw [List.length_append, List.length_singleton]
              unfold strVs at o17 ⊢
              rw [List.map_append]
              exact o17
            have HQ17 := Lib.hid (own_reads hown17)
            have HSU17 : Hid (SureAt w17 w.heap.size q13 p g (.slice (some ⟨gu, 0, none⟩) rs.length cu) v13 rs) := Lib.hid ⟨own_same HSU16.out.own (fun i hi => hb17.block i (by have h1 : gu = i := (Option.some.inj hi); omega)), HSU16.out.some_, HSU16.out.apart⟩
            have HL17 := Lib.hid (HL16.out.kept hc17 fun i hi hs' => by have h1 := HLT14.out i hi; have h2 := (hu16 i hs').1; omega)
            have HRG17 := Lib.hid (HR16.out.keptS hc17 fun i hi hs' => by have h1 := HV14.out i hi; have h2 := (hu16 i hs').1; omega)
            clear o17 g17 hc17 hb17 hb1417 hown17 HO16 HSU16 HL16 HR16 HB16 HB14
            have hsame := same_c _ _ rs (rs ++ [X]) w17 HRG17.out HQ17.out (by omega) (by simp; omega)
            rw [decide_eq_false (by intro h; have := congrArg List.length h; simp at this)] at hsame
            have HSAME := Lib.hid hsame
            clear hsame HQ17
            go_wp2_with fail
            refine (HSAME.out).mono ?_
            rintro e w18 ⟨rfl, h18⟩
            have HSU18 := Lib.hid (HSU17.out.same h18); have HL18 := Lib.hid (HL17.out.same h18); have HR18 := Lib.hid (HRG17.out.same h18); have HB18 : Hid (Below w.heap.size w w18) := Lib.hid (HB17.out.trans (h18.below _))
            clear h18 HSU17 HL17 HRG17 HB17 HSAME
            go_wp2_with fail
            have hsame2 := same_c _ _ rs rs w18 HR18.out (own_reads HSU18.out.own) (by omega) (by omega)
            rw [decide_eq_true rfl] at hsame2
            refine hsame2.mono ?_
            rintro e w19 ⟨rfl, h19⟩
            have HN : Hid (HoRel w p g cap L (.pointer (some ⟨q13, 0, none⟩)) (.slice (some ⟨gu, 0, none⟩) rs.length cu) (.int .i64 ((k : Int) + 1)) w19) := Lib.hid ⟨k + 1, q13, rs, (.slice (some ⟨gu, 0, none⟩) rs.length cu), v13, d13, rfl, rfl, ret_v (by omega), by omega, HSU18.out.same h19, (HL18.out.same h19).le (by omega), HB18.out.trans (h19.below _)⟩
            clear h19 hsame2 HSU18 HL18 HR18 HB18
            go_wp2_with fail
            go_roundw
            case rel => exact HN.out
            case measure => simp [intOf]; omega
          · have hop := live_open s w p g cap E.come 5 105 7 (2000 * k + 200 + 108 * j + 4) (rs ++ [X]) 5 110 7 w12 hs HB12.out HD12.out hgp.1 rfl rfl rfl (by omega) (by omega) (by omega) co1 co2 hw1 (by omega) hfb
            have HOP := Lib.hid hop
            clear hop
            go_wp2_with fail
            refine (HOP.out).mono ?_
            rintro e w13 ⟨q13, v13, d13, rfl, hl13, hc13, hq13, hv13, _, _, hb13⟩
            have hsu13 : SureAt w13 w.heap.size q13 p g u v13 rs := (HSU12.out.kept hc13 fun i hi => .inl (log2_logS hi)).moved (N := w12.heap.size) (fun i hi => (HSU12.out.own.lt i hi).2) hq13 hv13
            have HSU13 := Lib.hid hsu13; have HL13 := Lib.hid hl13; have HB13 := Lib.hid hb13
            clear hsu13 hl13 hc13 hv13 hb13 HSU12 HB12 HD12 HOP
            go_wp2_with fail
            refine (records_c w.heap.size q13 p g cap d13 5 105 7 v13 (rs ++ [X]) false _ HL13.out.mem).mono ?_
            rintro e w14 ⟨⟨v14, rfl, o14⟩, b14⟩
            have HSU14 := Lib.hid (HSU13.out.below b14 (Nat.le_refl _)); have HL14 := Lib.hid (HL13.out.below b14 (Nat.le_refl _)); have HB14 : Hid (Below w.heap.size w w14) := Lib.hid (HB13.out.trans (b14.mono HB13.out.size))
            have HR14 := Lib.hid (own_reads o14)
            have HV14 := Lib.hid (fun i hi => (o14.lt i hi).2)
            have HLT14 : Hid (∀ i, LogS q13 p g v13 i → i < w14.heap.size) := Lib.hid fun i hi => by have h1 := (HL13.out.mem.lts i hi).2; have h2 := b14.size; omega
            clear o14 b14 HSU13 HL13 HB13
            obtain ⟨gu, cu, hu, hgu, hgul⟩ := HSU14.out.addr
            have hucell := HSU14.out.own.cells (g := gu) (by rw [hu]; rfl)
            have HUC := Lib.hid hucell
            have b15 : Below w14.heap.size w14 (w14.alloc (.cells #[] 9)) := (Below.refl _ _).alloc (Nat.le_refl _) _
            have hmade : (w14.alloc (.cells #[] 9)).ownsRow w14.heap.size 9 1 (.slice (some ⟨w14.heap.size, 0, none⟩) 0 0) 0 [] := World.ownsRow_made w14 #[] 0 (Nat.le_refl _) (by unfold maxLen; omega) rfl
            have HMD := Lib.hid hmade; have HB15 := Lib.hid b15
            have hsz14 := HB14.out.size
            obtain ⟨ti, hti, hz0, hz1, hz2⟩ := Tryd.infoSt
            clear hucell hmade b15
            subst hu
            go_wp2_with (at_builtin; refine wpList_append_yes (by first | rfl | go_simp) _ _ 32 rfl w14.heap.size 9 ti _ 1 16 Tryd.underlying32 hti hz0 hz1 hz2 rfl (by decide) _ 0 [] rfl HMD.out ⟨gu, 0, none⟩ rs.length cu (strVs rs) rfl ?c0 ?c1 ?c2 ?c3 ?c4 ?c5 ?_)
            case c0 => rw [strVs_len, Nat.mul_one]
            case c1 =>
              intro i x hx
              exact (World.cell?_of_block (a := (⟨gu, 0, none⟩ : Addr).add i) (by rw [block_addS]; exact Below.heap_alloc w14 _ gu hgul)).trans (HUC.out i x hx)
            case c2 => exact strVs_one rs
            case c3 => unfold maxLen; omega
            case c4 => omega
            case c5 => first | omega | (rw [World.size_alloc]; omega)
            intro u16 w16 o16 g16 _ _
            have hb16 : Below w14.heap.size w14 w16 := HB15.out.grown g16 (by first | omega | (rw [World.size_alloc]; omega)) (fun i hi => by simp [Value.ownBlock] at hi; omega)
            have hsu16 := HSU14.out.below hb16 (Nat.le_refl _)
            have hl16 := HL14.out.below hb16 (Nat.le_refl _)
            have hr16 := HR14.out.below hb16 (Nat.le_refl _)
            have o16' : ∀ o : Obj, (w16.alloc o).ownsRow w14.heap.size 9 1 u16 rs.length (strVs rs) := fun o => World.ownsRow.alloc (by simpa using o16) o
            have hsz16 := hb16.size
            have HO16 := Lib.hid o16'; have HSU16 := Lib.hid hsu16; have HL16 := Lib.hid hl16; have HR16 := Lib.hid hr16; have HB16 := Lib.hid hb16
            clear o16 o16' g16 hsu16 hl16 hr16 hb16 HSU14 HL14 HR14 HMD HB15 HUC
            go_wp2_with (at_builtin; refine wpList_append_yes (by first | rfl | go_simp) _ _ 32 rfl w14.heap.size 9 ti _ 1 16 Tryd.underlying32 hti hz0 hz1 hz2 rfl (by decide) _ rs.length (strVs rs) rfl (HO16.out _) ⟨_, 0, none⟩ 1 1 [.string z] rfl rfl ?c1 ?c2 ?c3 ?c4 ?c5 ?_)
            case c1 => exact cell_one_new _ _ _
            case c2 => first | rfl | (intro u hu; simp at hu; subst hu; rfl)
            case c3 => unfold maxLen; omega
            case c4 => omega
            case c5 => first | omega | (rw [World.size_alloc]; omega)
            intro u17 w17 o17 g17 _ _
            have hu16 := (HO16.out (.cells #[.string z] 9)).lt
            have hc17 : ChgS (fun i => u16.ownBlock = some i) w16 w17 := ((ChgS.refl _ w16).alloc _).grown g17 fun i hi => .inl hi
            have hb17 : Below w14.heap.size w16 w17 := hc17.below (fun i hi => (hu16 i hi).1) hsz16
            have hb1417 : Below w14.heap.size w14 w17 := HB16.out.trans hb17
            have HB17 : Hid (Below w.heap.size w w17) := Lib.hid (HB14.out.trans (hb1417.mono HB14.out.size))
            have hown17 : w17.ownsRow w14.heap.size 9 1 u17 (rs ++ [X]).length (strVs (rs ++ [X])) := by
              have hT : Value.string z = .string (bst X) := by rw [← HX.out, ← bst_of]
              rw [hT] at o17
              rw [List.length_append, List.length_singleton]
              unfold strVs at o17 ⊢
              rw [List.map_append]
              exact o17
            have HQ17 := Lib.hid (own_reads hown17)
            have HSU17 : Hid (SureAt w17 w.heap.size q13 p g (.slice (some ⟨gu, 0, none⟩) rs.length cu) v13 rs) := Lib.hid ⟨own_same HSU16.out.own (fun i hi => hb17.block i (by have h1 : gu = i := (Option.some.inj hi); omega)), HSU16.out.some_, HSU16.out.apart⟩
            have HL17 := Lib.hid (HL16.out.kept hc17 fun i hi hs' => by have h1 := HLT14.out i hi; have h2 := (hu16 i hs').1; omega)
            have HRG17 := Lib.hid (HR16.out.keptS hc17 fun i hi hs' => by have h1 := HV14.out i hi; have h2 := (hu16 i hs').1; omega)
            clear o17 g17 hc17 hb17 hb1417 hown17 HO16 HSU16 HL16 HR16 HB16 HB14
            have hsame := same_c _ _ (rs ++ [X]) (rs ++ [X]) w17 HRG17.out HQ17.out (by simp; omega) (by simp; omega)
            rw [decide_eq_true rfl] at hsame
            have HSAME := Lib.hid hsame
            clear hsame HQ17
            go_wp2_with fail
            refine (HSAME.out).mono ?_
            rintro e w18 ⟨rfl, h18⟩
            have HSU18 := Lib.hid (HSU17.out.same h18); have HL18 := Lib.hid (HL17.out.same h18); have HB18 : Hid (Below w.heap.size w w18) := Lib.hid (HB17.out.trans (h18.below _))
            have HO18 : Hid (∀ o : Obj, (w18.alloc o).ownsRow w.heap.size 9 1 (.slice (some ⟨gu, 0, none⟩) rs.length cu) rs.length (strVs rs)) := Lib.hid fun o => HSU18.out.own.alloc o
            have hsz18 := HB18.out.size
            clear h18 HSU17 HL17 HRG17 HB17 HSAME
            go_wp2_with (at_builtin; refine wpList_append_own_at _ rfl _ _ 32 rfl w.heap.size 9 ti _ 1 16 Tryd.underlying32 hti hz0 hz1 hz2 rfl (by decide) _ rs.length (strVs rs) rfl (HO18.out _) ⟨_, 0, none⟩ 1 1 [.string z] rfl rfl ?c1 ?c2 ?c3 ?c4 ?c5 ?_)
            case c1 => exact cell_one_new _ _ _
            case c2 => first | rfl | (intro u hu; simp at hu; subst hu; rfl)
            case c3 => unfold maxLen; omega
            case c4 => omega
            case c5 => first | omega | (rw [World.size_alloc]; omega)
            intro u' w19 o19 g19 hnil hatt
            have HN : Hid (HoRel w p g cap L (.pointer (some ⟨q13, 0, none⟩)) u' (.int .i64 ((k : Int) + 1)) w19) := Lib.hid (by
              have hu' := (HO18.out (.cells #[.string z] 9)).lt
              have hc19 : ChgS (fun i => Value.ownBlock (.slice (some ⟨gu, 0, none⟩) rs.length cu) = some i) w18 w19 := ((ChgS.refl _ w18).alloc _).grown g19 fun i hi => .inl hi
              have hT : Value.string z = .string (bst X) := by rw [← HX.out, ← bst_of]
              rw [hT] at o19
              exact ⟨k + 1, q13, rs ++ [X], u', v13, d13, rfl, rfl, ret_v (by omega), by omega, HSU18.out.more (fun i hi => (HL18.out.mem.lts i hi).2) o19 (by simpa using hnil) (by simpa using hatt), (HL18.out.kept hc19 (fun i hi hs' => HSU18.out.apart i hs' hi)).le (by omega), HB18.out.trans (hc19.below (fun i hi => (hu' i hi).1) hsz18)⟩)
            clear o19 g19 hnil hatt HO18 HSU18 HL18 HB18
            go_wp2_with fail
            go_roundw
            case rel => exact HN.out
            case measure => simp [intOf]; omega
      · have HSUx := Lib.hid hsu; have HMx := Lib.hid hm; have HAT := Lib.hid hat; have HBx := Lib.hid hb
        obtain ⟨y1, y2, y3⟩ := hm.sizes
        clear hsu hm hat hb hzr
        by_cases hjl : j < zs.length
        · have j1 : (j : Int) < (zs.length : Int) := by omega
          have j2 : ¬ (j : Int) < 10 := by omega
          go_wp2_with fail
          refine (ison_c p g cap d _ HMx.out.disk).mono ?_
          rintro e w20 ⟨rfl, rfl⟩
          rw [hon]
          have hfit := HMx.out.fits
          obtain ⟨r1, r2, r3, r4, r5, r6, r7, r8⟩ := rest_disk HAT.out (by omega) hon
          obtain ⟨D1, hD1⟩ : ∃ D1, d.setFuse 0 0 = D1 := ⟨_, rfl⟩
          rw [hD1] at r1 r2 r3 r4 r5 r6 r7 r8
          obtain ⟨D2, hD2⟩ : ∃ D2, D1.torn1 ((0 : Nat) : Int) zeroF = D2 := ⟨_, rfl⟩
          rw [hD2] at r1 r2 r3 r4 r5 r6
          have hfu := fuse_c p g cap d 0 0 wr HMx.out.disk (by omega) (by omega) (by omega) (by omega)
          rw [hD1] at hfu
          have HFU := Lib.hid hfu; have HR1 := Lib.hid r1; have HR2 := Lib.hid r2
          have hgp' := hgp
          clear hfu r1 r2 hD1 hD2
          go_wp2_with fail
          refine (HFU.out).mono ?_
          rintro e w21 ⟨rfl, hd21, hc21⟩
          have hcs21 : ChgS (fun i => i = p ∨ i = g) wr w21 := ChgS.of_chg hc21 (.inl rfl) (.inr rfl)
          have hb21 : Below w.heap.size w w21 := HBx.out.trans (hcs21.below (fun i hi => by omega) HBx.out.size)
          have HSU21 := Lib.hid (HSUx.out.kept hcs21 fun i hi => .inl (log2_logS hi))
          have HD21 := Lib.hid hd21; have HB21 := Lib.hid hb21
          clear hd21 hc21 hcs21 hb21 HSUx HMx HBx HFU
          go_wp2_with fail
          refine (zeros_c 1 1 _ rfl (by omega)).mono ?_
          rintro e w22 ⟨rfl, b22⟩
          have HSU22 := Lib.hid (HSU21.out.below b22 (Nat.le_refl _)); have HD22 := Lib.hid (HD21.out.below b22 HD21.out.lt.1); have HB22 : Hid (Below w.heap.size w w22) := Lib.hid (HB21.out.trans (b22.mono HB21.out.size))
          have hwc := write_c s p g cap D1 0 (bst (List.replicate (64 * 1) 0)) w22 (hs.below HB22.out (Nat.le_refl _)) HD22.out (by rw [bst_size, List.length_replicate]; omega) (by omega)
          rw [show D1.write 0 (bst (List.replicate (64 * 1) 0)).data.toList = D1.write ((0 : Nat) : Int) zeroF from rfl, HR1.out] at hwc
          have HWC := Lib.hid hwc
          clear hwc b22 HSU21 HD21 HB21
          go_wp2_with fail
          refine (HWC.out).mono ?_
          rintro e w23 ⟨rfl, hd23, hc23⟩
          have hcs23 : ChgS (fun i => i = p ∨ i = g) w22 w23 := ChgS.of_chg hc23 (.inl rfl) (.inr rfl)
          have hb23 : Below w.heap.size w w23 := HB22.out.trans (hcs23.below (fun i hi => by omega) HB22.out.size)
          have HSU23 := Lib.hid (HSU22.out.kept hcs23 fun i hi => .inl (log2_logS hi))
          have HD23 := Lib.hid hd23; have HB23 := Lib.hid hb23
          clear hd23 hc23 hcs23 hb23 HSU22 HD22 HB22 HWC
          go_wp2_with fail
          refine (come_c p g cap D2 _ HD23.out).mono ?_
          rintro e w24 ⟨rfl, hd24, hc24⟩
          have hcs24 : ChgS (fun i => i = p ∨ i = g) w23 w24 := ChgS.of_chg hc24 (.inl rfl) (.inr rfl)
          have hb24 : Below w.heap.size w w24 := HB23.out.trans (hcs24.below (fun i hi => by omega) HB23.out.size)
          have HSU24 := Lib.hid (HSU23.out.kept hcs24 fun i hi => .inl (log2_logS hi))
          have hop := live_open s w p g cap D2.come 5 105 7 (2000 * k + 200 + 108 * j) rs 5 110 7 w24 hs hb24 hd24 hgp.1 rfl rfl rfl (by omega) (by omega) (by omega) r3 r4 (by omega) (by omega) HR2.out.follows
          have HOP := Lib.hid hop; have HB24 := Lib.hid hb24
          clear hop hd24 hc24 hcs24 hb24 HSU23 HD23 HB23 HR1
          go_wp2_with fail
          refine (HOP.out).mono ?_
          rintro e w25 ⟨q13, v13, d13, rfl, hl13, hc13, hq13, hv13, _, _, hb25⟩
          have hsu25 : SureAt w25 w.heap.size q13 p g u v13 rs := (HSU24.out.kept hc13 fun i hi => .inl (log2_logS hi)).moved (N := w24.heap.size) (fun i hi => (HSU24.out.own.lt i hi).2) hq13 hv13
          have HSU25 := Lib.hid hsu25; have HL25 := Lib.hid hl13; have HB25 := Lib.hid hb25
          clear hsu25 hl13 hc13 hv13 hb25 HSU24 HB24 HOP
          go_wp2_with fail
          refine (records_c w.heap.size q13 p g cap d13 5 105 7 v13 rs false _ HL25.out.mem).mono ?_
          rintro e w26 ⟨⟨v26, rfl, o26⟩, b26⟩
          have HSU26 := Lib.hid (HSU25.out.below b26 (Nat.le_refl _)); have HL26 := Lib.hid (HL25.out.below b26 (Nat.le_refl _)); have HB26 : Hid (Below w.heap.size w w26) := Lib.hid (HB25.out.trans (b26.mono HB25.out.size))
          have HR26 := Lib.hid (own_reads o26)
          clear o26 b26 HSU25 HL25 HB25
          go_wp2_with fail
          have hsame := same_c _ _ rs rs w26 HR26.out (own_reads HSU26.out.own) (by omega) (by omega)
          rw [decide_eq_true rfl] at hsame
          refine hsame.mono ?_
          rintro e w27 ⟨rfl, h27⟩
          have HN : Hid (HoRel w p g cap L (.pointer (some ⟨q13, 0, none⟩)) u (.int .i64 ((k : Int) + 1)) w27) := Lib.hid ⟨k + 1, q13, rs, u, v13, d13, rfl, rfl, ret_v (by omega), by omega, HSU26.out.same h27, (HL26.out.same h27).le (by omega), HB26.out.trans (h27.below _)⟩
          clear h27 hsame HSU26 HL26 HR26 HB26
          go_wp2_with fail
          go_roundw
          case rel => exact HN.out
          case measure => simp [intOf]; omega
        · have j1 : ¬ (j : Int) < (zs.length : Int) := by omega
          go_wp2_with fail
          refine (ison_c p g cap d _ HMx.out.disk).mono ?_
          rintro e w20 ⟨rfl, rfl⟩
          rw [hon]
          have hfit := HMx.out.fits
          obtain ⟨r1, r2, r3, r4, r5, r6, r7, r8⟩ := rest_disk HAT.out (by omega) hon
          obtain ⟨D1, hD1⟩ : ∃ D1, d.setFuse 0 0 = D1 := ⟨_, rfl⟩
          rw [hD1] at r1 r2 r3 r4 r5 r6 r7 r8
          obtain ⟨D2, hD2⟩ : ∃ D2, D1.torn1 ((0 : Nat) : Int) zeroF = D2 := ⟨_, rfl⟩
          rw [hD2] at r1 r2 r3 r4 r5 r6
          have hfu := fuse_c p g cap d 0 0 wr HMx.out.disk (by omega) (by omega) (by omega) (by omega)
          rw [hD1] at hfu
          have HFU := Lib.hid hfu; have HR1 := Lib.hid r1; have HR2 := Lib.hid r2
          have hgp' := hgp
          clear hfu r1 r2 hD1 hD2
          go_wp2_with fail
          refine (HFU.out).mono ?_
          rintro e w21 ⟨rfl, hd21, hc21⟩
          have hcs21 : ChgS (fun i => i = p ∨ i = g) wr w21 := ChgS.of_chg hc21 (.inl rfl) (.inr rfl)
          have hb21 : Below w.heap.size w w21 := HBx.out.trans (hcs21.below (fun i hi => by omega) HBx.out.size)
          have HSU21 := Lib.hid (HSUx.out.kept hcs21 fun i hi => .inl (log2_logS hi))
          have HD21 := Lib.hid hd21; have HB21 := Lib.hid hb21
          clear hd21 hc21 hcs21 hb21 HSUx HMx HBx HFU
          go_wp2_with fail
          refine (zeros_c 1 1 _ rfl (by omega)).mono ?_
          rintro e w22 ⟨rfl, b22⟩
          have HSU22 := Lib.hid (HSU21.out.below b22 (Nat.le_refl _)); have HD22 := Lib.hid (HD21.out.below b22 HD21.out.lt.1); have HB22 : Hid (Below w.heap.size w w22) := Lib.hid (HB21.out.trans (b22.mono HB21.out.size))
          have hwc := write_c s p g cap D1 0 (bst (List.replicate (64 * 1) 0)) w22 (hs.below HB22.out (Nat.le_refl _)) HD22.out (by rw [bst_size, List.length_replicate]; omega) (by omega)
          rw [show D1.write 0 (bst (List.replicate (64 * 1) 0)).data.toList = D1.write ((0 : Nat) : Int) zeroF from rfl, HR1.out] at hwc
          have HWC := Lib.hid hwc
          clear hwc b22 HSU21 HD21 HB21
          go_wp2_with fail
          refine (HWC.out).mono ?_
          rintro e w23 ⟨rfl, hd23, hc23⟩
          have hcs23 : ChgS (fun i => i = p ∨ i = g) w22 w23 := ChgS.of_chg hc23 (.inl rfl) (.inr rfl)
          have hb23 : Below w.heap.size w w23 := HB22.out.trans (hcs23.below (fun i hi => by omega) HB22.out.size)
          have HSU23 := Lib.hid (HSU22.out.kept hcs23 fun i hi => .inl (log2_logS hi))
          have HD23 := Lib.hid hd23; have HB23 := Lib.hid hb23
          clear hd23 hc23 hcs23 hb23 HSU22 HD22 HB22 HWC
          go_wp2_with fail
          refine (come_c p g cap D2 _ HD23.out).mono ?_
          rintro e w24 ⟨rfl, hd24, hc24⟩
          have hcs24 : ChgS (fun i => i = p ∨ i = g) w23 w24 := ChgS.of_chg hc24 (.inl rfl) (.inr rfl)
          have hb24 : Below w.heap.size w w24 := HB23.out.trans (hcs24.below (fun i hi => by omega) HB23.out.size)
          have HSU24 := Lib.hid (HSU23.out.kept hcs24 fun i hi => .inl (log2_logS hi))
          have hop := live_open s w p g cap D2.come 5 105 7 (2000 * k + 200 + 108 * j) rs 5 110 7 w24 hs hb24 hd24 hgp.1 rfl rfl rfl (by omega) (by omega) (by omega) r3 r4 (by omega) (by omega) HR2.out.follows
          have HOP := Lib.hid hop; have HB24 := Lib.hid hb24
          clear hop hd24 hc24 hcs24 hb24 HSU23 HD23 HB23 HR1
          go_wp2_with fail
          refine (HOP.out).mono ?_
          rintro e w25 ⟨q13, v13, d13, rfl, hl13, hc13, hq13, hv13, _, _, hb25⟩
          have hsu25 : SureAt w25 w.heap.size q13 p g u v13 rs := (HSU24.out.kept hc13 fun i hi => .inl (log2_logS hi)).moved (N := w24.heap.size) (fun i hi => (HSU24.out.own.lt i hi).2) hq13 hv13
          have HSU25 := Lib.hid hsu25; have HL25 := Lib.hid hl13; have HB25 := Lib.hid hb25
          clear hsu25 hl13 hc13 hv13 hb25 HSU24 HB24 HOP
          go_wp2_with fail
          refine (records_c w.heap.size q13 p g cap d13 5 105 7 v13 rs false _ HL25.out.mem).mono ?_
          rintro e w26 ⟨⟨v26, rfl, o26⟩, b26⟩
          have HSU26 := Lib.hid (HSU25.out.below b26 (Nat.le_refl _)); have HL26 := Lib.hid (HL25.out.below b26 (Nat.le_refl _)); have HB26 : Hid (Below w.heap.size w w26) := Lib.hid (HB25.out.trans (b26.mono HB25.out.size))
          have HR26 := Lib.hid (own_reads o26)
          clear o26 b26 HSU25 HL25 HB25
          go_wp2_with fail
          have hsame := same_c _ _ rs rs w26 HR26.out (own_reads HSU26.out.own) (by omega) (by omega)
          rw [decide_eq_true rfl] at hsame
          refine hsame.mono ?_
          rintro e w27 ⟨rfl, h27⟩
          have HN : Hid (HoRel w p g cap L (.pointer (some ⟨q13, 0, none⟩)) u (.int .i64 ((k : Int) + 1)) w27) := Lib.hid ⟨k + 1, q13, rs, u, v13, d13, rfl, rfl, ret_v (by omega), by omega, HSU26.out.same h27, (HL26.out.same h27).le (by omega), HB26.out.trans (h27.below _)⟩
          clear h27 hsame HSU26 HL26 HR26 HB26
          go_wp2_with fail
          go_roundw
          case rel => exact HN.out
          case measure => simp [intOf]; omega
end Go.Proofs.YtmfchjbpbfkgiaaDoor
