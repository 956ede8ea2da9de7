/- A log's methods where there is none, or the arguments are out of range; what records a row of blocks has. Conditions: the sentinels lie as the program's text lays them. -/
import Derived.Test.YtaibmdjcppeopaaGreatDoorLgV
import Derived.Test.YtaibmdjcppeopaaGreatDoorFrEx
import Derived.Test.YtaibmdjcppeopaaGreatDoorLgRd
namespace Go.Proofs.YtaibmdjcppeopaaGreatDoor
open Go Go.RowKit

/-- Some records follow. -/
theorem load_exists {l : List (List UInt8)} {b : Nat} : ∀ k (rs rest : List (List UInt8)), LoadAt l b rs rest → rest.length ≤ k → ∃ rs', Follows l b rs'
  | 0, rs, rest, h, hk => by
    obtain rfl : rest = [] := List.eq_nil_of_length_eq_zero (by omega)
    exact ⟨rs, h.fin (nextF_none readF_nil)⟩
  | k + 1, rs, rest, h, hk => by
    cases hn : nextF rest (b + rs.length) with
    | none => exact ⟨rs, h.fin hn⟩
    | some r =>
      obtain ⟨x, n⟩ := r
      obtain ⟨h1, h2, h3, _⟩ := h.step hn
      exact load_exists k _ _ h1 (by rw [List.length_drop]; omega)
theorem follows_exists (l : List (List UInt8)) (b : Nat) (hb : b ≤ 2147483647) : ∃ rs, Follows l b rs := load_exists l.length [] l (LoadAt.start hb) (Nat.le_refl _)

set_option maxHeartbeats 1600000 in
set_option maxRecDepth 100000 in
theorem nil_add (s : Nat → Addr) (T : ByteArray) (w : World) (hs : Sent s w) :
    Calls Tryz.prog 37 #[.pointer none, .string T] w fun e w' => e = .returned (errV s (1 + 1)) ∧ w = w' := by
  have gN := (sent_err s w hs).1
  go_enter Tryz.func37, Tryz.ntmps37
  go_wp2_with fail
  go_ret
  exact ⟨rfl, rfl⟩
set_option maxHeartbeats 1600000 in
set_option maxRecDepth 100000 in
theorem nil_reset (s : Nat → Addr) (x : Int) (w : World) (hs : Sent s w) :
    Calls Tryz.prog 53 #[.pointer none, .int .i64 x] w fun e w' => e = .returned (errV s (1 + 1)) ∧ w = w' := by
  have gN := (sent_err s w hs).1
  go_enter Tryz.func53, Tryz.ntmps53
  go_wp2_with fail
  go_ret
  exact ⟨rfl, rfl⟩
theorem nil_records (w : World) : Calls Tryz.prog 31 #[.pointer none] w fun e w' => e = .returned (.slice none 0 0) ∧ w = w' := by
  go_enter Tryz.func31, Tryz.ntmps31
  go_wp2_with fail
  go_ret
  exact ⟨rfl, rfl⟩
theorem nil_next (w : World) : Calls Tryz.prog 32 #[.pointer none] w fun e w' => e = .returned (.int .i64 0) ∧ w = w' := by
  go_enter Tryz.func32, Tryz.ntmps32
  go_wp2_with fail
  go_ret
  exact ⟨rfl, rfl⟩
theorem nil_room (w : World) : Calls Tryz.prog 54 #[.pointer none] w fun e w' => e = .returned (.int .i64 0) ∧ w = w' := by
  go_enter Tryz.func54, Tryz.ntmps54
  go_wp2_with fail
  go_ret
  exact ⟨rfl, rfl⟩
set_option maxHeartbeats 1600000 in
set_option maxRecDepth 100000 in
theorem nil_open (s : Nat → Addr) (x y z : Int) (w : World) (hs : Sent s w) :
    Calls Tryz.prog 27 #[.pointer none, .int .i64 x, .int .i64 y, .int .i64 z] w fun e w' => e = .returned (.tuple #[.pointer none, errV s (1 + 1)]) ∧ Same w w' := by
  have gN := (sent_err s w hs).1
  go_enter Tryz.func27, Tryz.ntmps27
  go_wp2_with fail
  go_region
  all_goals go_wp2_with fail
  all_goals go_ret2
  all_goals exact ⟨rfl, ⟨rfl, rfl, rfl, rfl, fun _ => rfl⟩⟩

set_option maxHeartbeats 1600000 in
set_option maxRecDepth 100000 in
/-- Open, arguments out of range. -/
theorem open_bad (s : Nat → Addr) (p g cap : Nat) (d : DS) (x y z : Int) (w : World) (hs : Sent s w) (h : DiskAt w p g cap d) (hbad : x < 0 ∨ y ≤ x ∨ (d.n : Int) < y ∨ z < 0 ∨ 1073741824 < z) :
    Calls Tryz.prog 27 #[.pointer (some ⟨p, 0, none⟩), .int .i64 x, .int .i64 y, .int .i64 z] w fun e w' => e = .returned (.tuple #[.pointer none, errV s (0 + 1)]) ∧ Same w w' := by
  have gA := (sent_err s w hs).2.1
  have HLEN := Lib.hid (len_c p g cap d w h)
  have HIS := Lib.hid (isBase_c z w)
  clear h hs
  by_cases h1 : x < 0
  · clear hbad
    go_enter Tryz.func27, Tryz.ntmps27
    go_wp2_with fail
    go_region
    all_goals go_wp2_with fail
    all_goals go_ret2
    all_goals exact ⟨rfl, ⟨rfl, rfl, rfl, rfl, fun _ => rfl⟩⟩
  by_cases h2 : y ≤ x
  · clear hbad
    go_enter Tryz.func27, Tryz.ntmps27
    go_wp2_with fail
    go_region
    all_goals go_wp2_with fail
    all_goals go_ret2
    all_goals exact ⟨rfl, ⟨rfl, rfl, rfl, rfl, fun _ => rfl⟩⟩
  by_cases h3 : (d.n : Int) < y
  · clear hbad
    go_enter Tryz.func27, Tryz.ntmps27
    go_wp2_with fail
    refine (HLEN.out).mono ?_
    rintro e w1 ⟨rfl, rfl⟩
    go_wp2_with fail
    go_region
    all_goals go_wp2_with fail
    all_goals go_ret2
    all_goals exact ⟨rfl, ⟨rfl, rfl, rfl, rfl, fun _ => rfl⟩⟩
  have hz : z < 0 ∨ 1073741824 < z := by omega
  have e1 : (decide ((0 : Int) ≤ z) && decide (z ≤ 1073741824)) = false := by
    rw [Bool.and_eq_false_iff, decide_eq_false_iff_not, decide_eq_false_iff_not]; omega
  have HIS2 := HIS.out
  simp only [e1] at HIS2
  have HI3 := Lib.hid HIS2
  clear hbad hz e1 HIS HIS2
  go_enter Tryz.func27, Tryz.ntmps27
  go_wp2_with fail
  refine (HLEN.out).mono ?_
  rintro e w1 ⟨rfl, rfl⟩
  go_wp2_with fail
  refine (HI3.out).mono ?_
  rintro e w1 ⟨rfl, rfl⟩
  go_wp2_with fail
  go_region
  all_goals go_wp2_with fail
  all_goals go_ret2
  all_goals exact ⟨rfl, ⟨rfl, rfl, rfl, rfl, fun _ => rfl⟩⟩
end Go.Proofs.YtaibmdjcppeopaaGreatDoor

/- The reference's blocks of a text and its records. Conditions: what each contract asks of lengths. -/
namespace Go.Proofs.YtaibmdjcppeopaaGreatDoor
open Go Go.RowKit

theorem partsF_app {l : List UInt8} {j : Nat} (h : 64 * (j + 1) ≤ l.length) : (partsF l).take (j + 1) = (partsF l).take j ++ [(l.drop (64 * j)).take 64] := by
  have hj : j < (partsF l).length := by rw [partsF_len]; omega
  rw [List.take_add_one, List.getElem?_eq_getElem hj]
  simp [partsF]

/-- What a round of Parts begins with. -/
def PtRel (w : World) (l : List UInt8) (v i : Value) (wr : World) : Prop :=
  ∃ (j : Nat) (u : Value), u = v ∧ i = .int .i64 ((64 * j : Nat) : Int) ∧ 64 * j ≤ l.length ∧ wr.ownsRow w.heap.size 9 1 u j (strVs ((partsF l).take j)) ∧ u ≠ .slice none 0 0 ∧ Below w.heap.size w wr

set_option maxHeartbeats 3200000 in
set_option maxRecDepth 100000 in
theorem rparts_c (T : ByteArray) (w : World) (hT : T.size ≤ 100000) :
    Calls Tryz.prog 6 #[.string T] w fun e w' => (∃ g c, e = .returned (.slice (some ⟨g, 0, none⟩) (T.size / 64) c) ∧ w'.ownsRow w.heap.size 9 1 (.slice (some ⟨g, 0, none⟩) (T.size / 64) c) (T.size / 64) (strVs (partsF T.data.toList))) ∧ Below w.heap.size w w' := by
  have hmade : (w.alloc (.cells #[] 9)).ownsRow w.heap.size 9 1 (.slice (some ⟨w.heap.size, 0, none⟩) 0 0) 0 [] := World.ownsRow_made w #[] 0 (Nat.le_refl _) (by unfold maxLen; omega) rfl
  have HST : Hid (PtRel w T.data.toList (.slice (some ⟨w.heap.size, 0, none⟩) 0 0) (.int .i64 0) (w.alloc (.cells #[] 9))) := Lib.hid ⟨0, _, rfl, rfl, by omega, by simpa [strVs] using hmade, by simp, (Below.refl _ _).alloc (Nat.le_refl _) _⟩
  have hsl := size_len T
  clear hmade
  go_enter Tryz.func6, Tryz.ntmps6
  go_wp2_with fail
  go_loopw [3, 4] (fun v i wr => PtRel w T.data.toList v i wr) (fun _ i _ => T.size - (intOf i).toNat)
  case atStart => exact HST.out
  case round =>
    obtain ⟨j, u, rfl, rfl, hj, hown, hne, hb⟩ := hrel
    clear HST
    rw [hsl] at hj
    by_cases hgo : 64 * j + 64 ≤ T.size
    · have hle : ((64 * j : Nat) : Int) + 64 ≤ (T.size : Int) := by omega
      have hcut := fun W => run_cut T ((64 * j : Nat) : Int) (((64 * j : Nat) : Int) + 64) (64 * j) (64 * j + 64) W rfl (by omega) (by omega) hgo
      obtain ⟨X, hX⟩ : ∃ X, T.extract (64 * j) (64 * j + 64) = X := ⟨_, rfl⟩
      have hXl : X.data.toList = (T.data.toList.drop (64 * j)).take 64 := by rw [← hX, cut_list, show 64 * j + 64 - 64 * j = 64 by omega]
      rw [hX] at hcut
      have hpa := partsF_app (l := T.data.toList) (j := j) (by rw [hsl]; omega)
      have HPA := Lib.hid hpa; have HXL := Lib.hid hXl
      have HO : Hid (∀ o : Obj, (wr.alloc o).ownsRow w.heap.size 9 1 u j (strVs ((partsF T.data.toList).take j))) := Lib.hid fun o => hown.alloc o
      have HB := Lib.hid hb
      have hszw := hb.size
      obtain ⟨J, hJ⟩ : ∃ J : Int, ((64 * j : Nat) : Int) = J := ⟨_, rfl⟩
      rw [hJ] at hcut hle ⊢
      have hJ2 : IntKind.i64.wrap (J + 64) = J + 64 := IntWalk.i64_in _ (by omega)
      have hJb : 0 ≤ J ∧ J ≤ 100000 := by omega
      have HJ := Lib.hid hJ
      obtain ⟨ti, hti, hz0, hz1, hz2⟩ := Tryz.infoSt
      clear hX hXl hpa hown hb hJ
      go_wp2_with (at_builtin; refine wpList_append_own_at _ rfl _ _ 22 rfl w.heap.size 9 ti _ 1 16 Tryz.underlying22 hti hz0 hz1 hz2 rfl (by decide) _ j (strVs ((partsF T.data.toList).take j)) rfl (HO.out _) ⟨_, 0, none⟩ 1 1 [.string X] rfl rfl ?c1 ?c2 ?c3 ?c4 ?c5 ?_)
      case c1 => exact cell_one_new _ _ _
      case c2 => first | rfl | (intro u hu; simp at hu; subst hu; rfl)
      case c3 => unfold maxLen; omega
      case c4 => omega
      case c5 => first | omega | (rw [World.size_alloc]; omega)
      intro u' w5 o5 g5 hnil _
      have HN : Hid (PtRel w T.data.toList u' (.int .i64 (J + 64)) w5) := Lib.hid (by
        have hT2 : Value.string X = .string (bst ((T.data.toList.drop (64 * j)).take 64)) := by rw [← HXL.out, ← bst_of]
        have hu := (HO.out (.cells #[.string X] 9)).lt
        have hc5 : ChgS (fun i => u.ownBlock = some i) wr w5 := ((ChgS.refl _ wr).alloc _).grown g5 fun i hi => .inl hi
        refine ⟨j + 1, u', rfl, ret_v (by have := HJ.out; omega), by rw [size_len]; omega, ?_, fun h => ?_, HB.out.trans (hc5.below (fun i hi => (hu i hi).1) hszw)⟩
        · rw [HPA.out]
          rw [hT2] at o5
          unfold strVs at o5 ⊢
          rw [List.map_append]
          exact o5
        · first | exact hnil h | (have := hnil.1 h; simp at this))
      clear o5 g5 hnil HO HB
      go_wp2_with fail
      go_roundw
      case rel => exact HN.out
      case measure => have := HJ.out; simp [intOf]; omega
    · have hj64 : j = T.size / 64 := by omega
      have hle : ¬ ((64 * j : Nat) : Int) + 64 ≤ (T.size : Int) := by omega
      have hall : (partsF T.data.toList).take j = partsF T.data.toList := List.take_of_length_le (by rw [partsF_len, hsl]; omega)
      rw [hall] at hown
      subst hj64
      obtain ⟨g, c, hu⟩ : ∃ g c, u = .slice (some ⟨g, 0, none⟩) (T.size / 64) c := by
        rcases hown.2 with ⟨h1, _⟩ | ⟨g, c, _, h1, _⟩
        · exact absurd h1 hne
        · exact ⟨g, c, h1⟩
      subst hu
      have HO := Lib.hid hown; have HB := Lib.hid hb
      clear hown hb hall hne
      go_wp2_with fail
      go_ret
      exact ⟨⟨g, c, rfl, HO.out⟩, HB.out⟩

/-- What a round of the reading begins with. -/
def RdRel (w : World) (F : List (List UInt8)) (b : Nat) (v i : Value) (wr : World) : Prop :=
  ∃ (rs rest : List (List UInt8)) (u : Value), u = v ∧ i = .int .i64 ((layR b rs).length : Int) ∧ LoadAt F b rs rest ∧ wr.ownsRow w.heap.size 9 1 u rs.length (strVs rs) ∧ u ≠ .slice none 0 0 ∧ Below w.heap.size w wr
theorem SRow.cutD {w : World} {B gb o n c : Nat} {zs : List ByteArray} (h : SRow w B (some ⟨gb, o, none⟩) zs) (hn : n ≤ zs.length) (hc : zs.length ≤ c) : SRow w B (if c = n then some ⟨gb, o, none⟩ else some ⟨gb, o + n, none⟩) (zs.drop n) := by
  by_cases hcn : c = n
  · have h0 : (zs.drop n).length = 0 := by rw [List.length_drop]; omega
    rw [List.eq_nil_of_length_eq_zero h0]
    exact fun h => absurd h (Nat.lt_irrefl 0)
  · rw [if_neg hcn]; exact h.at_end hn

set_option maxHeartbeats 6400000 in
set_option maxRecDepth 100000 in
/-- The reference's records of a row of blocks. -/
theorem rlog_c (gb o c : Nat) (F : List (List UInt8)) (b : Nat) (x : Int) (w : World) (hx : x = (b : Int)) (hb : b ≤ 2147483647) (h : SRow w w.heap.size (some ⟨gb, o, none⟩) (F.map bst)) (hF : F.length ≤ 5000) (hc : F.length ≤ c) :
    Calls Tryz.prog 30 #[.slice (some ⟨gb, o, none⟩) F.length c, .int .i64 x] w fun e w' => (∃ rs u, e = .returned (.tuple #[u, .int .i64 ((layR b rs).length : Int)]) ∧ Follows F b rs ∧ w'.ownsRow w.heap.size 9 1 u rs.length (strVs rs) ∧ u ≠ .slice none 0 0) ∧ Below w.heap.size w w' := by
  subst hx
  have hmade : (w.alloc (.cells #[] 9)).ownsRow w.heap.size 9 1 (.slice (some ⟨w.heap.size, 0, none⟩) 0 0) 0 [] := World.ownsRow_made w #[] 0 (Nat.le_refl _) (by unfold maxLen; omega) rfl
  have HST : Hid (RdRel w F b (.slice (some ⟨w.heap.size, 0, none⟩) 0 0) (.int .i64 0) (w.alloc (.cells #[] 9))) := Lib.hid ⟨[], F, _, rfl, rfl, LoadAt.start (by omega), hmade, by simp, (Below.refl _ _).alloc (Nat.le_refl _) _⟩
  have HR := Lib.hid h
  clear hmade h
  go_enter Tryz.func30, Tryz.ntmps30
  go_wp2_with fail
  go_loopw [6, 7] (fun v i wr => RdRel w F b v i wr) (fun _ i _ => F.length - (intOf i).toNat)
  case atStart => exact HST.out
  case round =>
    obtain ⟨rs, rest, u, rfl, rfl, hla, hown, hne, hbw⟩ := hrel
    clear HST
    have hlast := hla.last
    have hge := layR_ge b rs
    obtain ⟨U, hU⟩ : ∃ U, (layR b rs).length = U := ⟨_, rfl⟩
    rw [hU] at hlast hge ⊢
    by_cases hUF : U < F.length
    · have hUi : (U : Int) < (F.length : Int) := by omega
      have hUi0 : (0 : Int) ≤ (U : Int) := by omega
      have hUi1 : (U : Int) ≤ (F.length : Int) := by omega
      have hs1 := (HR.out.below hbw (Nat.le_refl _)).at_end (n := U) (by rw [List.length_map]; omega)
      rw [← List.map_drop] at hs1
      have hrest : F.drop U = rest := by rw [hla.rest, hU]
      rw [hrest] at hs1
      have hrd := rread_c w.heap.size (c - U) (some ⟨gb, o + U, none⟩) (rest.map bst) wr (by rw [List.length_map]; omega) hs1 hbw.size
      rw [rows_bst, List.length_map] at hrd
      have hrl : F.length - U = rest.length := by omega
      have HU := Lib.hid hU
      obtain ⟨Au, cu, rfl⟩ := own_form hown
      cases hres : readF rest with
      | error k =>
        have hfol := hla.fin (nextF_none (b := b + rs.length) hres)
        rw [hres] at hrd
        have HRD := Lib.hid hrd; have HO := Lib.hid hown; have HB := Lib.hid hbw; have HFO := Lib.hid hfol
        have hk0 : (0 : Int) ≤ (k : Int) := by omega
        clear hrd hown hbw hfol hla hs1 hres hrest hU
        go_wp2_with fail
        refine (HRD.out).mono ?_
        rintro e w3 ⟨he, b3⟩
        have he : e = _ := he
        subst he
        have HO3 := Lib.hid (own_same HO.out fun i hi => b3.block i (HO.out.lt i hi).2)
        have HB3 : Hid (Below w.heap.size w w3) := Lib.hid (HB.out.trans (b3.mono HB.out.size))
        clear b3 HO HB
        go_wp2_with fail
        go_ret2
        exact ⟨⟨rs, _, by rw [HU.out]; rfl, HFO.out, HO3.out, hne⟩, HB3.out⟩
      | ok r =>
        obtain ⟨x, qs, n⟩ := r
        rw [hres] at hrd
        have HRD := Lib.hid hrd; have HO := Lib.hid hown; have HB := Lib.hid hbw
        by_cases hq : qs = b + rs.length + 1
        · have hn := nextF_this (b := b + rs.length) hres hq
          obtain ⟨t1, t2, t3, t4, t5, t6⟩ := hla.step hn
          have HT1 := Lib.hid t1
          have hqi : ((qs : Int) != (b : Int) + (rs.length : Int) + 1) = false := by rw [bne_eq_false_iff_eq]; omega
          have HQ := Lib.hid hq
          rw [hU] at t4
          have HT4 := Lib.hid t4
          clear hrd hown hbw hla hs1 hres hrest hU hn t1 hq t4
          go_wp2_with fail
          refine (HRD.out).mono ?_
          rintro e w3 ⟨he, b3⟩
          have he : e = _ := he
          subst he
          have HO3 : Hid (∀ oo : Obj, (w3.alloc oo).ownsRow w.heap.size 9 1 (.slice Au rs.length cu) rs.length (strVs rs)) := Lib.hid fun oo => (own_same HO.out fun i hi => b3.block i (HO.out.lt i hi).2).alloc oo
          have HB3 : Hid (Below w.heap.size w w3) := Lib.hid (HB.out.trans (b3.mono HB.out.size))
          have hsz3 := HB3.out.size
          obtain ⟨ti, hti, hz0, hz1, hz2⟩ := Tryz.infoSt
          clear b3 HO HB
          go_wp2_with (at_builtin; refine wpList_append_own_at _ rfl _ _ 22 rfl w.heap.size 9 ti _ 1 16 Tryz.underlying22 hti hz0 hz1 hz2 rfl (by decide) _ rs.length (strVs rs) rfl (HO3.out _) ⟨_, 0, none⟩ 1 1 [.string (bst x)] rfl rfl ?c1 ?c2 ?c3 ?c4 ?c5 ?_)
          case c1 => exact cell_one_new _ _ _
          case c2 => first | rfl | (intro u hu; simp at hu; subst hu; rfl)
          case c3 => unfold maxLen; omega
          case c4 => omega
          case c5 => first | omega | (rw [World.size_alloc]; omega)
          intro u' w5 o5 g5 hnil _
          have HN : Hid (RdRel w F b u' (.int .i64 ((U : Int) + (n : Int))) w5) := Lib.hid (by
            have hu := (HO3.out (.cells #[.string (bst x)] 9)).lt
            have hc5 : ChgS (fun i => Value.ownBlock (.slice Au rs.length cu) = some i) w3 w5 := ((ChgS.refl _ w3).alloc _).grown g5 fun i hi => .inl hi
            refine ⟨rs ++ [x], _, u', rfl, ret_v (by have := HT4.out; omega), HT1.out, ?_, fun h => ?_, HB3.out.trans (hc5.below (fun i hi => (hu i hi).1) hsz3)⟩
            · rw [List.length_append, List.length_singleton]
              unfold strVs at o5 ⊢
              rw [List.map_append]
              exact o5
            · first | exact hnil h | (have := hnil.1 h; simp at this))
          clear o5 g5 hnil HO3 HB3
          go_wp2_with fail
          go_roundw
          case rel => exact HN.out
          case measure => simp [intOf]; omega
        · have hn := nextF_other (b := b + rs.length) hres hq
          have hfol := hla.fin hn
          have hqi : ((qs : Int) != (b : Int) + (rs.length : Int) + 1) = true := by rw [bne_iff_ne]; omega
          have HFO := Lib.hid hfol
          clear hrd hown hbw hla hs1 hres hrest hU hn hfol
          go_wp2_with fail
          refine (HRD.out).mono ?_
          rintro e w3 ⟨he, b3⟩
          have he : e = _ := he
          subst he
          have HO3 := Lib.hid (own_same HO.out fun i hi => b3.block i (HO.out.lt i hi).2)
          have HB3 : Hid (Below w.heap.size w w3) := Lib.hid (HB.out.trans (b3.mono HB.out.size))
          clear b3 HO HB
          go_wp2_with fail
          go_ret2
          exact ⟨⟨rs, _, by rw [HU.out]; rfl, HFO.out, HO3.out, hne⟩, HB3.out⟩
    · have hge2 : ¬ (U : Int) < (F.length : Int) := by omega
      have h0 : rest = [] := List.eq_nil_of_length_eq_zero (by omega)
      have hfol := hla.fin (by rw [h0]; exact nextF_none readF_nil)
      have HFO := Lib.hid hfol; have HO := Lib.hid hown; have HB := Lib.hid hbw; have HU := Lib.hid hU
      clear hla hown hbw hfol h0 hU
      go_wp2_with fail
      go_ret2
      exact ⟨⟨rs, _, by rw [HU.out]; rfl, HFO.out, HO.out, hne⟩, HB.out⟩
end Go.Proofs.YtaibmdjcppeopaaGreatDoor
