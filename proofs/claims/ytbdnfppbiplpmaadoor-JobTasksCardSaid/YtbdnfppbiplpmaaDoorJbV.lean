/- The walk of the law JobTasks: whatever the deeds, it returns true. Condition: the sentinels lie as the program's text lays them. -/
import Derived.Test.YtbdnfppbiplpmaaDoorJbVe
import Derived.Test.YtbdnfppbiplpmaaDoorRgC
import Derived.Deep.DeepCutAuto
import Derived.Deep.CutBlock
import Derived.Deep.RegionHeld3
import Derived.Deep.QuietTactic
import Derived.StillTailTactics
namespace Go.Proofs.YtbdnfppbiplpmaaDoor
open Go Go.RowKit Go.Maps Go.Sort

set_option maxHeartbeats 6400000 in
set_option maxRecDepth 100000 in
theorem jtasks_any (s : Nat → Addr) (A : Option Addr) (c : Nat) (X : List AcJ) (w : World) (hs : Sent s w) (hr : ReadsE encAcJ w A X) (hX : ∀ x ∈ X, GoodAcJ x) (hll : X.length ≤ 9223372036854775807) :
    Calls Tryd.prog 5 #[.slice A X.length c] w fun e w' => e = .returned (.bool true) ∧ Below w.heap.size w w' := by
  have HS := Lib.hid hs
  have HX := Lib.hid hX
  have HR : Hid (∀ W, Below w.heap.size w W → ReadsE encAcJ W A X) := Lib.hid fun W hb => hr.on hb
  clear hs hr hX
  go_enter Tryd.func5, Tryd.ntmps5
  go_wp2_with fail
  refine (awake18_c s w HS.out).mono ?_
  rintro e w0 ⟨rfl, b0⟩
  have HB0 := Lib.hid b0
  clear b0
  go_wp2_with fail
  refine (jx_new HB0.out).mono ?_
  rintro e w1 ⟨q, rfl, h1⟩
  have H2 := Lib.hid h1
  clear h1 HB0
  go_upto_block 0 with fail
  go_cut [] (fun wx => ∃ L : List JE, JX w wx q L (fun _ => True) ∧ TI L)
  case first =>
    go_wp2_with fail
    go_loopw [4] (fun v wr => ∃ (i : Nat) (L : List JE), i ≤ 60 ∧ v = .int .i64 (i : Int) ∧ TI L ∧ JX w wr q L (fun _ => True)) (fun v _ => 60 - natJ v)
    case atStart => exact ⟨0, [], by omega, rfl, TI.nil, H2.out⟩
    case round =>
      obtain ⟨i, L, hi60, rfl, hT, hK⟩ := hrel
      have HK := Lib.hid hK
      have HT := Lib.hid hT
      clear hK hT H2
      by_cases hlt : i < X.length ∧ i < 60
      · obtain ⟨h1, h2⟩ := hlt
        obtain ⟨x, hx⟩ : ∃ x, X[i]? = some x := ⟨_, List.getElem?_eq_getElem h1⟩
        have hi0 : (0 : Int) ≤ (i : Int) := by omega
        have hi1 : (i : Int) < (X.length : Int) := by omega
        have hd1 : decide ((i : Int) < (X.length : Int)) = true := decide_eq_true hi1
        have hd2 : decide ((i : Int) < 60) = true := decide_eq_true (by omega)
        have hw1 : wrap64 ((i : Int) + 1) = ((i + 1 : Nat) : Int) := by unfold wrap64; omega
        have HXX := Lib.hid hx
        clear hx
        go_upto_block 1 with fail
        refine wp_blk (bodyOf Tryd.f5 1) (by kernel_rfl) ?_
        refine tasks_round _ _ _ _ _ _ _ _ _ _ _ _ _ _ _ _ _ _ _ _ _ _ _ _ _ _ _ _ _ _ _ _ _ _ _ _ _ _ _ _ _ _ _ _ _ _ _ _ _ _ _ _ _ _ _ _ _ _ _ _ _ _ _ _ _ _ _ _ _ _ _ _ _ _ _ _ _ _ _ _ _ _ _ _ _ _ _ _ _ _ _ _ _ _ _ _ _ _ _ _ _ _ _ _ _ _ _ _ _ _ _ _ _ _ _ _ _ _ _ _ _ _ _ _ _ _ _ _ _ _ _ _ _ _ _ _ _ _ _ _ _ _ _ _ _ _ _ _ _ _ _ _ _ _ _ _ _ _ _ _ _ _ _ _ _ _ _ _ _ _ _ _ _ _ _ s A c i X w q L x _ wr HS.out (HR.out _ HK.out.below) HK.out HXX.out (HX.out x (List.mem_of_getElem? HXX.out)) HT.out ?_
        intro _ _ _ _ _ _ _ _ _ _ _ _ _ _ _ _ _ _ _ _ _ _ _ _ _ _ _ _ _ _ _ _ _ _ _ _ _ _ _ w6 L' k1 t1
        have K1 := Lib.hid k1
        have T1 := Lib.hid t1
        clear k1 t1 hd1 hd2
        go_wp2_with fail
        go_roundw
        case rel => exact ⟨i + 1, L', by omega, by first | (rw [← hw1]; done) | (rw [← hw1]; first | rfl | (congr 1; omega)), T1.out, K1.out⟩
        case measure => simp [natJ] <;> omega
      · have hdd : ¬ ((i : Int) < (X.length : Int)) ∨ ((i : Int) < (X.length : Int) ∧ ¬ (i : Int) < 60) := by omega
        clear hlt
        rcases hdd with hd | ⟨hd, hd60⟩
        · have hd1 : decide ((i : Int) < (X.length : Int)) = false := decide_eq_false hd
          go_wp2_with fail
          go_meet
          exact ⟨L, HK.out, HT.out⟩
        · have hd1 : decide ((i : Int) < (X.length : Int)) = true := decide_eq_true hd
          have hd2 : decide ((i : Int) < 60) = false := decide_eq_false hd60
          go_wp2_with fail
          go_meet
          exact ⟨L, HK.out, HT.out⟩
  case rest =>
    obtain ⟨L, hK, hT⟩ := hcut
    have HK := Lib.hid hK
    have HG := Lib.hid hK.good
    have hall := tasks_all (fun e he => (hK.good.good e he).2.2) hT
    have HALL := Lib.hid hall
    clear hK hT hall H2
    go_wp2_with fail
    refine HK.out.jobs_c.mono ?_
    rintro e w3 ⟨A3, c3, rfl, k3⟩
    obtain ⟨N, hN⟩ : ∃ N, L.length = N := ⟨_, rfl⟩
    rw [hN]
    have HN := Lib.hid hN
    have HR3 := Lib.hid (own_reads k3.has.2)
    have HK3 : Hid (JX w w3 q L (fun _ => True)) := Lib.hid (k3.drop fun _ _ => trivial)
    clear hN k3 HK
    go_upto_block 3 with fail
    refine wp_blk (bodyOf Tryd.f5 3) (by kernel_rfl) ?_
    refine tasks_jobs _ _ _ _ _ _ _ _ _ _ _ _ _ _ _ _ _ _ _ _ _ _ _ _ _ _ _ _ _ _ _ _ _ _ _ _ _ _ _ _ _ _ _ _ _ _ _ _ _ _ _ _ _ _ _ _ _ _ _ _ _ _ _ _ _ _ _ _ _ _ _ _ _ _ _ _ _ _ _ _ _ _ _ _ _ _ _ _ _ _ _ _ _ _ _ _ _ _ _ _ _ _ _ _ _ _ _ _ _ _ _ _ _ _ _ _ _ _ _ _ _ _ _ _ _ _ _ _ _ _ _ _ _ _ _ _ _ _ _ _ _ _ _ _ _ _ _ _ _ _ _ _ _ _ _ _ _ _ _ _ _ _ _ _ _ _ _ _ _ _ _ _ _ _ _ A3 N c3 L _ w3 HG.out HR3.out HN.out ?_
    intro _ _ _ _ _ _ _ _ _ _ _ _ _ _ _ _ _ _ _ _ _ _ _ _ _ _ _ _ _ _ _ w4 b4
    have HK4 := Lib.hid (HK3.out.on b4)
    clear b4 HK3 HR3
    go_wp2_with fail
    refine HK4.out.waiting_c.mono ?_
    rintro e w5 ⟨A5, c5, rfl, k5⟩
    obtain ⟨M, hM⟩ : ∃ M, M = tasksJ selW L := ⟨_, rfl⟩
    obtain ⟨n, hn⟩ : ∃ n, M.length = n := ⟨_, rfl⟩
    rw [← hM, hn] at k5 ⊢
    have hn256 : n ≤ 256 := by
      rw [← hn, hM]
      have h1 := tasksJ_len selW (L := L) fun e he => (HG.out.len he).2
      have h2 := HG.out.few
      omega
    have hsum : (n : Int) + sumP 21 L = allT L := by rw [← hn, hM]; exact HALL.out
    have HM := Lib.hid hM; have HMN := Lib.hid hn; have HSUM := Lib.hid hsum; have HN256 := Lib.hid hn256
    have HK5 := Lib.hid (k5.drop (K' := fun W => OwnE encTk 32 W w4.heap.size (.slice A5 n c5) M) fun _ h => h.2)
    clear hM hn hsum hn256 k5 HK4
    go_upto_block 5 with fail
    refine wp_blk (bodyOf Tryd.f5 5) (by kernel_rfl) ?_
    refine tasks_wait _ _ _ _ _ _ _ _ _ _ _ _ _ _ _ _ _ _ _ _ _ _ _ _ _ _ _ _ _ _ _ _ _ _ _ _ _ _ _ _ _ _ _ _ _ _ _ _ _ _ _ _ _ _ _ _ _ _ _ _ _ _ _ _ _ _ _ _ _ _ _ _ _ _ _ _ _ _ _ _ _ _ _ _ _ _ _ _ _ _ _ _ _ _ _ _ _ _ _ _ _ _ _ _ _ _ _ _ _ _ _ _ _ _ _ _ _ _ _ _ _ _ _ _ _ _ _ _ _ _ _ _ _ _ _ _ _ _ _ _ _ _ _ _ _ _ _ _ _ _ _ _ _ _ _ _ _ _ _ _ _ _ _ _ _ _ _ _ _ _ _ _ _ _ _ s w q w4.heap.size n c5 A5 L M _ w5 HS.out HK5.out HM.out HMN.out ?_
    intro _ _ _ _ _ _ _ _ _ _ _ _ _ _ _ w6 k6
    have HK6 : Hid (JX w w6 q L (fun _ => True)) := Lib.hid (k6.drop fun _ _ => trivial)
    clear k6 HK5
    go_upto_block 7 with fail
    refine wp_blk (bodyOf Tryd.f5 7) (by kernel_rfl) ?_
    refine tasks_places _ _ _ _ _ _ _ _ _ _ _ _ _ _ _ _ _ _ _ _ _ _ _ _ _ _ _ _ _ _ _ _ _ _ _ _ _ _ _ _ _ _ _ _ _ _ _ _ _ _ _ _ _ _ _ _ _ _ _ _ _ _ _ _ _ _ _ _ _ _ _ _ _ _ _ _ _ _ _ _ _ _ _ _ _ _ _ _ _ _ _ _ _ _ _ _ _ _ _ _ _ _ _ _ _ _ _ _ _ _ _ _ _ _ _ _ _ _ _ _ _ _ _ _ _ _ _ _ _ _ _ _ _ _ _ _ _ _ _ _ _ _ _ _ _ _ _ _ _ _ _ _ _ _ _ _ _ _ _ _ _ _ _ _ _ _ _ _ _ _ _ _ _ _ _ s w q n L _ w6 HS.out HK6.out HN256.out ?_
    intro _ _ _ _ _ _ _ _ _ _ _ _ _ _ _ _ _ _ _ _ _ _ _ _ _ _ _ _ _ _ _ _ _ _ _ _ _ _ _ _ _ _ _ _ _ _ _ _ _ _ _ _ _ _ _ _ _ _ _ w7 k7
    have HK7 := Lib.hid k7
    clear k7 HK6
    rw [HSUM.out]
    have i1000 : i64 1000 := by unfold i64; omega
    have hno : whereJ L ⟨1000, 0⟩ = -1 := by
      unfold whereJ
      have : findJ L (⟨1000, 0⟩ : Tk).job = none := findJ_none.2 fun e he h => by
        have := (goodJ_nums (HG.out.good e he).1).1
        simp only at h; omega
      rw [this]
    have hcw := HK7.out.where_c HS.out (t := ⟨1000, 0⟩) i1000
    rw [hno] at hcw
    have HCW := Lib.hid hcw
    clear hno hcw
    go_wp2_with fail
    refine HCW.out.mono ?_
    rintro e w8 ⟨rfl, k8⟩
    have HB8 := Lib.hid k8.below
    clear k8
    go_wp2_with fail
    go_ret
    exact ⟨rfl, HB8.out⟩
end Go.Proofs.YtbdnfppbiplpmaaDoor
