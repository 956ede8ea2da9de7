/- The contracts of the document's answer for layer 8: Path, Below, Add, Drop. Condition: it lies in memory and has the tenants of a tree. -/
import Derived.Test.YtaibmdjcppeopaaDoorKnS
namespace Go.Proofs.YtaibmdjcppeopaaDoor
open Go Go.RowKit Go.Maps Go.Sort

/-- A row of the call's own that is not nil. -/
theorem IOwn.full {w : World} {base : Nat} {v : Value} {L : List Int} (h : IOwn w base v L) (hn : v ≠ .slice none 0 0) : ∃ g cap, v = .slice (some ⟨g, 0, none⟩) L.length cap := by
  rcases h.shape with ⟨e, _⟩ | ⟨g, c, e, _⟩
  · exact absurd e hn
  · exact ⟨g, c, e⟩

set_option maxHeartbeats 1600000 in
set_option maxRecDepth 100000 in
theorem rpath_c (o : Nat) (T : Kin) (x : Int) (w : World) (h : GrAt w o (refF T)) (g : Good T) (hf : T.length ≤ 16) :
    Calls Tryd.prog 15 #[.pointer (some ⟨o, 0, none⟩), .int .i64 x] w fun e w' => ∃ v, e = .returned v ∧ IOwn w' w.heap.size v (way T x) ∧ Below w.heap.size w w' := by
  obtain ⟨i0, hi, hz0, hz1, hz2⟩ := info_parts Tryd.infoI
  have HG := Lib.hid h
  have HST : Hid (IOwn (w.alloc (.cells #[] 3)) w.heap.size (.slice (some ⟨w.heap.size, 0, none⟩) 0 0) []) := Lib.hid (lit0_own w w.heap.size (Nat.le_refl _))
  clear h
  go_enter Tryd.func15, Tryd.ntmps15
  go_wp2_with fail
  go_loopw [1, 5] (fun I V wr => ∃ (y : Int) (gb cap : Nat) (ss : List Int), I = .int .i64 y ∧ V = .slice (some ⟨gb, 0, none⟩) ss.length cap ∧ way T x = way T y ++ ss ∧ IOwn wr w.heap.size (.slice (some ⟨gb, 0, none⟩) ss.length cap) ss ∧ Below w.heap.size w wr) (fun I _ _ => (way T (intOf I)).length)
  case atStart => exact ⟨x, _, 0, [], rfl, rfl, by simp, HST.out, (Below.refl _ _).alloc (Nat.le_refl _) _⟩
  case round =>
    obtain ⟨y, gb, cap, ss, rfl, rfl, hw, hown, hb⟩ := hrel
    clear HST
    have ci := ris_c o T y wr (HG.out.on hb) g
    have hlen : (way T y).length + ss.length ≤ 16 := by
      have := way_few T x hf
      rw [hw] at this
      simpa using this
    cases hu : up T y with
    | none =>
      rw [hu] at ci
      have HW : Hid (way T x = ss) := Lib.hid (by rw [hw, way_none hu, List.nil_append])
      have HO := Lib.hid hown; have HB := Lib.hid hb
      clear hw hu hown hb hlen
      go_wp2_with (go_at_call 14; refine ci.mono ?_; rintro e wr ⟨rfl, rfl⟩)
      go_ret
      exact ⟨_, rfl, by rw [HW.out]; exact HO.out, HB.out⟩
    | some p =>
      rw [hu] at ci
      obtain ⟨hwy, _⟩ := g.way_some hu
      have hbo := g.bounds hu
      obtain ⟨k, rfl⟩ : ∃ k : Nat, y = (k : Int) := ⟨y.toNat, by omega⟩
      have hss : ss.length ≤ 15 := by rw [hwy, List.length_append] at hlen; simp at hlen; omega
      have k0 : (0 : Int) ≤ (k : Int) := by omega
      have k1 : (k : Int) < 1000 := by omega
      have kn : k < 1000 := by omega
      have l20 : (ss.length : Int) < 20 := by omega
      have hp := refF_some hu
      have HW : Hid (way T x = way T (k : Int) ++ ss ∧ way T (k : Int) = way T p ++ [(k : Int)]) := Lib.hid ⟨hw, hwy⟩
      have hs := hb.size
      have hgl := (hown.lt gb rfl)
      have HB := Lib.hid hb
      have HLIT : Hid (IOwn (wr.alloc (.cells #[.int .i64 (k : Int)] 3)) w.heap.size (.slice (some ⟨wr.heap.size, 0, none⟩) 1 1) [(k : Int)]) := Lib.hid (lit1_own wr w.heap.size _ hs)
      have HNEW : Hid (∀ j u, (ss.map encZ)[j]? = some u → (wr.alloc (.cells #[.int .i64 (k : Int)] 3)).cell? ((⟨gb, 0, none⟩ : Addr).add j) = some u) := Lib.hid ((hown.alloc _).cells (g := gb) rfl)
      have HAFT : Hid (∀ W, (wr.alloc (.cells #[.int .i64 (k : Int)] 3)).grownBy W (some wr.heap.size) → Below w.heap.size w W ∧ W.cell? ⟨o, k, none⟩ = some (.int .i64 p)) := Lib.hid fun W hg => by
        have h1 : Below w.heap.size w W := (HB.out.alloc hs _).grown hg (by simp; omega) (fun j e => by cases e; exact hs)
        exact ⟨h1, by have := ((HG.out.on h1).cell kn).1; rw [hp] at this; exact this⟩
      have hone := ints_oneCell .i64 ss
      clear hw hu hwy hb hown hlen hp
      go_wp2_with (first
        | (go_at_call 14; refine ci.mono ?_; rintro e wr ⟨rfl, rfl⟩)
        | (at_builtin; refine wpList_append_own_at _ rfl _ _ 38 rfl w.heap.size 3 i0 (.int .i64 0) 1 8 Tryd.underlying38 hi hz0 hz1 hz2 rfl (by decide) _ 1 [.int .i64 (k : Int)] rfl HLIT.out ⟨gb, 0, none⟩ ss.length cap (ss.map encZ) rfl (by simp) HNEW.out hone (by unfold maxLen; omega) (by omega) (by simp; omega) ?_; intro v' w2 hown' hgrow hnil hloc; obtain ⟨hb2, c2⟩ := HAFT.out _ hgrow; obtain ⟨gb2, cap2, rfl⟩ : ∃ gb2 cap2, v' = .slice (some ⟨gb2, 0, none⟩) (1 + ss.length) cap2 := by rcases hown'.2 with ⟨e, h0⟩ | ⟨gb2, cap2, cur, e, _⟩ <;> first | omega | exact ⟨gb2, cap2, e⟩))
      go_roundw
      case rel =>
        refine ⟨p, gb2, cap2, (k : Int) :: ss, rfl, ?_, ?_, ?_, hb2⟩
        · rw [List.length_cons, Nat.add_comm]
        · rw [HW.out.1, HW.out.2]; simp
        · unfold IOwn
          rw [List.length_cons, Nat.add_comm ss.length 1]
          exact hown'
      case measure =>
        show (way T p).length < (way T (k : Int)).length
        rw [HW.out.2]; simp
end Go.Proofs.YtaibmdjcppeopaaDoor
