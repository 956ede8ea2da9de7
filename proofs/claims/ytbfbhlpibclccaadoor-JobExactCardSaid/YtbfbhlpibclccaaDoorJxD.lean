/- The reference's table of jobs: Move, Drop. Condition: the table lies in memory as its row has it. -/
import Derived.Test.YtbfbhlpibclccaaDoorJxA
import Derived.StillTailTactics
import Derived.Laws.OwnMore
import Derived.Test.YtbfbhlpibclccaaDoorRwL
import Derived.IntWalk
namespace Go.Proofs.YtbfbhlpibclccaaDoor
open Go Go.RowKit Go.Maps

/-- What a deed on the reference leaves. -/
def RjThen (w w' : World) (u : Nat) (v : Value) (L' : List JE) : Prop := ∃ v', RjA w' u v' L' ∧ (∀ k, v'.ownBlock = some k → v.ownBlock = some k ∨ w.heap.size ≤ k) ∧ ChP (RjQ u v) w w'
theorem RjA.then_same {w w' : World} {u : Nat} {v : Value} {L : List JE} (h : RjA w u v L) (hb : Below w.heap.size w w') : RjThen w w' u v L := ⟨v, h.on hb, fun _ hk => .inl hk, ChP.of_below hb⟩
theorem RjThen.below {w w' w2 : World} {u : Nat} {v : Value} {L : List JE} (h : RjThen w w' u v L) (hb : Below w'.heap.size w' w2) : RjThen w w2 u v L := by
  obtain ⟨v', h1, h2, h3⟩ := h
  exact ⟨v', h1.on hb, h2, h3.then hb⟩
/-- A task is moved, or put to wait. -/
def moveJ (L : List JE) (t : Tk) (p : Int) (b : Bool) : List JE × Nat := match findJ L t.job with
  | none => (L, 5)
  | some e => if (t.ix < 0 ∨ (e.pl.length : Int) ≤ t.ix) ∨ (b = false ∧ p < 0) then (L, 1) else if decide (plAt e t.ix.toNat < 0) = b then (L, 13) else (setJ L t.job t.ix.toNat p, 0)
theorem moveJ_put {L : List JE} (h : GJ L) (t : Tk) (p : Int) : moveJ L t p false = putJ L t p := by
  unfold moveJ putJ
  cases e : findJ L t.job with
  | none => rfl
  | some x =>
    simp only [true_and]
    split
    · rfl
    · have hg := plAt_ge h (findJ_mem h e) t.ix.toNat
      by_cases hp : plAt x t.ix.toNat = -1
      · rw [if_neg (by simp [hp]), if_neg (by simp [hp])]
      · rw [if_pos (by simp; omega), if_pos hp]
theorem moveJ_wait {L : List JE} (h : GJ L) (t : Tk) : moveJ L t (-1) true = waitJ L t := by
  unfold moveJ waitJ
  cases e : findJ L t.job with
  | none => rfl
  | some x =>
    simp only [Bool.true_eq_false, false_and, or_false]
    split
    · rfl
    · have hg := plAt_ge h (findJ_mem h e) t.ix.toNat
      by_cases hp : plAt x t.ix.toNat = -1
      · rw [if_pos (by simp [hp]), if_pos hp]
      · rw [if_neg (by simp; omega), if_neg hp]
theorem enc_set (e : JE) {k : Nat} (hk : k < e.pl.length) (h8 : e.pl.length ≤ 8) (p : Int) : encRJ.enc ⟨e.job, e.pl.set k p⟩ = (encRJ.enc e).set (14 + k) (.int .i64 p) := by
  have hpl : ∀ j, plAt ⟨e.job, e.pl.set k p⟩ j = if j = k then p else plAt e j := fun j => by
    unfold plAt
    simp only [List.getD_eq_getElem?_getD, List.getElem?_set]
    by_cases hj : k = j
    · subst hj; simp [hk]
    · rw [if_neg hj, if_neg (fun h => hj h.symm)]
  have : k = 0 ∨ k = 1 ∨ k = 2 ∨ k = 3 ∨ k = 4 ∨ k = 5 ∨ k = 6 ∨ k = 7 := by omega
  unfold encRJ
  simp only [hpl]
  rcases this with rfl | rfl | rfl | rfl | rfl | rfl | rfl | rfl <;> simp
theorem setJ_at {L : List JE} (h : GJ L) {i : Nat} {e : JE} (hi : L[i]? = some e) (k : Nat) (p : Int) : setJ L e.job.id k p = L.set i ⟨e.job, e.pl.set k p⟩ := by
  unfold setJ
  apply List.ext_getElem?
  intro j
  rw [List.getElem?_map, List.getElem?_set]
  by_cases hij : i = j
  · subst hij
    rw [if_pos rfl, hi]
    have := (List.getElem?_eq_some_iff.1 hi).1
    simp [this]
  · rw [if_neg hij]
    cases hj : L[j]? with
    | none => rfl
    | some f =>
      have hne : f.job.id ≠ e.job.id := by
        obtain ⟨p1, p2⟩ := List.getElem?_eq_some_iff.1 hi
        obtain ⟨p3, p4⟩ := List.getElem?_eq_some_iff.1 hj
        rcases Nat.lt_or_gt_of_ne hij with hlt | hlt
        · have := List.pairwise_iff_getElem.1 h.ord i j p1 p3 hlt
          rw [p2, p4] at this; omega
        · have := List.pairwise_iff_getElem.1 h.ord j i p3 p1 hlt
          rw [p2, p4] at this; omega
      simp [hne]
set_option maxRecDepth 100000 in
set_option maxHeartbeats 6400000 in
/-- Move. -/
theorem rjmove_c {w : World} {u : Nat} {v : Value} {L : List JE} (h : RjA w u v L) (t : Tk) (pl : Int) (b : Bool) (hpb : b = true → pl = -1) :
    Calls Tryd.prog 12 #[.pointer (some ⟨u, 0, none⟩), .agg #[.int .i64 t.job, .int .i64 t.ix], .int .i64 pl, .bool b] w fun e w' => e = .returned (.int .i64 ((moveJ L t pl b).2 : Nat)) ∧ RjThen w w' u v (moveJ L t pl b).1 := by
  obtain ⟨job, ix⟩ := t
  obtain ⟨X, hX⟩ : ∃ X, w.heap.size = X := ⟨_, rfl⟩
  obtain ⟨W1, hW1⟩ : ∃ W1, w.alloc (.cells #[.int .i64 job, .int .i64 ix] 35) = W1 := ⟨_, rfl⟩
  have hb1 : Below w.heap.size w W1 := by rw [← hW1]; exact (Below.refl _ _).alloc (Nat.le_refl _) _
  have hx1 : W1.heap[X]? = some (.cells #[.int .i64 job, .int .i64 ix] 35 (0, 0)) := by rw [← hW1, ← hX]; exact heap_alloc_new _ _
  have h1 := h.on hb1
  have HF := Lib.hid (rjfind_c h1 job)
  have x0 := cell_of_heap hx1 0
  have x1 := cell_of_heap hx1 1
  simp at x0 x1
  have HH := Lib.hid h
  have HB1 := Lib.hid hb1; have HW1 := Lib.hid hW1; have HXX := Lib.hid hX
  rcases posJ_cases h.good job with ⟨e1, e2⟩ | ⟨i, e, e1, hi, hie, e2⟩
  · have hw : moveJ L ⟨job, ix⟩ pl b = (L, 5) := by unfold moveJ; simp only; rw [e2]
    rw [e1] at HF
    rw [hw]
    clear h h1 hb1 hx1 hW1 hX e1 e2 hw
    go_enter Tryd.func12, Tryd.ntmps12
    go_upto_region 1 with fail
    rw [HW1.out, HXX.out]
    go_wp2_with fail
    refine HF.out.mono ?_
    rintro r w2 ⟨rfl, rfl⟩
    go_wp2_with fail
    go_ret
    exact ⟨rfl, HH.out.then_same HB1.out⟩
  · rw [e1] at HF
    obtain ⟨A, c, hv, z0, hz⟩ := h1.at
    obtain ⟨ad, g, rfl, hadd, hfz, hcc⟩ := hz i e hie
    have hem : e ∈ L := List.mem_of_getElem? hie
    have hid := findJ_id h.good e2
    have hlen : e.job.tasks = (e.pl.length : Int) := by
      obtain ⟨g1, g2, _⟩ := h.good.good e hem
      obtain ⟨_, g3⟩ := goodJ_nums g1
      omega
    have hl8 := (h.good.len hem).2
    obtain ⟨N, hN⟩ : ∃ N, L.length = N := ⟨_, rfl⟩
    obtain ⟨m, hm⟩ : ∃ m, e.pl.length = m := ⟨_, rfl⟩
    have z4 := hcc 4 _ rfl
    rw [hlen, hm] at z4
    have hs1 := h1.s
    rw [hv] at hs1
    obtain ⟨ad', g', hA, hg', hug, hgl, -, -⟩ := hs1.at hie
    obtain rfl := Option.some.inj hA
    rw [hadd] at hg'
    simp only [Addr.mk.injEq, and_true] at hg'
    subst hg'
    obtain ⟨gg, cap, hvv, -⟩ := hs1.some (by omega)
    simp only [Value.slice.injEq, Option.some.injEq] at hvv
    obtain ⟨hadg, -, hcap⟩ := hvv
    have hgg : gg = g := by rw [hadg] at hadd; unfold Addr.add at hadd; split at hadd <;> simp_all
    rw [hN] at z0 hi
    have i0 : (0 : Int) ≤ (i : Int) := by omega
    have i1 : (i : Int) < (N : Int) := by omega
    have di : decide ((i : Int) < 0) = false := decide_eq_false (by omega)
    have hm8 : m ≤ 8 := by omega
    have HCC : Hid (∀ k, k < 8 → W1.cell? ⟨g, i * 22 + (14 + k), none⟩ = some (.int .i64 (plAt e k))) := Lib.hid fun k hk => hcc _ _ (enc_at e hk)
    by_cases hb : ix < 0 ∨ (m : Int) ≤ ix
    · have hw : moveJ L ⟨job, ix⟩ pl b = (L, 1) := by unfold moveJ; simp only; rw [e2]; simp only; rw [if_pos (.inl (by rw [hm]; exact hb))]
      rw [hw]
      by_cases hneg : ix < 0
      · have db : decide (ix < 0) = true := decide_eq_true hneg
        clear h h1 hb1 hx1 hW1 hX e1 e2 hw hz hcc hie hem hlen hl8 hm hb hN hneg hs1 hadg hcap hgg hv
        go_enter Tryd.func12, Tryd.ntmps12
        go_upto_region 1 with fail
        rw [HW1.out, HXX.out]
        go_wp2_with fail
        refine HF.out.mono ?_
        rintro r w2 ⟨rfl, rfl⟩
        go_wp2_with fail
        go_quiet (fail)
        go_wp2_with fail
        go_ret
        exact ⟨rfl, HH.out.then_same (by have := HB1.out; (repeat' (first | (with_reducible exact Below.refl _ _) | (with_reducible refine below_drewN ?_ _) | (with_reducible refine Below.drew ?_) | (with_reducible refine Below.alloc ?_ ?_ _) | (with_reducible refine Below.setCell ?_ ?_ _) | (with_reducible refine Below.trans ?_ (Below.mono (by with_reducible assumption) ?_)) | omega | (simp only [World.size_alloc, World.size_setCell, World.size_drew, Go.Proofs.YtbfbhlpibclccaaDoor.World.size_drewN] at *; omega) | (with_reducible refine Below.size (B := 0) ?_))))⟩
      · have db : decide (ix < 0) = false := decide_eq_false hneg
        have dm : decide ((m : Int) ≤ ix) = true := decide_eq_true (by omega)
        clear h h1 hb1 hx1 hW1 hX e1 e2 hw hz hcc hie hem hlen hl8 hm hb hN hneg hs1 hadg hcap hgg hv
        go_enter Tryd.func12, Tryd.ntmps12
        go_upto_region 1 with fail
        rw [HW1.out, HXX.out]
        go_wp2_with fail
        refine HF.out.mono ?_
        rintro r w2 ⟨rfl, rfl⟩
        go_wp2_with fail
        go_quiet (fail)
        go_wp2_with fail
        go_ret
        exact ⟨rfl, HH.out.then_same (by have := HB1.out; (repeat' (first | (with_reducible exact Below.refl _ _) | (with_reducible refine below_drewN ?_ _) | (with_reducible refine Below.drew ?_) | (with_reducible refine Below.alloc ?_ ?_ _) | (with_reducible refine Below.setCell ?_ ?_ _) | (with_reducible refine Below.trans ?_ (Below.mono (by with_reducible assumption) ?_)) | omega | (simp only [World.size_alloc, World.size_setCell, World.size_drew, Go.Proofs.YtbfbhlpibclccaaDoor.World.size_drewN] at *; omega) | (with_reducible refine Below.size (B := 0) ?_))))⟩
    · obtain ⟨k, rfl⟩ : ∃ k : Nat, ix = (k : Int) := ⟨ix.toNat, by omega⟩
      have hkm : k < m := by omega
      have db : decide ((k : Int) < 0) = false := decide_eq_false (by omega)
      have dm : decide ((m : Int) ≤ (k : Int)) = false := decide_eq_false (by omega)
      have dm2 : decide (m ≤ k) = false := decide_eq_false (by omega)
      have hk8 : k < 8 := by omega
      have zk := HCC.out k hk8
      rw [← Nat.add_assoc] at zk
      have k0 : (0 : Int) ≤ (k : Int) := by omega
      have k8 : (k : Int) < 8 := by omega
      by_cases hbad : b = false ∧ pl < 0
      · have hw : moveJ L ⟨job, (k : Int)⟩ pl b = (L, 1) := by unfold moveJ; simp only; rw [e2]; simp only; rw [if_pos (.inr hbad)]
        rw [hw]
        obtain ⟨rfl, hpl⟩ := hbad
        have dp : decide (pl < 0) = true := decide_eq_true hpl
        clear h h1 hb1 hx1 hW1 hX e1 e2 hw hz hcc hie hem hlen hl8 hm hb hN hs1 hadg hcap hgg hv hpl hpb
        go_enter Tryd.func12, Tryd.ntmps12
        go_upto_region 1 with fail
        rw [HW1.out, HXX.out]
        go_wp2_with fail
        refine HF.out.mono ?_
        rintro r w2 ⟨rfl, rfl⟩
        go_wp2_with fail
        go_quiet (fail)
        go_wp2_with fail
        go_ret
        exact ⟨rfl, HH.out.then_same (by have := HB1.out; (repeat' (first | (with_reducible exact Below.refl _ _) | (with_reducible refine below_drewN ?_ _) | (with_reducible refine Below.drew ?_) | (with_reducible refine Below.alloc ?_ ?_ _) | (with_reducible refine Below.setCell ?_ ?_ _) | (with_reducible refine Below.trans ?_ (Below.mono (by with_reducible assumption) ?_)) | omega | (simp only [World.size_alloc, World.size_setCell, World.size_drew, Go.Proofs.YtbfbhlpibclccaaDoor.World.size_drewN] at *; omega) | (with_reducible refine Below.size (B := 0) ?_))))⟩
      · have hdp : b = true ∨ (b = false ∧ 0 ≤ pl) := by
          cases b
          · exact .inr ⟨rfl, by simp at hbad; exact hbad⟩
          · exact .inl rfl
        obtain ⟨pk, hpk⟩ : ∃ pk, plAt e k = pk := ⟨_, rfl⟩
        obtain ⟨sb, hsb⟩ : ∃ sb, decide (pk < 0) = sb := ⟨_, rfl⟩
        rw [hpk] at zk
        by_cases hst : sb = b
        · have hw : moveJ L ⟨job, (k : Int)⟩ pl b = (L, 13) := by unfold moveJ; simp only; rw [e2]; simp only; rw [if_neg (by rw [hm]; exact fun h => h.elim hb hbad), Int.toNat_natCast, if_pos (by rw [hpk, hsb, hst])]
          rw [hw]
          have hbb : (sb == b) = true := by simpa using hst
          rcases hdp with rfl | ⟨rfl, hpl⟩
          · clear h h1 hb1 hx1 hW1 hX e1 e2 hw hz hcc hie hem hlen hl8 hm hb hN hs1 hadg hcap hgg hv hbad hpk hpb
            subst hst
            go_enter Tryd.func12, Tryd.ntmps12
            go_upto_region 1 with fail
            rw [HW1.out, HXX.out]
            go_wp2_with fail
            refine HF.out.mono ?_
            rintro r w2 ⟨rfl, rfl⟩
            go_wp2_with fail
            go_quiet (fail)
            go_wp2_with fail
            go_quiet (fail)
            go_wp2_with fail
            go_ret
            exact ⟨rfl, HH.out.then_same (by have := HB1.out; (repeat' (first | (with_reducible exact Below.refl _ _) | (with_reducible refine below_drewN ?_ _) | (with_reducible refine Below.drew ?_) | (with_reducible refine Below.alloc ?_ ?_ _) | (with_reducible refine Below.setCell ?_ ?_ _) | (with_reducible refine Below.trans ?_ (Below.mono (by with_reducible assumption) ?_)) | omega | (simp only [World.size_alloc, World.size_setCell, World.size_drew, Go.Proofs.YtbfbhlpibclccaaDoor.World.size_drewN] at *; omega) | (with_reducible refine Below.size (B := 0) ?_))))⟩
          · have dp : decide (pl < 0) = false := decide_eq_false (by omega)
            clear h h1 hb1 hx1 hW1 hX e1 e2 hw hz hcc hie hem hlen hl8 hm hb hN hs1 hadg hcap hgg hv hbad hpk hpb hpl
            subst hst
            go_enter Tryd.func12, Tryd.ntmps12
            go_upto_region 1 with fail
            rw [HW1.out, HXX.out]
            go_wp2_with fail
            refine HF.out.mono ?_
            rintro r w2 ⟨rfl, rfl⟩
            go_wp2_with fail
            go_quiet (fail)
            go_wp2_with fail
            go_quiet (fail)
            go_wp2_with fail
            go_ret
            exact ⟨rfl, HH.out.then_same (by have := HB1.out; (repeat' (first | (with_reducible exact Below.refl _ _) | (with_reducible refine below_drewN ?_ _) | (with_reducible refine Below.drew ?_) | (with_reducible refine Below.alloc ?_ ?_ _) | (with_reducible refine Below.setCell ?_ ?_ _) | (with_reducible refine Below.trans ?_ (Below.mono (by with_reducible assumption) ?_)) | omega | (simp only [World.size_alloc, World.size_setCell, World.size_drew, Go.Proofs.YtbfbhlpibclccaaDoor.World.size_drewN] at *; omega) | (with_reducible refine Below.size (B := 0) ?_))))⟩
        · have hw : moveJ L ⟨job, (k : Int)⟩ pl b = (setJ L job k pl, 0) := by unfold moveJ; simp only; rw [e2]; simp only; rw [if_neg (by rw [hm]; exact fun h => h.elim hb hbad), Int.toNat_natCast, if_neg (by rw [hpk, hsb]; exact hst)]
          rw [hw]
          have hp1 : -1 ≤ pl := by
            rcases hdp with rfl | ⟨rfl, hpl⟩
            · have := hpb rfl; omega
            · omega
          have hgood : GJ (setJ L job k pl) := h.good.setJ job k hp1
          have hset := setJ_at h.good hie k pl
          rw [hid] at hset
          have hs2 : OwnE encRJ 50 W1 (u + 1) (.slice (some ⟨g, 0, none⟩) L.length c) L := by rw [hadg, hgg] at hs1; exact hs1
          have hrow := hs2.stored (r := 14 + k) (x' := ⟨e.job, e.pl.set k pl⟩) (u := .int .i64 pl) hie (by omega) (enc_set e (by omega) hl8 pl)
          rw [← Nat.add_assoc, List.length_set] at hrow
          have hrow : OwnE encRJ 50 (W1.setCell ⟨g, i * 22 + 14 + k, none⟩ (.int .i64 pl)) (u + 1) (.slice (some ad) L.length c) (L.set i ⟨e.job, e.pl.set k pl⟩) := by rw [hadg, hgg]; exact hrow
          obtain ⟨W5, hW5⟩ : ∃ W5, W1.setCell ⟨g, i * 22 + 14 + k, none⟩ (.int .i64 pl) = W5 := ⟨_, rfl⟩
          have hfin : RjThen w W5 u v (setJ L job k pl) := by
            have hbox5 : W5.heap[u]? = some (.cells #[v] 29 (0, 0)) := by rw [← hW5]; exact (heap_setCell_other W1 _ u _ (by show u ≠ g; omega)).trans h1.box
            refine ⟨v, ⟨hbox5, ?_, hgood⟩, fun _ hk => .inl hk, ?_⟩
            · rw [hset, hv, ← hW5]; exact hrow
            · rw [← hW5]
              exact (ChP.of_below hb1).setCell (ad := ⟨g, i * 22 + 14 + k, none⟩) (.inl (.inr (by rw [hv, hadg]; simp [Value.ownBlock, hgg]))) _
          have HFIN := Lib.hid hfin
          have hfg : W1.frozen? ⟨g, i * 22 + 14 + k, none⟩ = false := hfz _
          have hbb : (sb == b) = false := by simpa using hst
          have HW5 := Lib.hid hW5
          have hdw : ∀ n, (W1.drewN n).setCell ⟨g, i * 22 + 14 + k, none⟩ (.int .i64 pl) = W5.drewN n := fun n => by rw [← hW5]; rfl
          have HDW := Lib.hid hdw
          rcases hdp with rfl | ⟨rfl, hpl⟩
          · clear h h1 hb1 hx1 hW1 hX e1 e2 hw hz hcc hie hem hlen hl8 hm hb hN hs1 hadg hcap hgg hv hbad hpk hpb hp1 hgood hset hrow hfin hW5 hdw hug hgl
            have hsf : sb = false := by cases sb <;> simp_all
            subst hsf
            clear hst
            go_enter Tryd.func12, Tryd.ntmps12
            go_upto_region 1 with fail
            rw [HW1.out, HXX.out]
            go_wp2_with fail
            refine HF.out.mono ?_
            rintro r w2 ⟨rfl, rfl⟩
            go_wp2_with fail
            go_quiet (fail)
            go_wp2_with fail
            go_quiet (fail)
            go_wp2_with fail
            rename_i nq1 _ _
            obtain ⟨W6, hW6⟩ : ∃ W6, (W1.drewN nq1).drewN nq = W6 := ⟨_, rfl⟩
            rw [hW6]
            have z06 : W6.cell? ⟨u, 0, none⟩ = some (.slice (some ad) N c) := by rw [← hW6]; exact z0
            have z46 : W6.cell? ⟨g, i * 22 + 4, none⟩ = some (.int .i64 m) := by rw [← hW6]; exact z4
            have zk6 : W6.cell? ⟨g, i * 22 + 14 + k, none⟩ = some (.int .i64 pk) := by rw [← hW6]; exact zk
            have x16 : W6.cell? ⟨X, 1, none⟩ = some (.int .i64 k) := by rw [← hW6]; exact x1
            have hf6 : W6.frozen? ⟨g, i * 22 + 14 + k, none⟩ = false := by rw [← hW6]; exact hfg
            have HS6 : Hid (W6.setCell ⟨g, i * 22 + 14 + k, none⟩ (.int .i64 pl) = (W5.drewN nq1).drewN nq) := Lib.hid (by rw [← hW6, ← HW5.out]; rfl)
            clear hW6 z0 z4 zk x1 hfg x0
            go_still_tail 11, (by kernel_rfl)
            change wpList _ _ _ _ _ W6.drew
            go_wp2_with fail
            go_ret
            rw [HS6.out]
            exact ⟨rfl, HFIN.out.below (by (repeat' (first | (with_reducible exact Below.refl _ _) | (with_reducible refine below_drewN ?_ _) | (with_reducible refine Below.drew ?_) | (with_reducible refine Below.alloc ?_ ?_ _) | (with_reducible refine Below.setCell ?_ ?_ _) | (with_reducible refine Below.trans ?_ (Below.mono (by with_reducible assumption) ?_)) | omega | (simp only [World.size_alloc, World.size_setCell, World.size_drew, Go.Proofs.YtbfbhlpibclccaaDoor.World.size_drewN] at *; omega) | (with_reducible refine Below.size (B := 0) ?_))))⟩
          · have dp : decide (pl < 0) = false := decide_eq_false (by omega)
            clear h h1 hb1 hx1 hW1 hX e1 e2 hw hz hcc hie hem hlen hl8 hm hb hN hs1 hadg hcap hgg hv hbad hpk hpb hp1 hgood hset hrow hfin hW5 hdw hug hgl hpl
            have hsf : sb = true := by cases sb <;> simp_all
            subst hsf
            clear hst
            go_enter Tryd.func12, Tryd.ntmps12
            go_upto_region 1 with fail
            rw [HW1.out, HXX.out]
            go_wp2_with fail
            refine HF.out.mono ?_
            rintro r w2 ⟨rfl, rfl⟩
            go_wp2_with fail
            go_quiet (fail)
            go_wp2_with fail
            go_quiet (fail)
            go_wp2_with fail
            rename_i nq1 _ _
            obtain ⟨W6, hW6⟩ : ∃ W6, (W1.drewN nq1).drewN nq = W6 := ⟨_, rfl⟩
            rw [hW6]
            have z06 : W6.cell? ⟨u, 0, none⟩ = some (.slice (some ad) N c) := by rw [← hW6]; exact z0
            have z46 : W6.cell? ⟨g, i * 22 + 4, none⟩ = some (.int .i64 m) := by rw [← hW6]; exact z4
            have zk6 : W6.cell? ⟨g, i * 22 + 14 + k, none⟩ = some (.int .i64 pk) := by rw [← hW6]; exact zk
            have x16 : W6.cell? ⟨X, 1, none⟩ = some (.int .i64 k) := by rw [← hW6]; exact x1
            have hf6 : W6.frozen? ⟨g, i * 22 + 14 + k, none⟩ = false := by rw [← hW6]; exact hfg
            have HS6 : Hid (W6.setCell ⟨g, i * 22 + 14 + k, none⟩ (.int .i64 pl) = (W5.drewN nq1).drewN nq) := Lib.hid (by rw [← hW6, ← HW5.out]; rfl)
            clear hW6 z0 z4 zk x1 hfg x0
            go_still_tail 11, (by kernel_rfl)
            change wpList _ _ _ _ _ W6.drew
            go_wp2_with fail
            go_ret
            rw [HS6.out]
            exact ⟨rfl, HFIN.out.below (by (repeat' (first | (with_reducible exact Below.refl _ _) | (with_reducible refine below_drewN ?_ _) | (with_reducible refine Below.drew ?_) | (with_reducible refine Below.alloc ?_ ?_ _) | (with_reducible refine Below.setCell ?_ ?_ _) | (with_reducible refine Below.trans ?_ (Below.mono (by with_reducible assumption) ?_)) | omega | (simp only [World.size_alloc, World.size_setCell, World.size_drew, Go.Proofs.YtbfbhlpibclccaaDoor.World.size_drewN] at *; omega) | (with_reducible refine Below.size (B := 0) ?_))))⟩
end Go.Proofs.YtbfbhlpibclccaaDoor

/- The reference's table of jobs: a job goes. Condition: the table lies in memory as its row has it. -/
namespace Go.Proofs.YtbfbhlpibclccaaDoor
open Go Go.RowKit Go.Maps

theorem Tryd.infoRJ : (Tryd.prog.info? 50).map (fun i => (i.zero, i.size, i.bytes)) = some (some (.agg #[.int .i64 0, .int .i64 0, .int .i64 0, .int .i64 0, .int .i64 0, .int .i64 0, .int .i64 0, .int .i64 0, .int .i64 0, .int .i64 0, .int .i64 0, .int .i64 0, .bool false, .int .i64 0, .int .i64 0, .int .i64 0, .int .i64 0, .int .i64 0, .int .i64 0, .int .i64 0, .int .i64 0, .int .i64 0]), 22, 176) := by kernel_rfl
theorem Tryd.sizeRJ (W : World) : (sizeOf 50).run Tryd.prog W = .ok 22 W := by kernel_rfl
set_option maxRecDepth 100000 in
set_option maxHeartbeats 3200000 in
/-- Drop. -/
theorem rjdrop_c {w : World} {u : Nat} {v : Value} {L : List JE} (h : RjA w u v L) (id : Int) :
    Calls Tryd.prog 10 #[.pointer (some ⟨u, 0, none⟩), .int .i64 id] w fun e w' => e = .returned (.int .i64 ((dropJ L id).2 : Nat)) ∧ RjThen w w' u v (dropJ L id).1 := by
  have hf := rjfind_c h id
  rcases posJ_cases h.good id with ⟨hpi, e⟩ | ⟨i, x, hpi, hi, his, e⟩
  · have hw : dropJ L id = (L, 5) := by unfold dropJ; rw [if_pos (by rw [e]; rfl)]
    rw [hpi] at hf
    rw [hw]
    have HH := Lib.hid h
    have HF := Lib.hid hf
    clear h hf hpi e hw
    go_enter Tryd.func10, Tryd.ntmps10
    go_wp2_with fail
    refine HF.out.mono ?_
    rintro e w2 ⟨rfl, rfl⟩
    go_wp2_with fail
    go_ret
    exact ⟨rfl, HH.out.then_same (Below.refl _ _)⟩
  have hw : dropJ L id = (L.filter (fun e => !decide (e.job.id = id)), 0) := by unfold dropJ; rw [if_neg (by rw [e]; simp)]
  rw [hw]
  rw [hpi] at hf
  have hcut : L.take i ++ L.drop (i + 1) = L.filter (fun e => !decide (e.job.id = id)) := by
    rw [cut_filter (fun e : JE => e.job.id) h.good.ne his, findJ_id h.good e]
  have hgood : GJ (L.filter (fun e => !decide (e.job.id = id))) := by have := h.good.drop id; rw [hw] at this; exact this
  have HF := Lib.hid hf
  have hu := lt_of_row h.box
  have HOLD := Lib.hid h.old
  have H2 := Lib.hid h
  obtain ⟨N, hN⟩ : ∃ N, L.length = N := ⟨_, rfl⟩
  have hn : N ≤ 32 := by rw [← hN]; exact h.good.few
  rw [hN] at hi
  have HNN := Lib.hid hN
  obtain ⟨L', hL'⟩ : ∃ L', L.filter (fun e => !decide (e.job.id = id)) = L' := ⟨_, rfl⟩
  rw [hL'] at hcut hgood ⊢
  have HCUT := Lib.hid hcut
  have HGD := Lib.hid hgood
  clear h hf hpi his e hN hcut hgood hw hL'
  have hB2 : Below w.heap.size w w := Below.refl _ _
  go_enter Tryd.func10, Tryd.ntmps10
  go_wp2_with fail
  refine HF.out.mono ?_
  rintro e w2 ⟨rfl, rfl⟩
  clear HF
  obtain ⟨A, c, hv⟩ := H2.out.s.form
  rw [HNN.out] at hv
  subst hv
  have c1 : w.cell? ⟨u, 0, none⟩ = some (.slice A N c) := cell_of_heap H2.out.box 0
  obtain ⟨X1, hX1, lX1⟩ := H2.out.s.lies.upto Tryd.underlying27 Tryd.sizeRJ .i64 (i : Int) i rfl (by have := HNN.out; omega)
  obtain ⟨X2, hX2, lX2⟩ := H2.out.s.lies.from Tryd.underlying27 Tryd.sizeRJ .i64 ((i : Int) + 1) (i + 1) (by omega) (by have := HNN.out; omega)
  have hi0 : (0 : Int) ≤ (i : Int) := by omega
  have hi1 : (i : Int) < (N : Int) := by omega
  have hwr : IntKind.i64.wrap ((i : Int) + 1) = (i : Int) + 1 := IntWalk.i64_in _ (by omega)
  have hu2 : u < w.heap.size := Nat.lt_of_lt_of_le hu hB2.size
  have hlt : (L.take i).length = i := by rw [List.length_take]; have := HNN.out; omega
  have hld : (L.drop (i + 1)).length ≤ N := by rw [List.length_drop]; have := HNN.out; omega
  obtain ⟨i0, hi', hz0, hz1, hz2⟩ := info_parts Tryd.infoRJ
  have hb3 : Below w.heap.size w (w.alloc (.cells #[] 50)) := (Below.refl _ _).alloc (Nat.le_refl _) _
  have A1 : Hid (OwnE encRJ 50 (w.alloc (.cells #[] 50)) w.heap.size (.slice (some ⟨w.heap.size, 0, none⟩) 0 0) []) := Lib.hid (OwnE.none w hB2.size)
  have A2 : Hid (LiesE encRJ (w.alloc (.cells #[] 50)) X1 (L.take i)) := Lib.hid (lX1.onB hb3)
  have A3 : Hid (([] : List JE).length + (L.take i).length ≤ maxLen) := Lib.hid (by rw [hlt]; simp only [List.length_nil, maxLen]; omega)
  have A4 : Hid ((([] : List JE).length + (L.take i).length) * 176 ≤ 140737488355328) := Lib.hid (by rw [hlt]; simp only [List.length_nil]; omega)
  have A5 : Hid (w.heap.size ≤ (w.alloc (.cells #[] 50)).heap.size) := Lib.hid (Nat.le_trans hB2.size hb3.size)
  have HL2 := Lib.hid lX2
  have HB2 := Lib.hid hB2
  have HB3 := Lib.hid hb3
  have HLT := Lib.hid hlt
  have HLD := Lib.hid hld
  have HO2 := Lib.hid H2.out.old
  clear lX1 lX2 hB2 hb3 hlt hld hu
  go_wp2_with (first
    | (at_builtin
       refine wpList_append_E (E := encRJ) rfl _ _ 27 rfl i0 _ 176 Tryd.underlying27 hi' hz0 hz1 hz2 rfl (by decide) rfl A1.out rfl A2.out A3.out A4.out A5.out ?_
       intro v4 w4 own4 gr4 lo4
       clear hX1 A1 A2 A3 A4 A5 c1
       have hB4 : Below w.heap.size w w4 := HB3.out.grown gr4 (by have := HB3.out.size; omega) (fun k hk => by have e : some w.heap.size = some k := hk; cases e; exact Nat.le_refl _)
       have hO4 : ∀ k, v4.ownBlock = some k → w.heap.size ≤ k := fun k hk => by
         rcases lo4 with h | h
         · have e : some w.heap.size = some k := h.symm.trans hk; cases e; exact Nat.le_refl _
         · rw [h] at hk; simp only [World.size_alloc, Option.some.injEq] at hk; omega
       have H4 := Lib.hid (H2.out.on hB4)
       have c1 : w4.cell? ⟨u, 0, none⟩ = some (.slice A N c) := cell_of_heap H4.out.box 0
       have A1 := Lib.hid own4
       have A2 : Hid (LiesE encRJ w4 X2 (L.drop (i + 1))) := Lib.hid (HL2.out.onB hB4)
       have A3 : Hid (([] ++ L.take i).length + (L.drop (i + 1)).length ≤ maxLen) := Lib.hid (by rw [List.nil_append, HLT.out]; have := HLD.out; simp only [maxLen]; omega)
       have A4 : Hid ((([] ++ L.take i).length + (L.drop (i + 1)).length) * 176 ≤ 140737488355328) := Lib.hid (by rw [List.nil_append, HLT.out]; have := HLD.out; omega)
       have A5 : Hid (w.heap.size ≤ w4.heap.size) := Lib.hid (Nat.le_trans HB2.out.size hB4.size)
       have HB4 := Lib.hid hB4
       have HO4 := Lib.hid hO4
       clear own4 gr4 lo4 hB4 hO4 HL2 H2)
    | (at_builtin
       refine wpList_append_E (E := encRJ) rfl _ _ 27 rfl i0 _ 176 Tryd.underlying27 hi' hz0 hz1 hz2 rfl (by decide) rfl A1.out rfl A2.out A3.out A4.out A5.out ?_
       intro v5 w5 own5 gr5 lo5
       clear hX2 A1 A2 A3 A4 A5 c1
       have hB5 : Below w.heap.size w4 w5 := (Below.refl _ _).grown gr5 HB4.out.size (fun k hk => HO4.out k hk)
       have hO5 : ∀ k, v5.ownBlock = some k → w.heap.size ≤ k := fun k hk => by
         rcases lo5 with h | h
         · rw [h] at hk; exact HO4.out k hk
         · rw [h] at hk; simp only [Option.some.injEq] at hk; have := HB4.out.size; omega
       have H5 := Lib.hid (H4.out.same fun k hk => hB5.block k (HO2.out k hk))
       have cf := frozen_of_heap H5.out.box 0
       have c1 : w5.cell? ⟨u, 0, none⟩ = some (.slice A N c) := cell_of_heap H5.out.box 0
       obtain ⟨A5, c5, rfl⟩ := own5.form
       have O5 := Lib.hid own5
       have HB5 := Lib.hid (HB4.out.trans hB5)
       have HO5 := Lib.hid hO5
       clear own5 gr5 lo5 hB5 hO5 H4 HB4 HO4))
  go_ret
  have hu : u < w.heap.size := HO2.out u (.inl rfl)
  have hlen : min i L.length + (L.length - (i + 1)) = L'.length := by rw [← HCUT.out]; simp
  have hl : ([] ++ L.take i ++ L.drop (i + 1)).length = L'.length := by rw [List.nil_append, HCUT.out]
  have HO := HO5.out
  have h5 := O5.out.base (base' := u + 1) (by omega)
  rw [hl] at HO h5
  rw [List.nil_append, HCUT.out] at h5
  rw [hlen]
  refine ⟨rfl, _, ⟨(heap_setCell_same _ _ _ _ _ _ H5.out.box).trans rfl, ?_, HGD.out⟩, fun k hk => .inr (HO k hk), ?_⟩
  · refine OwnE.same h5 fun k hk => heap_setCell_other _ _ _ _ ?_
    have := HO k hk
    show k ≠ u
    omega
  · exact ChP.setCell (ad := ⟨u, 0, none⟩) (ChP.of_below HB5.out) (.inl (.inl rfl)) _
end Go.Proofs.YtbfbhlpibclccaaDoor
