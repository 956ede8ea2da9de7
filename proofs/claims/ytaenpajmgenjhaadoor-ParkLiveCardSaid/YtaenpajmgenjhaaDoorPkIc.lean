/- A round of the law ParkLive, walked on its own. Condition: the sentinels lie as the program's text lays them. -/
import Derived.Test.YtaenpajmgenjhaaDoorPkIb
import Derived.Test.YtaenpajmgenjhaaDoorRgC
import Derived.Test.YtaenpajmgenjhaaDoorPkI8
import Derived.Deep.DeepCutAuto
import Derived.Deep.CutBlock
import Derived.Deep.RegionHeld3
import Derived.Deep.QuietTactic
namespace Go.Proofs.YtaenpajmgenjhaaDoor
open Go Go.RowKit

theorem getD_good {P : List Mc} (h : GP P) (id : Int) : goodV ((atP P id).getD mc0).has = true := by
  cases e : atP P id with
  | none => rfl
  | some m => exact h.good m ((at_some h.ord).1 e).1
theorem ctV_at (o : Option Mc) (c : Int) : ctV o.isSome (o.getD mc0) c = contr o c := by
  cases o with
  | none => rfl
  | some m =>
    unfold ctV contr
    simp only [Option.isSome_some, Option.getD_some, Bool.true_and, Bool.and_eq_true, beq_iff_eq]

/-- What is asked behind it. -/
def live_roundQ (u1 u16 u17 u18 u19 u20 u21 u22 u23 u24 u25 u26 u27 u28 : Value) (A : Option Addr) (c i : Nat) (X : List PkAD) (w0 : World) (q : Nat) (Q : Exit → Act → World → Prop) : Prop :=
  ∀ (v2 v5 v6 v7 v8 v9 v10 v11 v12 v13 v14 v15 v29 v30 v31 v32 v33 v34 v35 v36 v37 v38 v39 v40 v41 v42 v43 v44 v45 v46 v47 v48 v49 v50 v51 v52 v53 v54 v55 v56 v57 v58 v59 v60 v61 v62 v63 v64 v65 v66 v67 v68 v69 v70 v71 v72 v73 v74 v75 v76 v77 v78 v79 v80 v81 v82 v83 v84 v85 v86 v87 v88 v89 v90 v91 v92 v93 v94 v95 v96 v97 v98 v99 v100 v101 v102 v103 v104 v105 v106 v107 v108 v109 v110 v111 v112 v113 v114 v115 v116 v117 v118 v119 v120 v121 v122 v123 v124 v125 v126 v127 v128 v129 v130 v131 v132 v133 v134 v135 v136 v137 v138 v139 v140 v141 v142 v143 v144 v145 v146 v147 v148 v149 v150 v151 v152 v153 v154 v155 v156 : Value) (w' : World) (R' : Nat) (P' : List Mc), PkAt w0 w' q R' P' → Q .normal { tmps := #[.slice A X.length c, u1, v2, .pointer (some ⟨q, 0, none⟩), .int .i64 (i : Int), v5, v6, v7, v8, v9, v10, v11, v12, v13, v14, v15, u16, u17, u18, u19, u20, u21, u22, u23, u24, u25, u26, u27, u28, v29, v30, v31, v32, v33, v34, v35, v36, v37, v38, v39, v40, v41, v42, v43, v44, v45, v46, v47, v48, v49, v50, v51, v52, v53, v54, v55, v56, v57, v58, v59, v60, v61, v62, v63, v64, v65, v66, v67, v68, v69, v70, v71, v72, v73, v74, v75, v76, v77, v78, v79, v80, v81, v82, v83, v84, v85, v86, v87, v88, v89, v90, v91, v92, v93, v94, v95, v96, v97, v98, v99, v100, v101, v102, v103, v104, v105, v106, v107, v108, v109, v110, v111, v112, v113, v114, v115, v116, v117, v118, v119, v120, v121, v122, v123, v124, v125, v126, v127, v128, v129, v130, v131, v132, v133, v134, v135, v136, v137, v138, v139, v140, v141, v142, v143, v144, v145, v146, v147, v148, v149, v150, v151, v152, v153, v154, v155, v156], defers := [] } w'
set_option maxRecDepth 100000 in
set_option maxHeartbeats 6400000 in
/-- A round: a deed. -/
theorem live_round (u1 u2 u5 u6 u7 u8 u9 u10 u11 u12 u13 u14 u15 u16 u17 u18 u19 u20 u21 u22 u23 u24 u25 u26 u27 u28 u29 u30 u31 u32 u33 u34 u35 u36 u37 u38 u39 u40 u41 u42 u43 u44 u45 u46 u47 u48 u49 u50 u51 u52 u53 u54 u55 u56 u57 u58 u59 u60 u61 u62 u63 u64 u65 u66 u67 u68 u69 u70 u71 u72 u73 u74 u75 u76 u77 u78 u79 u80 u81 u82 u83 u84 u85 u86 u87 u88 u89 u90 u91 u92 u93 u94 u95 u96 u97 u98 u99 u100 u101 u102 u103 u104 u105 u106 u107 u108 u109 u110 u111 u112 u113 u114 u115 u116 u117 u118 u119 u120 u121 u122 u123 u124 u125 u126 u127 u128 u129 u130 u131 u132 u133 u134 u135 u136 u137 u138 u139 u140 u141 u142 u143 u144 u145 u146 u147 u148 u149 u150 u151 u152 u153 u154 u155 u156 : Value) (s : Nat → Addr) (A : Option Addr) (c i : Nat) (X : List PkAD) (w0 : World) (q R : Nat) (P : List Mc) (x : PkAD) (Q : Exit → Act → World → Prop) (w : World) (hs : Sent s w0) (hX : PkARow w0 w0.heap.size A X) (hK : PkAt w0 w q R P) (hi : X[i]? = some x)
    (hQ : live_roundQ u1 u16 u17 u18 u19 u20 u21 u22 u23 u24 u25 u26 u27 u28 A c i X w0 q Q) :
    (Code.block 1 (bodyOf Tryd.f4 1)).wp Tryd.prog Q { tmps := #[.slice A X.length c, u1, u2, .pointer (some ⟨q, 0, none⟩), .int .i64 (i : Int), u5, u6, u7, u8, u9, u10, u11, u12, u13, u14, u15, u16, u17, u18, u19, u20, u21, u22, u23, u24, u25, u26, u27, u28, u29, u30, u31, u32, u33, u34, u35, u36, u37, u38, u39, u40, u41, u42, u43, u44, u45, u46, u47, u48, u49, u50, u51, u52, u53, u54, u55, u56, u57, u58, u59, u60, u61, u62, u63, u64, u65, u66, u67, u68, u69, u70, u71, u72, u73, u74, u75, u76, u77, u78, u79, u80, u81, u82, u83, u84, u85, u86, u87, u88, u89, u90, u91, u92, u93, u94, u95, u96, u97, u98, u99, u100, u101, u102, u103, u104, u105, u106, u107, u108, u109, u110, u111, u112, u113, u114, u115, u116, u117, u118, u119, u120, u121, u122, u123, u124, u125, u126, u127, u128, u129, u130, u131, u132, u133, u134, u135, u136, u137, u138, u139, u140, u141, u142, u143, u144, u145, u146, u147, u148, u149, u150, u151, u152, u153, u154, u155, u156], defers := [] } w := by
  simp only [bodyOf, Tryd.f4, blkOf, Option.bind_some, Option.orElse, Option.getD_some, Nat.reduceEqDiff, if_true, if_false, reduceCtorEq]
  have HQ := Lib.hid hQ
  have HS := Lib.hid hs
  have HXR := Lib.hid hX
  have HK := Lib.hid hK
  obtain ⟨ad, rfl, c0, c1, c2, c3, c4, c5, c6⟩ := hX.cells hK.below hi
  have hi0 : (0 : Int) ≤ (i : Int) := by omega
  have hi1 : (i : Int) < (X.length : Int) := by have := (List.getElem?_eq_some_iff.1 hi).1; omega
  obtain ⟨gx, hgx⟩ : ∃ gx, gx = w.heap.size := ⟨_, rfl⟩
  obtain ⟨W1, hW1⟩ : ∃ W1, W1 = w.alloc (.cells #[.int .i64 x.kind, .int .i64 x.id, .int .i64 x.n, .int .i64 x.v.a, .int .i64 x.v.b, .int .i64 x.v.c, .int .i64 x.v.d] 34) := ⟨_, rfl⟩
  have hb1 : Below w.heap.size w W1 := by rw [hW1]; exact (Below.refl _ _).alloc (Nat.le_refl _) _
  have hz1 : W1.heap.size = w.heap.size + 1 := by rw [hW1]; simp
  have HX1 : Hid (PkABlk W1 gx x) := Lib.hid (by rw [hW1, hgx]; exact PkABlk.new w x)
  obtain ⟨g, hg⟩ : ∃ g, g = W1.heap.size := ⟨_, rfl⟩
  obtain ⟨W2, hW2⟩ : ∃ W2, W2 = W1.alloc (.cells (Array.replicate 20 (.int .i64 0)) 55) := ⟨_, rfl⟩
  have hb2 : Below W1.heap.size W1 W2 := by rw [hW2]; exact (Below.refl _ _).alloc (Nat.le_refl _) _
  have hz2 : W2.heap.size = W1.heap.size + 1 := by rw [hW2]; simp
  have HW2' : Hid (WB W2 g fun _ => ⟨0, 0, 0, 0⟩) := Lib.hid (by rw [hW2, hg]; exact WB.new W1)
  have HX2 : Hid (PkABlk W2 gx x) := Lib.hid (HX1.out.below hb2 (by omega))
  have HK2 := Lib.hid ((hK.on hb1).on hb2)
  have hlt := hK.mem.lt
  have hlow := hK.below.size
  have HL : Hid (g ≠ q ∧ g ≠ R ∧ w0.heap.size ≤ g ∧ gx ≠ q ∧ gx ≠ R ∧ gx ≠ g ∧ gx < g ∧ g + 1 = W2.heap.size ∧ R < gx ∧ q < gx) := Lib.hid (by omega)
  have HW1 := Lib.hid hW1
  have HW2 := Lib.hid hW2
  have HGX := Lib.hid hgx
  have HG := Lib.hid hg
  clear hQ hs hX hK hi hW1 hW2 hb1 hb2 hlt hlow hz1 hz2 HX1 hgx hg
  go_upto_region 8 with fail
  rw [← HW1.out, ← HGX.out]
  clear c0 c1 c2 c3 c4 c5 c6
  refine wp_reg (opsOf Tryd.f4 8) (by kernel_rfl) ?_
  refine live8 _ _ _ _ _ _ _ _ _ _ _ _ _ _ _ _ _ _ _ _ _ _ _ _ _ _ _ _ _ _ _ _ _ _ _ _ _ _ _ _ _ _ _ _ _ _ _ _ _ _ _ _ _ _ _ _ _ _ _ _ _ _ _ _ _ _ _ _ _ _ _ _ _ _ _ _ _ _ _ _ _ _ _ _ _ _ _ _ _ _ _ _ _ _ _ _ _ _ _ _ _ _ _ _ _ _ _ _ _ _ _ _ _ _ _ _ _ _ _ _ _ _ _ _ _ _ _ _ _ _ _ _ _ _ _ _ _ _ _ _ _ _ _ _ _ _ _ _ _ _ _ _ _ _ _ _ _ _ W1 ?_
  intro _ w8 e8
  rw [e8, ← HG.out, ← HW2.out]
  clear e8 w8
  go_upto_block 2 with fail
  refine wp_blk (bodyOf Tryd.f4 2) (by kernel_rfl) ?_
  refine live_fill _ _ _ _ _ _ _ _ _ _ _ _ _ _ _ _ _ _ _ _ _ _ _ _ _ _ _ _ _ _ _ _ _ _ _ _ _ _ _ _ _ _ _ _ _ _ _ _ _ _ _ _ _ _ _ _ _ _ _ _ _ _ _ _ _ _ _ _ _ _ _ _ _ _ _ _ _ _ _ _ _ _ _ _ _ _ _ _ _ _ _ _ _ _ _ _ _ _ _ _ _ _ _ _ _ _ _ _ _ _ _ _ _ _ _ _ _ _ _ _ _ _ _ _ _ _ _ _ _ _ _ _ _ _ _ _ _ _ _ _ _ _ _ _ _ _ _ _ _ _ _ _ _ _ s w0 q R g P _ W2 HS.out HK2.out HW2'.out HL.out.1 HL.out.2.1 HL.out.2.2.1 ?_
  intro _ _ _ _ _ _ _ _ _ _ w3 k3 z3 ch3
  as_aux_lemma =>
    have HK3 := Lib.hid k3
    have HZ3 := Lib.hid z3
    have HX3 : Hid (PkABlk w3 gx x) := Lib.hid (HX2.out.kept ch3 HL.out.2.2.2.2.2.1 HL.out.2.2.2.2.2.1)
    have HB3 := Lib.hid ch3.size
    obtain ⟨c0, c1, c2, c3, c4, c5, c6, cl⟩ := HX3.out.cells
    clear k3 z3 ch3
    go_wp2_with fail
    refine (HK3.out.of x.id).mono ?_
    rintro e w4 ⟨rfl, b4⟩
    as_aux_lemma =>
      obtain ⟨m, hm⟩ : ∃ m, m = (atP P x.id).getD mc0 := ⟨_, rfl⟩
      obtain ⟨b1, hb1⟩ : ∃ b1, b1 = (atP P x.id).isSome := ⟨_, rfl⟩
      rw [← hm, ← hb1]
      obtain ⟨gm, hgm⟩ : ∃ gm, gm = w4.heap.size := ⟨_, rfl⟩
      obtain ⟨W5, hW5⟩ : ∃ W5, W5 = w4.alloc (.cells #[.int .i64 m.id, .int .i64 m.cell, .int .i64 m.has.a, .int .i64 m.has.b, .int .i64 m.has.c, .int .i64 m.has.d, .int .i64 m.st] 45) := ⟨_, rfl⟩
      have hb5 : Below w3.heap.size w3 W5 := by rw [hW5]; exact b4.alloc b4.size _
      have hz5 : W5.heap.size = w4.heap.size + 1 := by rw [hW5]; simp
      have HM5 : Hid (McB W5 gm m) := Lib.hid (by rw [hW5, hgm]; exact McB.new w4 m)
      have HK5 := Lib.hid (HK3.out.on hb5)
      have HZ5 := Lib.hid (WB.on hb5 HZ3.out)
      have HX5 : Hid (PkABlk W5 gx x) := Lib.hid (HX3.out.below hb5 (lt_of_row HX3.out))
      have HL5 : Hid (gm ≠ q ∧ gm ≠ R ∧ gm ≠ g ∧ gm ≠ gx ∧ gm < W5.heap.size ∧ g < W5.heap.size) := Lib.hid (by have := HL.out; have := HB3.out; have := b4.size; omega)
      have HW5 := Lib.hid hW5
      have HGM := Lib.hid hgm
      have HMM := Lib.hid hm
      have HBB := Lib.hid hb1
      clear c0 c1 c2 c3 c4 c5 c6 cl b4 hb5 hz5 hW5 hgm hm hb1 HK2 HK3 HZ3 HX2 HX3 HW2'
      obtain ⟨c0, c1, c2, c3, c4, c5, c6, cl⟩ := HX5.out.cells
      go_upto_region 14 with fail
      rw [← HW5.out, ← HGM.out]
      go_upto_block 4 with fail
      refine wp_blk (bodyOf Tryd.f4 4) (by kernel_rfl) ?_
      refine live_deed _ _ _ _ _ _ _ _ _ _ _ _ _ _ _ _ _ _ _ _ _ _ _ _ _ _ _ _ _ _ _ _ _ _ _ _ _ _ _ _ _ _ _ _ _ _ _ _ _ _ _ _ _ _ _ _ _ _ _ _ _ _ _ _ _ _ _ _ _ _ _ _ _ _ _ _ _ _ _ _ _ _ _ _ _ _ _ _ _ _ _ _ _ _ _ _ _ _ _ _ _ _ _ _ _ _ _ _ _ _ _ _ _ _ _ _ _ _ _ _ _ _ _ _ _ _ _ _ _ _ _ _ _ _ _ _ _ _ _ _ _ _ _ _ _ _ _ _ _ _ _ _ _ _ s w0 q R gx P x _ W5 HS.out HK5.out HX5.out ?_
      intro _ _ _ _ _ _ _ _ _ _ _ _ _ _ _ _ _ _ _ _ _ _ w6 R' k6 hR6 ch6
      as_aux_lemma =>
        have HK6 := Lib.hid k6
        have HX6 : Hid (PkABlk w6 gx x) := Lib.hid (HX5.out.kept ch6 HL.out.2.2.2.1 HL.out.2.2.2.2.1)
        have HZ6 := Lib.hid (HZ5.out.row (ch6.block g HL5.out.2.2.2.2.2 HL.out.1 HL.out.2.1))
        have HM6 : Hid (McB w6 gm m) := Lib.hid ((ch6.block gm HL5.out.2.2.2.2.1 HL5.out.1 HL5.out.2.1).trans HM5.out)
        clear k6 hR6 ch6 c0 c1 c2 c3 c4 c5 c6 cl HK5 HX5 HZ5 HM5
        obtain ⟨c0, c1, c2, c3, c4, c5, c6, cl⟩ := HX6.out.cells
        go_wp2_with fail
        refine (HK6.out.of x.id).mono ?_
        rintro e w7 ⟨rfl, b7⟩
        as_aux_lemma =>
          obtain ⟨n, hn⟩ : ∃ n, n = (atP (deedP P x).1 x.id).getD mc0 := ⟨_, rfl⟩
          obtain ⟨b2, hb2⟩ : ∃ b2, b2 = (atP (deedP P x).1 x.id).isSome := ⟨_, rfl⟩
          rw [← hn, ← hb2]
          obtain ⟨gn, hgn⟩ : ∃ gn, gn = w7.heap.size := ⟨_, rfl⟩
          obtain ⟨W8, hW8⟩ : ∃ W8, W8 = w7.alloc (.cells #[.int .i64 n.id, .int .i64 n.cell, .int .i64 n.has.a, .int .i64 n.has.b, .int .i64 n.has.c, .int .i64 n.has.d, .int .i64 n.st] 45) := ⟨_, rfl⟩
          have hb8 : Below w6.heap.size w6 W8 := by rw [hW8]; exact b7.alloc b7.size _
          have HN8 : Hid (McB W8 gn n) := Lib.hid (by rw [hW8, hgn]; exact McB.new w7 n)
          have HM8 := Lib.hid (McB.on hb8 HM6.out)
          have HK8 := Lib.hid (HK6.out.on hb8)
          have HZ8 := Lib.hid (WB.on hb8 HZ6.out)
          have HW8 := Lib.hid hW8
          have HGN := Lib.hid hgn
          have HNN := Lib.hid hn
          have HB2 := Lib.hid hb2
          have HGP := Lib.hid HK.out.good
          have HGS := Lib.hid HK.out.sum
          have HFG : Hid (∀ k : Nat, k < 5 → goodV (if k < 5 then liveP P (k : Int) false else ⟨0, 0, 0, 0⟩) = true) := Lib.hid fun k hk => by rw [if_pos hk]; exact live_good HGS.out HGP.out _
          have HGD : Hid (goodV m.has = true ∧ goodV n.has = true) := Lib.hid ⟨by rw [HMM.out]; exact getD_good HGP.out _, by rw [HNN.out]; exact getD_good HK6.out.good _⟩
          clear c0 c1 c2 c3 c4 c5 c6 cl b7 hb8 hW8 hgn hn hb2 HK6 HZ6 HX6 HM6
          go_upto_region 22 with fail
          rw [← HW8.out, ← HGN.out]
          go_upto_block 5 with fail
          refine wp_blk (bodyOf Tryd.f4 5) (by kernel_rfl) ?_
          by_cases hd : (deedP P x).2 = 0
          · have HLV : Hid (∀ k : Nat, k < 5 → liveP (deedP P x).1 (k : Int) false = addV (subV (if k < 5 then liveP P (k : Int) false else ⟨0, 0, 0, 0⟩) (ctV b1 m (k : Int))) (ctV b2 n (k : Int))) := Lib.hid fun k hk => by
              rw [if_pos hk, deed_live HGP.out x hd, HMM.out, HNN.out, HBB.out, HB2.out, ctV_at, ctV_at]
              rfl
            rw [hd, show errV s 0 = .nilIface from rfl]
            clear hd
            refine live_c1 _ _ _ _ _ _ _ _ _ _ _ _ _ _ _ _ _ _ _ _ _ _ _ _ _ _ _ _ _ _ _ _ _ _ _ _ _ _ _ _ _ _ _ _ _ _ _ _ _ _ _ _ _ _ _ _ _ _ _ _ _ _ _ _ _ _ _ _ _ _ _ _ _ _ _ _ _ _ _ _ _ _ _ _ _ _ _ _ _ _ _ _ _ _ _ _ _ _ _ _ _ _ _ _ _ _ _ _ _ _ _ _ _ _ _ _ _ _ _ _ _ _ _ _ _ _ _ _ _ _ _ _ _ _ _ _ _ _ _ _ _ _ _ _ _ _ _ _ _ s w0 q R' g gm gn (deedP P x).1 m n b1 b2 _ _ W8 HS.out HK8.out HZ8.out HM8.out HN8.out HFG.out HGD.out HLV.out ?_
            intro _ _ _ _ _ _ _ _ _ _ _ _ _ _ _ _ _ _ _ _ _ _ _ _ _ _ _ _ _ _ _ _ _ _ _ _ _ _ _ _ _ _ _ _ _ _ _ _ _ _ _ _ _ _ _ _ _ _ _ _ _ _ _ _ _ _ _ _ w9 k9 m9 n9 b9
            have HK9 := Lib.hid k9
            clear k9 m9 n9 b9
            go_wp2_with fail
            exact HQ.out _ _ _ _ _ _ _ _ _ _ _ _ _ _ _ _ _ _ _ _ _ _ _ _ _ _ _ _ _ _ _ _ _ _ _ _ _ _ _ _ _ _ _ _ _ _ _ _ _ _ _ _ _ _ _ _ _ _ _ _ _ _ _ _ _ _ _ _ _ _ _ _ _ _ _ _ _ _ _ _ _ _ _ _ _ _ _ _ _ _ _ _ _ _ _ _ _ _ _ _ _ _ _ _ _ _ _ _ _ _ _ _ _ _ _ _ _ _ _ _ _ _ _ _ _ _ _ _ _ _ _ _ _ _ _ _ _ _ _ _ _ R' (deedP P x).1 HK9.out
          · have hP := deed_err P x hd
            have HLV : Hid (∀ k : Nat, k < 5 → liveP (deedP P x).1 (k : Int) false = if k < 5 then liveP P (k : Int) false else ⟨0, 0, 0, 0⟩) := Lib.hid fun k hk => by rw [if_pos hk, hP]
            have hmn : n = m := by rw [HNN.out, HMM.out, hP]
            have hbb : b2 = b1 := by rw [HB2.out, HBB.out, hP]
            subst hmn
            subst hbb
            rw [show errV s (deedP P x).2 = .iface 102 (.pointer (some (s ((deedP P x).2 - 1)))) from if_neg hd]
            generalize s ((deedP P x).2 - 1) = ea
            clear hd hP
            refine live_c0 _ _ _ _ _ _ _ _ _ _ _ _ _ _ _ _ _ _ _ _ _ _ _ _ _ _ _ _ _ _ _ _ _ _ _ _ _ _ _ _ _ _ _ _ _ _ _ _ _ _ _ _ _ _ _ _ _ _ _ _ _ _ _ _ _ _ _ _ _ _ _ _ _ _ _ _ _ _ _ _ _ _ _ _ _ _ _ _ _ _ _ _ _ _ _ _ _ _ _ _ _ _ _ _ _ _ _ _ _ _ _ _ _ _ _ _ _ _ _ _ _ _ _ _ _ _ _ _ _ _ _ _ _ _ _ _ _ _ _ _ _ _ _ _ _ _ _ _ _ s w0 q R' g gm gn (deedP P x).1 n n b2 b2 _ _ ea _ W8 HS.out HK8.out HZ8.out HM8.out HN8.out HFG.out HGD.out HLV.out ?_
            intro _ _ _ _ _ _ _ _ _ _ _ _ _ _ _ _ _ _ _ _ _ _ _ _ _ _ _ _ _ _ _ _ _ _ _ _ _ _ _ _ _ _ _ _ _ _ _ _ _ _ _ _ _ _ _ _ _ _ _ _ _ _ _ _ _ _ _ _ w9 k9 m9 n9 b9
            have HK9 := Lib.hid k9
            obtain ⟨d0, d1, d2, d3, d4, d5, d6, df, dl⟩ := m9.facts
            obtain ⟨e0, e1, e2, e3, e4, e5, e6, ef, el⟩ := n9.facts
            have hE : ∀ W : World, (Op.equalIn 10000 45 (.agg #[.int .i64 n.id, .int .i64 n.cell, .int .i64 n.has.a, .int .i64 n.has.b, .int .i64 n.has.c, .int .i64 n.has.d, .int .i64 n.st]) (.agg #[.int .i64 n.id, .int .i64 n.cell, .int .i64 n.has.a, .int .i64 n.has.b, .int .i64 n.has.c, .int .i64 n.has.d, .int .i64 n.st])).run Tryd.prog W = .ok true W := fun W => (eqM n n W).trans (by rw [decide_eq_true rfl])
            have hbb : (b2 != b2) = false := by simp
            clear k9 m9 n9 b9
            go_wp2_with fail
            exact HQ.out _ _ _ _ _ _ _ _ _ _ _ _ _ _ _ _ _ _ _ _ _ _ _ _ _ _ _ _ _ _ _ _ _ _ _ _ _ _ _ _ _ _ _ _ _ _ _ _ _ _ _ _ _ _ _ _ _ _ _ _ _ _ _ _ _ _ _ _ _ _ _ _ _ _ _ _ _ _ _ _ _ _ _ _ _ _ _ _ _ _ _ _ _ _ _ _ _ _ _ _ _ _ _ _ _ _ _ _ _ _ _ _ _ _ _ _ _ _ _ _ _ _ _ _ _ _ _ _ _ _ _ _ _ _ _ _ _ _ _ _ _ R' (deedP P x).1 HK9.out

end Go.Proofs.YtaenpajmgenjhaaDoor
