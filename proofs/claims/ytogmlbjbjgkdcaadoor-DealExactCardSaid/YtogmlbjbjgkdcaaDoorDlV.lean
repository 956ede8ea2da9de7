/- A round of the law DealExact, walked on its own. Condition: the sentinels lie as the program's text lays them. -/
import Derived.Test.YtogmlbjbjgkdcaaDoorDlTb
import Derived.Test.YtogmlbjbjgkdcaaDoorDlTc
namespace Go.Proofs.YtogmlbjbjgkdcaaDoor
open Go Go.RowKit

/-- The two books, between the rounds. -/
structure TwR (w0 W : World) (q R u U : Nat) (b b' : RB) : Prop where
  bk : BkAt w0 W q R b
  rf : RBk W u U b'
  n1 : q ≠ u
  n2 : q ≠ U
  n3 : R ≠ u
  n4 : R ≠ U
  low : w0.heap.size ≤ u
theorem TwR.on {w0 W W' : World} {q R u U : Nat} {b b' : RB} (h : TwR w0 W q R u U b b') (hb : Below W.heap.size W W') : TwR w0 W' q R u U b b' :=
  ⟨h.bk.on hb, h.rf.on hb, h.n1, h.n2, h.n3, h.n4, h.low⟩
theorem TwR.own {w0 W W' : World} {q R u U R' : Nat} {b b' b2 : RB} (h : TwR w0 W q R u U b b') (t : BkAt w0 W' q R' b2) (hc : Chg q R W W') (hR : R' = R ∨ W.heap.size ≤ R') : TwR w0 W' q R' u U b2 b' := by
  have k1 := h.rf.lt
  have n1 := h.n1; have n2 := h.n2; have n3 := h.n3; have n4 := h.n4
  refine ⟨t, h.rf.off fun k hk => hc.block k (by rcases hk with rfl | rfl; exact k1.1; exact k1.2.1) (by rcases hk with rfl | rfl <;> omega) (by rcases hk with rfl | rfl <;> omega), n1, n2, ?_, ?_, h.low⟩ <;> omega
theorem TwR.ref {w0 W W' : World} {q R u U U' : Nat} {b b' b2 : RB} (h : TwR w0 W q R u U b b') (t : RBk W' u U' b2) (hc : Chg u U W W') (hU : U' = U ∨ W.heap.size ≤ U') : TwR w0 W' q R u U' b b2 := by
  have k1 := h.bk.book.lt
  have k2 := h.rf.lt
  have n1 := h.n1; have n2 := h.n2; have n3 := h.n3; have n4 := h.n4; have lo := h.low
  refine ⟨⟨h.bk.book.same fun k hk => hc.block k (by rcases hk with rfl | rfl; exact k1.1; exact k1.2.1) (by rcases hk with rfl | rfl <;> omega) (by rcases hk with rfl | rfl <;> omega), h.bk.below.trans (hc.below lo (Nat.le_trans lo k2.2.2) h.bk.below.size), h.bk.lowq⟩, t, n1, ?_, n3, ?_, lo⟩ <;> omega
theorem take_len14 (o : Od) : ∀ (S : List Od) (k : Nat), (takeL o S k).length ≤ S.length
  | [], _ => Nat.le_refl _
  | x :: S, k => by
    rw [takeL]
    split
    · simp
    · split
      · have := take_len14 o S (k - min k x.lots.toNat); simp; omega
      · simp
/-- What any match leaves. -/
theorem match_all {b : RB} (o : Od) (h : GB b) : GB (matchO b o).1 ∧ (matchO b o).1.came ≤ b.came + 1 ∧ (matchO b o).2.1.length ≤ 1000 ∧ (matchO b o).2.2.2 ≤ 14 := by
  by_cases he : (addR13 b o).2 = 0
  · have hok := match_ok h he
    refine ⟨hok.gb, hok.came, ?_, by rw [hok.err]; omega⟩
    rw [hok.fills]
    have := take_len14 o (listR13 b.L (!o.sell)) o.lots.toNat
    have := listR13_le b.L (!o.sell)
    have := h.len
    omega
  · rw [match_err he]
    refine ⟨h, Nat.le_succ _, by simp, ?_⟩
    simp only
    unfold addR13
    (repeat' split) <;> exact Nat.le_of_ble_eq_true rfl

/-- What is asked behind it. -/
def exact_roundQ (u1 u17 u18 u19 u20 u21 u22 u23 u24 u25 u26 u27 u28 u29 u30 u31 u32 u33 u34 u183 u184 u185 u186 u187 u188 u189 u190 u191 : Value) (A : Option Addr) (c i : Nat) (X : List Od) (w0 : World) (q u : Nat) (Q : Exit → Act → World → Prop) : Prop :=
  ∀ (v2 v6 v7 v8 v9 v10 v11 v12 v13 v14 v15 v16 v35 v36 v37 v38 v39 v40 v41 v42 v43 v44 v45 v46 v47 v48 v49 v50 v51 v52 v53 v54 v55 v56 v57 v58 v59 v60 v61 v62 v63 v64 v65 v66 v67 v68 v69 v70 v71 v72 v73 v74 v75 v76 v77 v78 v79 v80 v81 v82 v83 v84 v85 v86 v87 v88 v89 v90 v91 v92 v93 v94 v95 v96 v97 v98 v99 v100 v101 v102 v103 v104 v105 v106 v107 v108 v109 v110 v111 v112 v113 v114 v115 v116 v117 v118 v119 v120 v121 v122 v123 v124 v125 v126 v127 v128 v129 v130 v131 v132 v133 v134 v135 v136 v137 v138 v139 v140 v141 v142 v143 v144 v145 v146 v147 v148 v149 v150 v151 v152 v153 v154 v155 v156 v157 v158 v159 v160 v161 v162 v163 v164 v165 v166 v167 v168 v169 v170 v171 v172 v173 v174 v175 v176 v177 v178 v179 v180 v181 v182 : Value) (w' : World) (R' U' : Nat) (b' : RB), TwR w0 w' q R' u U' b' b' → GB b' → b'.came ≤ i + 1 → Q .normal { tmps := #[.slice A X.length c, u1, v2, .pointer (some ⟨q, 0, none⟩), .pointer (some ⟨u, 0, none⟩), .int .i64 (i : Int), v6, v7, v8, v9, v10, v11, v12, v13, v14, v15, v16, u17, u18, u19, u20, u21, u22, u23, u24, u25, u26, u27, u28, u29, u30, u31, u32, u33, u34, v35, v36, v37, v38, v39, v40, v41, v42, v43, v44, v45, v46, v47, v48, v49, v50, v51, v52, v53, v54, v55, v56, v57, v58, v59, v60, v61, v62, v63, v64, v65, v66, v67, v68, v69, v70, v71, v72, v73, v74, v75, v76, v77, v78, v79, v80, v81, v82, v83, v84, v85, v86, v87, v88, v89, v90, v91, v92, v93, v94, v95, v96, v97, v98, v99, v100, v101, v102, v103, v104, v105, v106, v107, v108, v109, v110, v111, v112, v113, v114, v115, v116, v117, v118, v119, v120, v121, v122, v123, v124, v125, v126, v127, v128, v129, v130, v131, v132, v133, v134, v135, v136, v137, v138, v139, v140, v141, v142, v143, v144, v145, v146, v147, v148, v149, v150, v151, v152, v153, v154, v155, v156, v157, v158, v159, v160, v161, v162, v163, v164, v165, v166, v167, v168, v169, v170, v171, v172, v173, v174, v175, v176, v177, v178, v179, v180, v181, v182, u183, u184, u185, u186, u187, u188, u189, u190, u191], defers := [] } w'
set_option maxRecDepth 100000 in
set_option maxHeartbeats 6400000 in
/-- A round: an order comes. -/
theorem exact_round (u1 u2 u6 u7 u8 u9 u10 u11 u12 u13 u14 u15 u16 u17 u18 u19 u20 u21 u22 u23 u24 u25 u26 u27 u28 u29 u30 u31 u32 u33 u34 u35 u36 u37 u38 u39 u40 u41 u42 u43 u44 u45 u46 u47 u48 u49 u50 u51 u52 u53 u54 u55 u56 u57 u58 u59 u60 u61 u62 u63 u64 u65 u66 u67 u68 u69 u70 u71 u72 u73 u74 u75 u76 u77 u78 u79 u80 u81 u82 u83 u84 u85 u86 u87 u88 u89 u90 u91 u92 u93 u94 u95 u96 u97 u98 u99 u100 u101 u102 u103 u104 u105 u106 u107 u108 u109 u110 u111 u112 u113 u114 u115 u116 u117 u118 u119 u120 u121 u122 u123 u124 u125 u126 u127 u128 u129 u130 u131 u132 u133 u134 u135 u136 u137 u138 u139 u140 u141 u142 u143 u144 u145 u146 u147 u148 u149 u150 u151 u152 u153 u154 u155 u156 u157 u158 u159 u160 u161 u162 u163 u164 u165 u166 u167 u168 u169 u170 u171 u172 u173 u174 u175 u176 u177 u178 u179 u180 u181 u182 u183 u184 u185 u186 u187 u188 u189 u190 u191 : Value) (s : Nat → Addr) (A : Option Addr) (c i : Nat) (X : List Od) (w0 : World) (q R u U : Nat) (b : RB) (o : Od) (Q : Exit → Act → World → Prop) (w : World) (hs : Sent s w0) (hX : BOdRow w0 w0.heap.size A X) (hK : TwR w0 w q R u U b b) (hG : GB b) (hcm : b.came ≤ i) (hi40 : i < 40) (ho : X[i]? = some o)
    (hQ : exact_roundQ u1 u17 u18 u19 u20 u21 u22 u23 u24 u25 u26 u27 u28 u29 u30 u31 u32 u33 u34 u183 u184 u185 u186 u187 u188 u189 u190 u191 A c i X w0 q u Q) :
    (Code.block 1 (bodyOf Tryd.f3 1)).wp Tryd.prog Q { tmps := #[.slice A X.length c, u1, u2, .pointer (some ⟨q, 0, none⟩), .pointer (some ⟨u, 0, none⟩), .int .i64 (i : Int), u6, u7, u8, u9, u10, u11, u12, u13, u14, u15, u16, u17, u18, u19, u20, u21, u22, u23, u24, u25, u26, u27, u28, u29, u30, u31, u32, u33, u34, u35, u36, u37, u38, u39, u40, u41, u42, u43, u44, u45, u46, u47, u48, u49, u50, u51, u52, u53, u54, u55, u56, u57, u58, u59, u60, u61, u62, u63, u64, u65, u66, u67, u68, u69, u70, u71, u72, u73, u74, u75, u76, u77, u78, u79, u80, u81, u82, u83, u84, u85, u86, u87, u88, u89, u90, u91, u92, u93, u94, u95, u96, u97, u98, u99, u100, u101, u102, u103, u104, u105, u106, u107, u108, u109, u110, u111, u112, u113, u114, u115, u116, u117, u118, u119, u120, u121, u122, u123, u124, u125, u126, u127, u128, u129, u130, u131, u132, u133, u134, u135, u136, u137, u138, u139, u140, u141, u142, u143, u144, u145, u146, u147, u148, u149, u150, u151, u152, u153, u154, u155, u156, u157, u158, u159, u160, u161, u162, u163, u164, u165, u166, u167, u168, u169, u170, u171, u172, u173, u174, u175, u176, u177, u178, u179, u180, u181, u182, u183, u184, u185, u186, u187, u188, u189, u190, u191], defers := [] } w := by
  simp only [bodyOf, Tryd.f3, blkOf, Option.bind_some, Option.orElse, Option.getD_some, Nat.reduceEqDiff, if_true, if_false, reduceCtorEq]
  have HQ := Lib.hid hQ
  have HS := Lib.hid hs
  have HX := Lib.hid hX
  have HK := Lib.hid hK; have HG := Lib.hid hG; have HCM := Lib.hid hcm; have HOX := Lib.hid ho
  have HMA := Lib.hid (match_all o hG)
  obtain ⟨ad, rfl, c0, c1, c2, c3, c4, c5⟩ := HX.out.cells HK.out.bk.below ho
  have hi0 : (0 : Int) ≤ (i : Int) := by omega
  have hi1 : (i : Int) < (X.length : Int) := by have := (List.getElem?_eq_some_iff.1 ho).1; omega
  have HMC := Lib.hid (match_c s w0 w q R b o HS.out HK.out.bk HG.out (by omega))
  have HRC := Lib.hid (fun (W : World) (hW : RBk W u U b) => rmatch_c u U b o W hW HG.out (by have := HCM.out; omega))
  obtain ⟨b', hb'⟩ : ∃ b', (matchO b o).1 = b' := ⟨_, rfl⟩
  obtain ⟨L, hL⟩ : ∃ L, (matchO b o).2.1 = L := ⟨_, rfl⟩
  obtain ⟨m, hm⟩ : ∃ m, (matchO b o).2.2.1 = m := ⟨_, rfl⟩
  obtain ⟨er, her⟩ : ∃ er, (matchO b o).2.2.2 = er := ⟨_, rfl⟩
  rw [hb', hL, hm, her] at HMC HRC
  rw [hb', hL, her] at HMA
  clear hQ hs hX hK hG hcm ho hb' hL hm her
  go_wp2_with fail
  refine HMC.out.mono ?_
  rintro e w5 ⟨v1, rfl, ho1, ⟨R', t5, l5⟩, g5⟩
  have HK5 := Lib.hid (HK.out.own t5 g5 l5)
  have HV5 := Lib.hid ho1
  have HUW : Hid (u < w.heap.size ∧ U < w.heap.size) := Lib.hid ⟨HK.out.rf.lt.1, HK.out.rf.lt.2.1⟩
  clear t5 l5 g5 ho1 HMC HK c0 c1 c2 c3 c4 c5
  obtain ⟨_, e5, c0, c1, c2, c3, c4, c5⟩ := HX.out.cells HK5.out.bk.below HOX.out
  cases e5
  go_wp2_with fail
  refine (form_c o _).mono ?_
  rintro e w6 ⟨rfl, b6⟩
  have HK6 := Lib.hid (HK5.out.on b6)
  have HV6 := Lib.hid (HV5.out.on b6)
  clear b6 HK5 HV5 c0 c1 c2 c3 c4 c5
  go_wp2_with fail
  refine (HRC.out _ HK6.out.rf).mono ?_
  rintro e w7 ⟨v2, rfl, ho2, ⟨U', t7, l7⟩, g7⟩
  have HK7 := Lib.hid (HK6.out.ref t7 g7 l7)
  have HV7 := Lib.hid (HV6.out.same fun k hk => g7.block k (HV6.out.lt k hk).2 (by have := (HV6.out.lt k hk).1; have := HUW.out; omega) (by have := (HV6.out.lt k hk).1; have := HUW.out; omega))
  have HU7 := Lib.hid ho2.lies
  have HP7 := Lib.hid HV7.out.lies
  clear t7 l7 g7 ho2 HRC HK6 HV6 HV7 HUW
  obtain ⟨a1, c1, rfl⟩ := HP7.out.form
  obtain ⟨a2, c2, rfl⟩ := HU7.out.form
  obtain ⟨N, hN⟩ : ∃ N, L.length = N := ⟨_, rfl⟩
  rw [hN] at HP7 HU7 ⊢
  have HN := Lib.hid hN
  clear hN
  go_wp2_with fail
  refine (kind_errV s er _ (HK7.out.bk.sent HS.out) HMA.out.2.2.2).mono ?_
  rintro e w8 ⟨rfl, b8⟩
  have HK8 := Lib.hid (HK7.out.on b8)
  have HP8 := Lib.hid (HP7.out.onB b8)
  have HU8 := Lib.hid (HU7.out.onB b8)
  clear b8 HK7 HP7 HU7
  go_wp2_with fail
  refine (HK8.out.bk.list HMA.out.1 true).mono ?_
  rintro e w9 ⟨va, rfl, hoa, _, b9⟩
  have HK9 := Lib.hid (HK8.out.on b9)
  have HP9 := Lib.hid (HP8.out.onB b9)
  have HU9 := Lib.hid (HU8.out.onB b9)
  have HA9 := Lib.hid hoa.lies
  clear b9 hoa HK8 HP8 HU8
  obtain ⟨aa9, ca9, rfl⟩ := HA9.out.form
  go_wp2_with fail
  refine (rlist13_c u U' b' true _ HK9.out.rf HMA.out.1.len).mono ?_
  rintro e w10 ⟨vb, rfl, hob, b10⟩
  have HK10 := Lib.hid (HK9.out.on b10)
  have HP10 := Lib.hid (HP9.out.onB b10)
  have HU10 := Lib.hid (HU9.out.onB b10)
  have HA10 := Lib.hid (HA9.out.onB b10)
  have HB10 := Lib.hid hob.lies
  clear b10 hob HK9 HP9 HU9 HA9
  obtain ⟨ab10, cb10, rfl⟩ := HB10.out.form
  have hsm := same13_c _ _ (listR13 b'.L true) (listR13 b'.L true) w10 HA10.out HB10.out (Nat.le_trans (listR13_le _ _) (Nat.le_trans HMA.out.1.len (by omega)))
  rw [decide_eq_true rfl] at hsm
  have HSM := Lib.hid hsm
  clear hsm
  go_wp2_with fail
  refine HSM.out.mono ?_
  rintro e w11 ⟨rfl, b11⟩
  have HK11 := Lib.hid (HK10.out.on b11)
  have HP11 := Lib.hid (HP10.out.onB b11)
  have HU11 := Lib.hid (HU10.out.onB b11)
  clear b11 HK10 HP10 HU10 HA10 HB10 HSM
  go_wp2_with fail
  refine (HK11.out.bk.list HMA.out.1 false).mono ?_
  rintro e w12 ⟨va, rfl, hoa, _, b12⟩
  have HK12 := Lib.hid (HK11.out.on b12)
  have HP12 := Lib.hid (HP11.out.onB b12)
  have HU12 := Lib.hid (HU11.out.onB b12)
  have HA12 := Lib.hid hoa.lies
  clear b12 hoa HK11 HP11 HU11
  obtain ⟨aa12, ca12, rfl⟩ := HA12.out.form
  go_wp2_with fail
  refine (rlist13_c u U' b' false _ HK12.out.rf HMA.out.1.len).mono ?_
  rintro e w13 ⟨vb, rfl, hob, b13⟩
  have HK13 := Lib.hid (HK12.out.on b13)
  have HP13 := Lib.hid (HP12.out.onB b13)
  have HU13 := Lib.hid (HU12.out.onB b13)
  have HA13 := Lib.hid (HA12.out.onB b13)
  have HB13 := Lib.hid hob.lies
  clear b13 hob HK12 HP12 HU12 HA12
  obtain ⟨ab13, cb13, rfl⟩ := HB13.out.form
  have hsm := same13_c _ _ (listR13 b'.L false) (listR13 b'.L false) w13 HA13.out HB13.out (Nat.le_trans (listR13_le _ _) (Nat.le_trans HMA.out.1.len (by omega)))
  rw [decide_eq_true rfl] at hsm
  have HSM := Lib.hid hsm
  clear hsm
  go_wp2_with fail
  refine HSM.out.mono ?_
  rintro e w14 ⟨rfl, b14⟩
  have HK14 := Lib.hid (HK13.out.on b14)
  have HP14 := Lib.hid (HP13.out.onB b14)
  have HU14 := Lib.hid (HU13.out.onB b14)
  clear b14 HK13 HP13 HU13 HA13 HB13 HSM
  go_upto_block 2 with fail
  refine wp_blk (bodyOf Tryd.f3 2) (by kernel_rfl) ?_
  refine exact_lp1 _ _ _ _ _ _ _ _ _ _ _ _ _ _ _ _ _ _ _ _ _ _ _ _ _ _ _ _ _ _ _ _ _ _ _ _ _ _ _ _ _ _ _ _ _ _ _ _ _ _ _ _ _ _ _ _ _ _ _ _ _ _ _ _ _ _ _ _ _ _ _ _ _ _ _ _ _ _ _ _ _ _ _ _ _ _ _ _ _ _ _ _ _ _ _ _ _ _ _ _ _ _ _ _ _ _ _ _ _ _ _ _ _ _ _ _ _ _ _ _ _ _ _ _ _ _ _ _ _ _ _ _ _ _ _ _ _ _ _ _ _ _ _ _ _ _ _ _ _ _ _ _ _ _ _ _ _ _ _ _ _ _ _ _ _ _ _ _ _ _ _ _ _ _ _ _ _ _ _ _ _ _ _ _ _ _ _ _ a1 a2 N c1 c2 L _ w14 HP14.out HU14.out HN.out (by rw [← HN.out]; exact HMA.out.2.2.1) ?_
  intro _ _ _ _ _ _ _ _ _ _ _ _ _ _ _ _ _ _ _ _ _ _ _ _ _ _ _ _ _ _ _ _ _ _ _ _ _ _ _ _ _ _ _ _ _ _ _ _ _ _ _ _ _ _ _ _ _ wd bd
  have HKd := Lib.hid (HK14.out.on bd)
  have HPd := Lib.hid (HP14.out.onB bd)
  clear bd HK14 HP14 HU14
  have HWC := Lib.hid (worth_c (.slice a1 N c1) L wd HPd.out (by rw [HN.out, ← HN.out]; exact HMA.out.2.2.1))
  generalize wrap64 (worthF L) = wf at HWC ⊢
  go_wp2_with fail
  refine HWC.out.mono ?_
  rintro e we ⟨rfl, be⟩
  have HKe := Lib.hid (HKd.out.on be)
  clear be HKd HPd HWC
  obtain ⟨_, e5, c0, c1, c2, c3, c4, c5⟩ := HX.out.cells HKe.out.bk.below HOX.out
  cases e5
  go_upto_block 4 with fail
  obtain ⟨W6, hW6⟩ : ∃ W6, we.alloc (.cells #[.int .i64 o.id, .int .i64 o.tn, .bool o.sell, .int .i64 o.price, .int .i64 o.lots, .int .i64 o.seq] 36) = W6 := ⟨_, rfl⟩
  obtain ⟨g, hg⟩ : ∃ g, we.heap.size = g := ⟨_, rfl⟩
  have hb6 : Below we.heap.size we W6 := by rw [← hW6]; exact (Below.refl _ _).alloc (Nat.le_refl _) _
  have HKf := Lib.hid (HKe.out.on hb6)
  have HOf : Hid (BOdBlk W6 g o) := Lib.hid (by rw [← hW6, ← hg]; exact BOdBlk.new we o)
  try rw [hW6]
  try rw [hg]
  clear hW6 hg hb6 HKe c0 c1 c2 c3 c4 c5
  refine wp_blk (bodyOf Tryd.f3 4) (by kernel_rfl) ?_
  refine exact_lp2 _ _ _ _ _ _ _ _ _ _ _ _ _ _ _ _ _ _ _ _ _ _ _ _ _ _ _ _ _ _ _ _ _ _ _ _ _ _ _ _ _ _ _ _ _ _ _ _ _ _ _ _ _ _ _ _ _ _ _ _ _ _ _ _ _ _ _ _ _ _ _ _ _ _ _ _ _ _ _ _ _ _ _ _ _ _ _ _ _ _ _ _ _ _ _ _ _ _ _ _ _ _ _ _ _ _ _ _ _ _ _ _ _ _ _ _ _ _ _ _ _ _ _ _ _ _ _ _ _ _ _ _ _ _ _ _ _ _ _ _ _ _ _ _ _ _ _ _ _ _ _ _ _ _ _ _ _ _ _ _ _ _ _ _ _ _ _ _ _ _ _ _ _ _ _ _ _ _ _ _ _ _ _ _ _ _ _ _ _ (some ad) c g X w0 o _ W6 HX.out HKf.out.bk.below HOf.out ?_
  intro _ _ _ _ _ _ _ _ _ _ _ _ _ _ _ _ _ _ _ _ _ _ _ _ _ _ _ _ _ _ _ _ _ _ _ wg bg
  have HKg := Lib.hid (HKf.out.on bg)
  clear bg HKf HOf
  go_wp2_with fail
  exact HQ.out _ _ _ _ _ _ _ _ _ _ _ _ _ _ _ _ _ _ _ _ _ _ _ _ _ _ _ _ _ _ _ _ _ _ _ _ _ _ _ _ _ _ _ _ _ _ _ _ _ _ _ _ _ _ _ _ _ _ _ _ _ _ _ _ _ _ _ _ _ _ _ _ _ _ _ _ _ _ _ _ _ _ _ _ _ _ _ _ _ _ _ _ _ _ _ _ _ _ _ _ _ _ _ _ _ _ _ _ _ _ _ _ _ _ _ _ _ _ _ _ _ _ _ _ _ _ _ _ _ _ _ _ _ _ _ _ _ _ _ _ _ _ _ _ _ _ _ _ _ _ _ _ _ _ _ _ _ _ _ _ _ R' U' b' HKg.out HMA.out.1 (by have h1 := HCM.out; have h2 := HMA.out.2.1; omega)

end Go.Proofs.YtogmlbjbjgkdcaaDoor
