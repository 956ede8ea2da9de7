/- The program's book by contracts: the order of priority, the library's slices.SortFunc by it. Condition: the row is one that the calls have made, of orders of one side. -/
import Derived.Test.YtogmlbjbjgkdcaaDoorBkC
import Derived.Test.YtogmlbjbjgkdcaaDoorOdP
import Derived.Shelf.SlSortCmp.NoneTotal
namespace Go.Proofs.YtogmlbjbjgkdcaaDoor
open Go Go.RowKit Go.Sort Go.Shelf

/-- The first of two that is not 0. -/
def or2 (a b : Int) : Int := if a ≠ 0 then a else b
/-- The program's order of priority. -/
def cmpO (x y : Od) : Int := or2 (if x.sell = true then cmpI x.price y.price else - cmpI x.price y.price) (cmpI x.seq y.seq)
theorem cmpO_ahead (x y : Od) : ltOf cmpO x y = aheadO x y := by
  unfold ltOf cmpO or2 aheadO
  rcases cmpI_cases x.price y.price with ⟨h, e⟩ | ⟨h, e⟩ | ⟨h, e⟩
  · rw [e, if_pos (show x.price ≠ y.price by omega), decide_eq_true h]
    cases x.sell <;> simp
  · rw [e, h]
    rcases cmpI_cases x.seq y.seq with ⟨k, f⟩ | ⟨k, f⟩ | ⟨k, f⟩
    · rw [f, decide_eq_true k]; cases x.sell <;> simp
    · rw [f, k]; cases x.sell <;> simp
    · rw [f, decide_eq_false (show ¬ x.seq < y.seq by omega)]; cases x.sell <;> simp
  · rw [e, if_pos (show x.price ≠ y.price by omega), decide_eq_false (show ¬ x.price < y.price by omega)]
    cases x.sell <;> simp

set_option maxRecDepth 100000 in
/-- cmp.Or at two numbers in a block. -/
theorem or2_c (g : Nat) (a b : Int) (W : World) (h : W.heap[g]? = some (.cells #[.int .i64 a, .int .i64 b] 3 (0, 0))) :
    Calls Tryd.prog 45 #[.slice (some ⟨g, 0, none⟩) 2 2] W fun e w' => e = .returned (.int .i64 (or2 a b)) ∧ w' = W := by
  have c0 := cell_of_heap h 0
  have c1 := cell_of_heap h 1
  simp at c0 c1
  clear h
  by_cases h0 : a = 0
  · subst h0
    by_cases h1 : b = 0
    · subst h1
      rw [show or2 0 0 = 0 from rfl]
      go_enter Tryd.func45, Tryd.ntmps45
      go_wp2
      go_rounds 3
      go_ret
      exact ⟨rfl, rfl⟩
    · have e1 : (b != 0) = true := by simpa using h1
      rw [show or2 0 b = b from rfl]
      clear h1
      go_enter Tryd.func45, Tryd.ntmps45
      go_wp2
      go_rounds 3
      refine bodyPost_ret (v := .int .i64 b) (by simp [results, Tryd.results45, go_sem]) rfl ?_
      exact ⟨rfl, rfl⟩
  · have e0 : (a != 0) = true := by simpa using h0
    rw [show or2 a b = a from if_pos h0]
    clear h0
    go_enter Tryd.func45, Tryd.ntmps45
    go_wp2
    go_rounds 3
    refine bodyPost_ret (v := .int .i64 a) (by simp [results, Tryd.results45, go_sem]) rfl ?_
    exact ⟨rfl, rfl⟩

theorem heap_at_new {W : World} {g : Nat} (hg : g = W.heap.size) (o : Obj) : (W.alloc o).heap[g]? = some o := by subst hg; exact heap_alloc_new W o
set_option maxRecDepth 100000 in
set_option maxHeartbeats 800000 in
/-- The program's order of priority. -/
theorem priority_c (x y : Od) (W : World) : Calls Tryd.prog 31 #[.agg #[.int .i64 x.id, .int .i64 x.tn, .bool x.sell, .int .i64 x.price, .int .i64 x.lots, .int .i64 x.seq], .agg #[.int .i64 y.id, .int .i64 y.tn, .bool y.sell, .int .i64 y.price, .int .i64 y.lots, .int .i64 y.seq]] W fun e w' => e = .returned (.int .i64 (cmpO x y)) ∧ Gw W w' := by
  obtain ⟨xi, xt, xs, xp, xl, xq⟩ := x
  obtain ⟨yi, yt, ys, yp, yl, yq⟩ := y
  unfold cmpO
  simp only
  have CP := Lib.hid (compare_c xp yp)
  have CS := Lib.hid (compare_c xq yq)
  have CO := Lib.hid or2_c
  obtain ⟨D, hD⟩ : ∃ D, cmpI xq yq = D := ⟨_, rfl⟩
  obtain ⟨C, hC⟩ : ∃ C, cmpI xp yp = C := ⟨_, rfl⟩
  have hc : -1 ≤ C ∧ C ≤ 1 := by rcases cmpI_cases xp yp with ⟨_, e⟩ | ⟨_, e⟩ | ⟨_, e⟩ <;> omega
  rw [hD] at CS ⊢
  rw [hC] at CP ⊢
  clear hD hC
  have hneg : wrap64 (-C) = -C := by unfold wrap64; omega
  have hneg2 : IntKind.i64.wrap (-C) = -C := IntWalk.i64_in _ (by omega)
  cases xs
  · rw [if_neg (by decide)]
    go_enter Tryd.func31, Tryd.ntmps31
    go_wp2_with fail
    refine (CP.out _).mono ?_
    rintro e w1 ⟨rfl, rfl⟩
    go_wp2_with fail
    refine (CS.out _).mono ?_
    rintro e w2 ⟨rfl, rfl⟩
    go_wp2_with fail
    refine (CO.out _ (-C) D _ (heap_at_new (by simp) _)).mono ?_
    rintro e w3 ⟨rfl, rfl⟩
    go_wp2_with fail
    go_ret
    exact ⟨rfl, (((Gw.refl _).alloc _).alloc _).alloc _⟩
  · rw [if_pos rfl]
    go_enter Tryd.func31, Tryd.ntmps31
    go_wp2_with fail
    refine (CP.out _).mono ?_
    rintro e w1 ⟨rfl, rfl⟩
    go_wp2_with fail
    refine (CS.out _).mono ?_
    rintro e w2 ⟨rfl, rfl⟩
    go_wp2_with fail
    refine (CO.out _ C D _ (heap_at_new (by simp) _)).mono ?_
    rintro e w3 ⟨rfl, rfl⟩
    go_wp2_with fail
    go_ret
    exact ⟨rfl, (((Gw.refl _).alloc _).alloc _).alloc _⟩

/-- Orders of one side. -/
abbrev OdS (sell : Bool) := { x : Od // x.sell = sell }
instance instOdS (sell : Bool) : Inhabited (OdS sell) := ⟨⟨{ od0 with sell := sell }, rfl⟩⟩
def encS (sell : Bool) : EncK (OdS sell) 6 := ⟨fun x => encOd.enc x.1, fun x => encOd.len x.1, fun x => encOd.one x.1⟩
def cmpS (sell : Bool) (x y : OdS sell) : Int := cmpO x.1 y.1
theorem ltS (sell : Bool) (x y : OdS sell) : ltOf (cmpS sell) x y = aheadO x.1 y.1 := cmpO_ahead x.1 y.1
theorem ahead_ntrans {a b c : Od} (hab : a.sell = b.sell) (_hbc : b.sell = c.sell) (h1 : aheadO a b = false) (h2 : aheadO b c = false) : aheadO a c = false := by
  unfold aheadO at *
  rw [← hab] at h2
  cases hs : a.sell <;> simp only [hs] at h1 h2 ⊢ <;> (repeat' split at h1) <;> (repeat' split at h2) <;> (repeat' split) <;> simp_all <;> omega
theorem ahead_irrefl (a : Od) : aheadO a a = false := by simp [aheadO]
/-- It is a strict weak order, of the orders of one side. -/
theorem swoS (sell : Bool) : SWO (ltOf (cmpS sell)) where
  irrefl x := by rw [ltS]; exact ahead_irrefl _
  trans x y z h1 h2 := by rw [ltS] at *; exact ahead_trans (x.2.trans y.2.symm) (y.2.trans z.2.symm) h1 h2
  ntrans x y z h1 h2 := by rw [ltS] at *; exact ahead_ntrans (x.2.trans y.2.symm) (y.2.trans z.2.symm) h1 h2

/-- The numbers of the library's text in this program. -/
def renSB : Ren := ⟨fun | 6 => 30 | 14 => 42 | 15 => 43 | 20 => 49 | 21 => 50 | 22 => 51 | 23 => 52 | 24 => 53 | 25 => 54 | 26 => 55 | 27 => 56 | 28 => 57 | 29 => 58 | 46 => 60 | 47 => 61 | 48 => 62 | 49 => 63 | 50 => 64 | 57 => 65 | n => n, fun | 0 => 0 | 3 => 3 | 4 => 4 | 5 => 5 | 9 => 9 | 22 => 22 | 24 => 36 | 25 => 73 | 39 => 57 | 45 => 103 | 46 => 104 | 50 => 108 | 53 => 111 | 55 => 113 | 66 => 116 | 70 => 120 | 76 => 122 | 77 => 123 | n => n, fun n => n⟩
theorem laySB : SlLaysF0.n6 Tryd.prog renSB where
  mixed := by kernel_rfl
  f6 := ⟨Tryd.f30.name, by kernel_rfl, Tryd.func30.trans (congrArg some (by kernel_rfl))⟩
  f14 := ⟨Tryd.f42.name, by kernel_rfl, Tryd.func42.trans (congrArg some (by kernel_rfl))⟩
  f15 := Tryd.func43.trans (congrArg some (by kernel_rfl))
  f20 := ⟨Tryd.f49.name, by kernel_rfl, Tryd.func49.trans (congrArg some (by kernel_rfl))⟩
  f21 := ⟨Tryd.f50.name, by kernel_rfl, Tryd.func50.trans (congrArg some (by kernel_rfl))⟩
  f22 := ⟨Tryd.f51.name, by kernel_rfl, Tryd.func51.trans (congrArg some (by kernel_rfl))⟩
  f23 := ⟨Tryd.f52.name, by kernel_rfl, Tryd.func52.trans (congrArg some (by kernel_rfl))⟩
  f24 := ⟨Tryd.f53.name, by kernel_rfl, Tryd.func53.trans (congrArg some (by kernel_rfl))⟩
  f25 := ⟨Tryd.f54.name, by kernel_rfl, Tryd.func54.trans (congrArg some (by kernel_rfl))⟩
  f26 := ⟨Tryd.f55.name, by kernel_rfl, Tryd.func55.trans (congrArg some (by kernel_rfl))⟩
  f27 := ⟨Tryd.f56.name, by kernel_rfl, Tryd.func56.trans (congrArg some (by kernel_rfl))⟩
  f28 := Tryd.func57.trans (congrArg some (by kernel_rfl))
  f29 := Tryd.func58.trans (congrArg some (by kernel_rfl))
  f46 := ⟨Tryd.f60.name, by kernel_rfl, Tryd.func60.trans (congrArg some (by kernel_rfl))⟩
  f47 := Tryd.func61.trans (congrArg some (by kernel_rfl))
  f48 := Tryd.func62.trans (congrArg some (by kernel_rfl))
  f49 := ⟨Tryd.f63.name, by kernel_rfl, Tryd.func63.trans (congrArg some (by kernel_rfl))⟩
  f50 := ⟨Tryd.f64.name, by kernel_rfl, Tryd.func64.trans (congrArg some (by kernel_rfl))⟩
  f57 := ⟨Tryd.f65.name, by kernel_rfl, Tryd.func65.trans (congrArg some (by kernel_rfl))⟩
  t0 := Tryd.underlying0
  a0 := Tryd.isAgg0
  z0 := Tryd.sizeOf0
  v0 := Tryd.zeroValue0
  t3 := Tryd.underlying3
  a3 := Tryd.isAgg3
  z3 := Tryd.sizeOf3
  v3 := Tryd.zeroValue3
  t4 := Tryd.underlying4
  a4 := Tryd.isAgg4
  z4 := Tryd.sizeOf4
  v4 := Tryd.zeroValue4
  t5 := Tryd.underlying5
  a5 := Tryd.isAgg5
  z5 := Tryd.sizeOf5
  v5 := Tryd.zeroValue5
  t9 := Tryd.underlying9
  a9 := Tryd.isAgg9
  z9 := Tryd.sizeOf9
  v9 := Tryd.zeroValue9
  t22 := Tryd.underlying22
  a22 := Tryd.isAgg22
  z22 := Tryd.sizeOf22
  v22 := Tryd.zeroValue22
  t25 := Tryd.underlying73
  a25 := Tryd.isAgg73
  z25 := Tryd.sizeOf73
  v25 := Tryd.zeroValue73
  t39 := Tryd.underlying57
  a39 := Tryd.isAgg57
  z39 := Tryd.sizeOf57
  v39 := Tryd.zeroValue57
  t45 := Tryd.underlying103
  a45 := Tryd.isAgg103
  z45 := Tryd.sizeOf103
  v45 := Tryd.zeroValue103
  t46 := Tryd.underlying104
  a46 := Tryd.isAgg104
  z46 := Tryd.sizeOf104
  v46 := Tryd.zeroValue104
  t50 := Tryd.underlying108
  a50 := Tryd.isAgg108
  z50 := Tryd.sizeOf108
  v50 := Tryd.zeroValue108
  t53 := Tryd.underlying111
  a53 := Tryd.isAgg111
  z53 := Tryd.sizeOf111
  v53 := Tryd.zeroValue111
  t55 := Tryd.underlying113
  a55 := Tryd.isAgg113
  z55 := Tryd.sizeOf113
  v55 := Tryd.zeroValue113
  t66 := Tryd.underlying116
  a66 := Tryd.isAgg116
  z66 := Tryd.sizeOf116
  v66 := Tryd.zeroValue116
  t70 := Tryd.underlying120
  a70 := Tryd.isAgg120
  z70 := Tryd.sizeOf120
  v70 := Tryd.zeroValue120
  t76 := Tryd.underlying122
  a76 := Tryd.isAgg122
  z76 := Tryd.sizeOf122
  v76 := Tryd.zeroValue122
  t77 := Tryd.underlying123
  a77 := Tryd.isAgg123
  z77 := Tryd.sizeOf123
  v77 := Tryd.zeroValue123


theorem cmpLaysS (sell : Bool) (blk off size : Nat) (w : World) : CmpLays Tryd.prog 31 #[] (encS sell).enc 6 (cmpS sell) blk off size w := fun _ _ _ _ x y => priority_c x.1 y.1 _
theorem perm_sortedG {α : Type} [Inhabited α] {cf : α → α → Int} {L : List α} {d' : Array α} (h : PermIn 0 L.toArray.size L.toArray d') (hs : SortedIn (ltOf cf) 0 L.toArray.size d') : d'.toList.Perm L ∧ d'.toList.Pairwise fun a b => ltOf cf b a = false := by
  obtain ⟨h1, _, h3⟩ := h
  have e1 : d'.extract 0 L.toArray.size = d' := by rw [← h1]; simp
  have e2 : L.toArray.extract 0 L.toArray.size = L.toArray := by simp
  rw [e1, e2] at h3
  refine ⟨by simpa using h3, ?_⟩
  refine List.pairwise_iff_getElem.2 fun i j hi hj hij => ?_
  have hj' : j < L.toArray.size := by rw [← h1]; simpa using hj
  have := hs i j (Nat.zero_le _) hij hj'
  rw [getElem!_pos d' j (by simpa using hj), getElem!_pos d' i (by simpa using hi)] at this
  simpa using this

/-- slices.SortFunc of orders of one side by the program's order of priority. -/
theorem sortO_own (sell : Bool) (base : Nat) (v : Value) (L : List Od) (w : World) (h : OwnE encOd 36 w base v L) (hs : ∀ x ∈ L, x.sell = sell) (hl : L.length ≤ 1000000) :
    Calls Tryd.prog 30 #[v, .func (.func 31) #[] #[]] w fun e w' => e = .returned (.tuple #[]) ∧ ∃ M, M.Perm L ∧ (M.Pairwise fun a b => aheadO b a = false) ∧ OwnE encOd 36 w' base v M ∧ w.grownBy w' v.ownBlock := by
  obtain ⟨L', hL'⟩ : ∃ L' : List (OdS sell), L'.map (·.1) = L := ⟨L.attach.map fun x => ⟨x.1, hs x.1 x.2⟩, by rw [List.map_map]; exact List.attach_map_subtype_val L⟩
  subst hL'
  have hE : ∀ y : OdS sell, (encS sell).enc y = encOd.enc y.1 := fun _ => rfl
  have h' := (ownE_map hE).2 h
  rw [List.length_map] at hl
  rcases ownE_shape h' with ⟨rfl, hnil⟩ | ⟨g, cap, rfl, hb, hg, hH, hown⟩
  · refine (AnyF.slices_SortFunc_none laySB none 0 _ w).mono ?_
    rintro e w' ⟨rfl, rfl⟩
    rw [hnil] at h ⊢
    exact ⟨rfl, [], List.Perm.refl _, List.Pairwise.nil, h, World.grownBy.refl _ _⟩
  · have eg : ∀ args w, (callFunc 31 args).run Tryd.prog w = .ok (.enter 31 args) w := enters_of Tryd.func31 (by kernel_rfl) rfl
    have hsz : L'.toArray.size = L'.length := by simp
    have hcon := AnyQ.slices_SortFunc laySB 6 Tryd.isAgg36 Tryd.sizeOf36 (encS sell).enc (encS sell).len (encS sell).one (cmpS sell) (swoS sell) 31 #[] g 0 cap L'.toArray w eg (cmpLaysS sell g 0 _ w) hH hg (by rw [hsz]; omega)
    rw [hsz] at hcon
    refine hcon.mono ?_
    rintro e w' ⟨rfl, d', n, os, hp, ho, rfl⟩
    rw [← hsz] at hp ho
    obtain ⟨k1, k2⟩ := perm_sortedG hp ho
    obtain ⟨r1, r2⟩ := hown n os d'.toList k1.length_eq
    have ed : d'.toList.toArray = d' := by simp
    rw [ed] at r1 r2
    refine ⟨rfl, d'.toList.map Subtype.val, k1.map _, ?_, (ownE_map hE).1 r1, r2⟩
    rw [List.pairwise_map]
    exact k2.imp fun {a b} h => by rw [ltS] at h; exact h
end Go.Proofs.YtogmlbjbjgkdcaaDoor
