/- Contracts of the writer's methods: what is written is appended; nothing else that was there has turned. Conditions: integers have 64 bits; what is written is no longer than memory allows. -/
import Derived.Test.YtcahidhcnhgbeaaDoorWireF
import Derived.Maps.AppendAt
import Derived.Lib.AppendStr
import Derived.Laws.BytesArg
namespace Go.Proofs.YtcahidhcnhgbeaaDoor
open Go Go.RowKit

theorem add0 (g j : Nat) : (⟨g, 0, none⟩ : Addr).add j = ⟨g, j, none⟩ := by
  unfold Addr.add; split
  · subst_vars; rfl
  · simp
theorem ret_unit : Ending.returned (.tuple #[]) = .returned (.tuple #[]) := rfl

/-- What an append to the writer's bytes and the store of them leave. -/
theorem OutAt.put {w w3 : World} {p o : Nat} {bs more : List UInt8} {v v' : Value} {N S : Nat} (hp : w.heap[p]? = some (.cells #[v] 27 (0, 0))) (ho : (v = .slice none 0 0 ∧ o = p) ∨ v.ownBlock = some o)
    (hg : w.grownBy w3 v.ownBlock) (hN : N = (bs ++ more).length) (hpos : 0 < N) (hown : w3.ownsRow (p + 1) 5 1 v' N (byteVs bs ++ byteVs more)) (hb : ∀ k, v.ownBlock = some k → p + 1 ≤ k) (hat : v'.ownBlock = v.ownBlock ∨ v'.ownBlock = some S) (hS : w.heap.size = S) :
    ∃ g cap, v' = .slice (some ⟨g, 0, none⟩) N cap ∧ w3.heap[p]? = some (.cells #[v] 27 (0, 0)) ∧ OutAt (w3.setCell ⟨p, 0, none⟩ v') p g (bs ++ more) ∧ Chg p o w (w3.setCell ⟨p, 0, none⟩ v') ∧ (g = o ∨ g = S) := by
  subst hN
  subst hS
  have hlt := (Array.getElem?_eq_some_iff.1 hp).1
  have hp3 : w3.heap[p]? = some (.cells #[v] 27 (0, 0)) := (hg.block p hlt (fun e => by have := hb p e.symm; omega)).trans hp
  have hchg : Chg p o w (w3.setCell ⟨p, 0, none⟩ v') := ((Chg.refl p o w).grown hg (fun k hk => by
    rcases ho with ⟨rfl, _⟩ | ho
    · simp [Value.ownBlock] at hk
    · rw [ho] at hk; cases hk; exact .inr (.inl rfl))).setCell (.inl rfl) _
  rw [byteVs_app] at hown
  rcases hown.2 with ⟨_, h0⟩ | ⟨g, cap, cur, rfl, hbg, hgg, rest⟩
  · omega
  · refine ⟨g, cap, rfl, hp3, ⟨_, one_setCell hp3, ?_, .inr rfl⟩, hchg, ?_⟩
    · exact ownsRow_setCell_other hown (by simp [Value.ownBlock]; omega) _
    · rcases hat with h | h
      · rcases ho with ⟨rfl, _⟩ | ho
        · simp [Value.ownBlock] at h
        · rw [ho] at h; simp [Value.ownBlock] at h; exact .inl h
      · simp [Value.ownBlock] at h; exact .inr h

theorem new_or2 {g o' o B C : Nat} (h : g = o' ∨ g = C) (h' : o' = o ∨ B ≤ o') (hC : B ≤ C) : g = o ∨ B ≤ g := by omega
theorem new_or {g o' o B C : Nat} (h : g = o' ∨ g = C + 1) (h' : o' = o ∨ B ≤ o') (hC : B ≤ C) : g = o ∨ B ≤ g := by omega

theorem small_byte (x : Nat) (h : x < 128) : (x : Int) = ((UInt8.ofNat x).toNat : Int) := by
  rw [byte_toNat x (by omega)]
theorem or128 : ∀ y : Nat, y < 256 → y ||| 128 = y % 128 + 128 := by decide +kernel
theorem great_byte (x : Nat) : bits .or .u8 ((x : Int) % 256) 128 = ((UInt8.ofNat (x % 128 + 128)).toNat : Int) := by
  have e : (x : Int) % 256 = ((x % 256 : Nat) : Int) := by omega
  rw [e, byte_toNat _ (by omega)]
  have h2 := u8_or_nat (x % 256) 128 (by omega) (by omega)
  rw [or128 _ (by omega)] at h2
  rw [show ((128 : Nat) : Int) = 128 from rfl] at h2
  rw [h2]; omega
theorem hle {e : List UInt8} (acc : List UInt8) (x : Nat) (h : acc ++ encU x = e) (h2 : e.length ≤ 10) : acc.length + 1 ≤ 10 := by
  have := encU_pos x
  rw [← h, List.length_append] at h2
  omega

set_option maxHeartbeats 1600000 in
set_option maxRecDepth 100000 in
theorem out_int (n : Int) (p o : Nat) (bs : List UInt8) (w : World) (hn : I64 n) (h : OutAt w p o bs) (hl : bs.length ≤ 70368744177664) :
    Calls Tryd.prog 8 #[.pointer (some ⟨p, 0, none⟩), .int .i64 n] w fun e w' => e = .returned (.tuple #[]) ∧ ∃ o', OutAt w' p o' (bs ++ enc n) ∧ Chg p o w w' ∧ (o' = o ∨ w.heap.size ≤ o') := by
  have hbd := foldI_bd n hn
  go_enter Tryd.func8, Tryd.ntmps8
  go_wp2_with (go_at_call 32; (with_reducible refine (fold_c n _ hn).mono ?_); rintro e w1 ⟨rfl, rfl⟩)
  have HN : Hid (encU (foldI n).toNat = enc n) := rfl
  have hlen := (enc_len n hn).1
  obtain ⟨m, hm⟩ : ∃ m : Nat, foldI n = (m : Int) := ⟨(foldI n).toNat, by omega⟩
  rw [hm] at HN ⊢
  rw [Int.toNat_natCast] at HN
  have hm2 : m < 18446744073709551616 := by omega
  clear hm hbd hn
  have HLen := Lib.hid hlen; clear hlen
  have HM := Lib.hid hm2; clear hm2
  go_loopw [4] (fun u wr => ∃ (x : Nat) (acc : List UInt8) (o' : Nat), u = .int .u64 x ∧ Hid (x < 18446744073709551616) ∧ OutAt wr p o' (bs ++ acc) ∧ Hid (acc ++ encU x = enc n) ∧ Chg p o w wr ∧ (o' = o ∨ w.heap.size ≤ o')) (fun u _ => (intOf u).toNat)
  case atStart => exact ⟨m, [], o, rfl, HM, by simpa using h, by simpa using HN, Chg.refl _ _ _, .inl rfl⟩
  case round =>
    obtain ⟨x, acc, o', rfl, HX, hout, HE, hchg, ho'⟩ := hrel
    have hout' := hout
    obtain ⟨v, hp, hown, ho⟩ := hout'
    have hlt := hout.lt
    have c0 := cell_of_one hp
    have f0 := free_of_one hp
    obtain ⟨i0, hi, hz0, hz1, hz2⟩ := info_parts Tryd.infoB
    have hob : ∀ k, v.ownBlock = some k → p + 1 ≤ k := fun k hk => (hown.lt k hk).1
    have HP := Lib.hid hp; clear hp
    have HO := Lib.hid ho; clear ho
    have HOB := Lib.hid hob; clear hob
    have HL := Lib.hid (hle acc x HE.out HLen.out); clear h
    by_cases h128 : x < 128
    · have he : Hid (acc ++ [UInt8.ofNat x] = enc n) := Lib.hid (by rw [← HE.out, encU_small h128])
      have hv := Lib.hid (small_byte x h128)
      go_wp2_with (first | (at_builtin; refine wpList_append_own_at _ rfl _ _ 25 rfl (p + 1) 5 i0 _ 1 1 Tryd.underlying25 hi hz0 hz1 hz2 rfl (by decide) _ _ _ rfl (hown.alloc _) ⟨wr.heap.size, 0, none⟩ 1 1 (byteVs [UInt8.ofNat x]) rfl rfl ?c1 ?c2 ?c3 ?c4 ?c5 ?_))
      case c1 =>
        intro j u hu
        rw [add0, World.cell?_alloc_at _ _ _ _ rfl]
        match j, hu with
        | 0, hu => rw [hv.out]; exact hu
      case c2 => intro u hu; simp [byteVs] at hu; subst hu; rfl
      case c3 => have := HL.out; simp only [List.length_append] at *; unfold maxLen; omega
      case c4 => have := HL.out; simp only [List.length_append] at *; omega
      case c5 => rw [World.size_alloc]; omega
      intro v' w3 hown' hgrow _ hat
      obtain ⟨g, cap, rfl, hp3, hout3, hchg3, hgo⟩ := OutAt.put (o := o') (bs := bs ++ acc) (more := [UInt8.ofNat x]) ((Below.heap_alloc _ _ _ hlt.1).trans HP.out) HO.out hgrow (by simp; omega) (by omega) hown' HOB.out hat (World.size_alloc _ _)
      have c3' := cell_of_one hp3
      have f3' := free_of_one hp3
      have HC := Lib.hid (hchg.trans (((Chg.refl p o' wr).alloc _).trans hchg3 (.inl rfl)) ho')
      rw [List.append_assoc, he.out] at hout3
      have HO3 := Lib.hid hout3; clear hout3 hchg3 hgrow hown' hat
      have hgo' := Lib.hid (new_or hgo ho' hchg.size); clear hgo
      go_wp2_with fail
      go_end0
      exact ⟨rfl, _, HO3.out, HC.out, hgo'.out⟩
    · obtain ⟨c, hc⟩ : ∃ c : UInt8, UInt8.ofNat (x % 128 + 128) = c := ⟨_, rfl⟩
      have hv := Lib.hid (great_byte x)
      have he : Hid ((acc ++ [UInt8.ofNat (x % 128 + 128)]) ++ encU (x / 128) = enc n) := Lib.hid (by rw [← HE.out, encU_great h128]; simp)
      rw [hc] at hv he
      clear hc
      go_wp2_with (first | (at_builtin; refine wpList_append_own_at _ rfl _ _ 25 rfl (p + 1) 5 i0 _ 1 1 Tryd.underlying25 hi hz0 hz1 hz2 rfl (by decide) _ _ _ rfl (hown.alloc _) ⟨wr.heap.size, 0, none⟩ 1 1 (byteVs [c]) rfl rfl ?c1 ?c2 ?c3 ?c4 ?c5 ?_))
      case c1 =>
        intro j u hu
        rw [add0, World.cell?_alloc_at _ _ _ _ rfl]
        match j, hu with
        | 0, hu => rw [hv.out]; exact hu
      case c2 => intro u hu; simp [byteVs] at hu; subst hu; rfl
      case c3 => have := HL.out; simp only [List.length_append] at *; unfold maxLen; omega
      case c4 => have := HL.out; simp only [List.length_append] at *; omega
      case c5 => rw [World.size_alloc]; omega
      intro v' w3 hown' hgrow _ hat
      obtain ⟨g, cap, rfl, hp3, hout3, hchg3, hgo⟩ := OutAt.put (o := o') (bs := bs ++ acc) (more := [c]) ((Below.heap_alloc _ _ _ hlt.1).trans HP.out) HO.out hgrow (by simp; omega) (by omega) hown' HOB.out hat (World.size_alloc _ _)
      have c3' := cell_of_one hp3
      have f3' := free_of_one hp3
      have HC := Lib.hid (hchg.trans (((Chg.refl p o' wr).alloc _).trans hchg3 (.inl rfl)) ho')
      rw [List.append_assoc] at hout3
      have HO3 := Lib.hid hout3; clear hout3 hchg3 hgrow hown' hat
      have hgo' := Lib.hid (new_or hgo ho' hchg.size); clear hgo
      have HX2 : Hid (x / 128 < 18446744073709551616) := Lib.hid (by have := HX.out; omega)
      go_wp2_with fail
      go_roundw
      case rel => exact ⟨x / 128, _, g, by go_num, HX2, HO3.out, he, HC.out, hgo'.out⟩
      case measure => simp [intOf]; omega

theorem strCells_is (s : ByteArray) : Lib.strCells s = byteVs s.data.toList := by simp [Lib.strCells, byteVs]

/-- An append of a string's bytes to a slice that holds something already, and where the new one lies. -/
theorem run_string_at (P : Program) (w : World) (base : Nat) (t u ty e : TypeId) (i : TypeInfo) (ht : P.underlying t = some (.slice e)) (hu : P.underlying u = some .string) (hi : P.info? e = some i) (hz : i.zero = some (.int .u8 0))
    (hsize : i.size = 1) (hby : i.bytes = 1) (v : Value) (n : Nat) (xs : List Value) (hn : 0 < n) (hown : w.ownsRow base e 1 v n xs) (s : ByteArray)
    (h63 : n + s.size ≤ maxLen) (hbytes : n + s.size ≤ 140737488355328) (hbase : base ≤ w.heap.size) :
    ∃ v' w', (Builtin.append_ #[t, u] ty #[v, .string s]).run P w = .ok v' w' ∧ w'.ownsRow base e 1 v' (n + s.size) (xs ++ Lib.strCells s) ∧ w.grownBy w' v.ownBlock ∧ (v'.ownBlock = v.ownBlock ∨ v'.ownBlock = some w.heap.size) := by
  obtain ⟨v', w', hr, h2, h3, _⟩ := Lib.run_append_own_string (P := P) w base t u ty e i ht hu hi hz hsize hby v n xs hown s h63 hbytes hbase
  refine ⟨v', w', hr, h2, h3, ?_⟩
  rcases hown.2 with ⟨_, h0⟩ | ⟨g, cap, cur, rfl, hbg, hg, hnc, hcm, hcs, htake⟩
  · omega
  · by_cases hroom : n + s.size ≤ cap
    · have hr2 := Lib.run_append_room_string (P := P) w t u ty e i ht hu hi hsize g n cap cur hg s hroom (by omega)
      rw [hr2] at hr
      injection hr with h1 _
      subst h1
      exact .inl rfl
    · have hxl : xs.length = n := by simpa using hown.1
      have holds : ∀ j u, xs[j]? = some u → w.cell? ((⟨g, 0, none⟩ : Addr).add j) = some u := hown.cells (g := g) rfl
      have hr2 := Lib.run_append_grow_string (P := P) w t u ty e i (.int .u8 0) ht hu hi hz ⟨g, 0, none⟩ n cap xs (by rw [hsize]; simpa using hxl) holds s (by omega) (by simp only [maxLen] at h63; omega) (by rw [hby]; exact growslice_fits (by omega) (by omega))
      rw [hr2] at hr
      injection hr with h1 _
      subst h1
      exact .inr rfl

theorem wpList_string_at {P : Program} (w : World) {ops : Array Oper} {rest : List Oper} {o : Oper} {a : Act} {Q : Exit → Act → World → Prop} (hgd : o.guard = none) (sl x : Operand) (t u : TypeId)
    (ho : o.op = .call { callee := .builtin .append, args := #[sl, x], argTypes := #[t, u] })
    (base : Nat) (e : TypeId) (i : TypeInfo) (ht : P.underlying t = some (.slice e)) (hu : P.underlying u = some .string) (hi : P.info? e = some i) (hz : i.zero = some (.int .u8 0))
    (hsize : i.size = 1) (hby : i.bytes = 1) (v : Value) (n : Nat) (xs : List Value) (hn : 0 < n) (hs : a.eval sl = v) (hown : w.ownsRow base e 1 v n xs) (s : ByteArray) (hx : a.eval x = .string s)
    (h63 : n + s.size ≤ maxLen) (hbytes : n + s.size ≤ 140737488355328) (hbase : base ≤ w.heap.size)
    (h : ∀ v' w', w'.ownsRow base e 1 v' (n + s.size) (xs ++ Lib.strCells s) → w.grownBy w' v.ownBlock → (v'.ownBlock = v.ownBlock ∨ v'.ownBlock = some w.heap.size) → wpList P ops Q rest (a.put o.dst v') w') : wpList P ops Q (o :: rest) a w := by
  refine wpList_plain hgd fun K hK => ?_
  obtain ⟨v', w', hr, h2, h3, h4⟩ := run_string_at P w base t u o.type e i ht hu hi hz hsize hby v n xs hn hown s h63 hbytes hbase
  unfold Oper.wp execOp
  simp only [ho, resolve, invoke, builtin, Sem.run_bind, Sem.run_pure, Result.andThen_ok, List.map_toArray, List.map_cons, List.map_nil, hs, hx, hr]
  exact hK _ _ (h v' w' h2 h3 h4)

/-- The bytes of a string. -/
def encT (s : List UInt8) : List UInt8 := enc (s.length : Int) ++ s

set_option maxHeartbeats 1600000 in
set_option maxRecDepth 100000 in
theorem out_text (s : ByteArray) (p o : Nat) (bs : List UInt8) (w : World) (h : OutAt w p o bs) (hl : bs.length ≤ 70368744177664) (hs : s.size ≤ 35184372088832) :
    Calls Tryd.prog 10 #[.pointer (some ⟨p, 0, none⟩), .string s] w fun e w' => e = .returned (.tuple #[]) ∧ ∃ o', OutAt w' p o' (bs ++ encT s.data.toList) ∧ Chg p o w w' ∧ (o' = o ∨ w.heap.size ≤ o') := by
  have hn : I64 (s.size : Int) := by unfold I64; omega
  have HE : Hid (enc (s.size : Int) ++ s.data.toList = encT s.data.toList) := Lib.hid (by unfold encT; rw [show s.data.toList.length = s.size from by simp])
  have hle := enc_len _ hn
  obtain ⟨i0, hi, hz0, hz1, hz2⟩ := info_parts Tryd.infoB
  go_enter Tryd.func10, Tryd.ntmps10
  go_wp2_with fail
  refine (out_int _ p o bs _ hn h hl).mono ?_
  rintro e w1 ⟨rfl, o1, hout, hchg, ho1⟩
  obtain ⟨v, hp, hown, ho⟩ := id hout
  have hlt := hout.lt
  have c0 := cell_of_one hp
  have f0 := free_of_one hp
  have hob : ∀ k, v.ownBlock = some k → p + 1 ≤ k := fun k hk => (hown.lt k hk).1
  have HP := Lib.hid hp; clear hp
  have HO := Lib.hid ho; clear ho
  have HOB := Lib.hid hob; clear hob
  go_wp2_with (first | (at_builtin; refine wpList_string_at _ rfl _ _ 25 9 rfl (p + 1) 5 i0 Tryd.underlying25 Tryd.underlying9 hi hz0 hz1 hz2 _ _ _ ?c0 rfl hown s rfl ?c3 ?c4 ?c5 ?_))
  case c0 => simp only [List.length_append]; omega
  case c3 => simp only [List.length_append]; unfold maxLen; omega
  case c4 => simp only [List.length_append]; omega
  case c5 => omega
  intro v' w3 hown' hgrow hat
  rw [strCells_is] at hown'
  obtain ⟨g, cap, rfl, hp3, hout3, hchg3, hgo⟩ := OutAt.put (o := o1) (bs := bs ++ enc (s.size : Int)) (more := s.data.toList) HP.out HO.out hgrow (by simp; omega) (by omega) hown' HOB.out hat rfl
  have c3' := cell_of_one hp3
  have f3' := free_of_one hp3
  have HC := Lib.hid (hchg.trans hchg3 ho1)
  have hgo' := Lib.hid (new_or2 hgo ho1 hchg.size); clear hgo
  rw [List.append_assoc, HE.out] at hout3
  have HO3 := Lib.hid hout3; clear hout3 hchg3 hgrow hown' hat
  go_wp2_with fail
  go_end0
  exact ⟨rfl, _, HO3.out, HC.out, hgo'.out⟩

/-- The bytes of a vector and of a truth value. -/
def encV (a b c d : Int) : List UInt8 := enc a ++ (enc b ++ (enc c ++ enc d))
def encB (b : Bool) : List UInt8 := if b then enc 1 else enc 0

set_option maxHeartbeats 1600000 in
set_option maxRecDepth 100000 in
theorem out_bool (b : Bool) (p o : Nat) (bs : List UInt8) (w : World) (h : OutAt w p o bs) (hl : bs.length ≤ 70368744177664) :
    Calls Tryd.prog 14 #[.pointer (some ⟨p, 0, none⟩), .bool b] w fun e w' => e = .returned (.tuple #[]) ∧ ∃ o', OutAt w' p o' (bs ++ encB b) ∧ Chg p o w w' ∧ (o' = o ∨ w.heap.size ≤ o') := by
  cases b
  · go_enter Tryd.func14, Tryd.ntmps14
    go_wp2_with fail
    refine (out_int 0 p o bs _ (by unfold I64; omega) h hl).mono ?_
    rintro e w1 ⟨rfl, H⟩
    have H' := Lib.hid H; clear H
    go_wp2_with fail
    go_end0
    exact ⟨rfl, H'.out⟩
  · go_enter Tryd.func14, Tryd.ntmps14
    go_wp2_with fail
    refine (out_int 1 p o bs _ (by unfold I64; omega) h hl).mono ?_
    rintro e w1 ⟨rfl, H⟩
    have H' := Lib.hid H; clear H
    go_wp2_with fail
    go_end0
    exact ⟨rfl, H'.out⟩

theorem byteVs_get (bs : List UInt8) (j : Nat) (hj : j < bs.length) : (byteVs bs)[j]? = some (.int .u8 (bs[j].toNat : Int)) := by simp [byteVs, hj]
/-- The bytes written, as a string. -/
theorem conv_out (w : World) (B n : Nat) (bs : List UInt8) (v : Value) (h : w.ownsRow B 5 1 v n (byteVs bs)) : (convert 25 9 v).run Tryd.prog w = .ok (.string ⟨bs.toArray⟩) w := by
  have hlen : bs.length = n := by have := h.1; rw [byteVs_len] at this; omega
  subst hlen
  rcases h.2 with ⟨rfl, h0⟩ | ⟨g, cap, cur, rfl, hbg, hgg, rest⟩
  · have : bs = [] := List.eq_nil_of_length_eq_zero h0
    subst this
    exact run_convert_bytes_nil (P := Tryd.prog) (w := w) 25 5 Tryd.underlying25 Tryd.underlying5 0 0 _ Tryd.underlying9
  · refine run_convert_bytes_back _ 25 9 5 ⟨g, 0, none⟩ cap bs Tryd.underlying25 Tryd.underlying5 Tryd.underlying9 fun j hj => ?_
    exact h.cells (g := g) rfl j _ (byteVs_get bs j hj)

set_option maxHeartbeats 1600000 in
set_option maxRecDepth 100000 in
theorem out_bytes (p o : Nat) (bs : List UInt8) (w : World) (h : OutAt w p o bs) :
    Calls Tryd.prog 16 #[.pointer (some ⟨p, 0, none⟩)] w fun e w' => e = .returned (.string ⟨bs.toArray⟩) ∧ w = w' := by
  obtain ⟨v, hp, hown, ho⟩ := h
  have c0 := cell_of_one hp
  have hv := conv_out w _ _ bs v hown
  clear hp ho hown
  go_enter Tryd.func16, Tryd.ntmps16
  go_wp2_with fail
  go_ret
  exact ⟨rfl, rfl⟩

theorem vec_app {w : World} {p o : Nat} {bs : List UInt8} {a b c d : Int} (h : OutAt w p o (bs ++ enc a ++ enc b ++ enc c ++ enc d)) : OutAt w p o (bs ++ encV a b c d) := by
  rw [List.append_assoc, List.append_assoc, List.append_assoc] at h; exact h

theorem iv0 (x0 x1 x2 x3 : Value) (w : World) : (Instr.index 29 (.agg #[x0, x1, x2, x3]) (.int .i64 0)).run Tryd.prog w = .ok x0 w := by kernel_rfl
theorem iv1 (x0 x1 x2 x3 : Value) (w : World) : (Instr.index 29 (.agg #[x0, x1, x2, x3]) (.int .i64 1)).run Tryd.prog w = .ok x1 w := by kernel_rfl
theorem iv2 (x0 x1 x2 x3 : Value) (w : World) : (Instr.index 29 (.agg #[x0, x1, x2, x3]) (.int .i64 2)).run Tryd.prog w = .ok x2 w := by kernel_rfl
theorem iv3 (x0 x1 x2 x3 : Value) (w : World) : (Instr.index 29 (.agg #[x0, x1, x2, x3]) (.int .i64 3)).run Tryd.prog w = .ok x3 w := by kernel_rfl

set_option maxHeartbeats 1600000 in
set_option maxRecDepth 100000 in
theorem out_vec (a b c d : Int) (p o : Nat) (bs : List UInt8) (w : World) (ha : I64 a) (hb : I64 b) (hc : I64 c) (hd : I64 d) (h : OutAt w p o bs) (hl : bs.length ≤ 70368744177564) :
    Calls Tryd.prog 12 #[.pointer (some ⟨p, 0, none⟩), .agg #[.int .i64 a, .int .i64 b, .int .i64 c, .int .i64 d]] w fun e w' => e = .returned (.tuple #[]) ∧ ∃ o', OutAt w' p o' (bs ++ encV a b c d) ∧ Chg p o w w' ∧ (o' = o ∨ w.heap.size ≤ o') := by
  have i0 := iv0
  have i1 := iv1
  have i2 := iv2
  have i3 := iv3
  have la := (enc_len a ha).1
  have lb := (enc_len b hb).1
  have lc := (enc_len c hc).1
  have ld := (enc_len d hd).1
  go_enter Tryd.func12, Tryd.ntmps12
  go_wp2_with fail
  refine wp_loop_rounds 5 ?_
  rw [rounds_succ]
  go_wp2_with fail
  refine (out_int a p o bs _ ha (h.alloc _) (by omega)).mono ?_
  rintro e w1 ⟨rfl, o1, h1, g1, q1⟩
  rw [World.size_alloc] at q1
  go_wp2_with fail
  rw [rounds_succ]
  go_wp2_with fail
  refine (out_int b p o1 _ _ hb h1 (by simp only [List.length_append]; omega)).mono ?_
  rintro e w2 ⟨rfl, o2, h2, g2, q2⟩
  go_wp2_with fail
  rw [rounds_succ]
  go_wp2_with fail
  refine (out_int c p o2 _ _ hc h2 (by simp only [List.length_append]; omega)).mono ?_
  rintro e w3 ⟨rfl, o3, h3, g3, q3⟩
  go_wp2_with fail
  rw [rounds_succ]
  go_wp2_with fail
  refine (out_int d p o3 _ _ hd h3 (by simp only [List.length_append]; omega)).mono ?_
  rintro e w4 ⟨rfl, o4, h4, g4, q4⟩
  have hz1 := g1.size
  have hz2 := g2.size
  have hz3 := g3.size
  rw [World.size_alloc] at hz1
  have G := Lib.hid ((Chg.alloc (Chg.refl p o w) (.cells #[.int .i64 a, .int .i64 b, .int .i64 c, .int .i64 d] 29)).trans (g1.trans (g2.trans (g3.trans g4 q3) q2) (by rw [World.size_alloc]; omega)) (.inl rfl))
  have H := Lib.hid (vec_app h4)
  have q := Lib.hid (show o4 = o ∨ w.heap.size ≤ o4 from by omega)
  clear h1 h2 h3 h4 g1 g2 g3 g4 q1 q2 q3 q4 hz1 hz2 hz3
  go_wp2_with fail
  rw [rounds_succ]
  go_wp2_with fail
  go_end0
  exact ⟨rfl, _, H.out, G.out, q.out⟩

/-! A nil writer. -/
set_option maxHeartbeats 1600000 in
theorem nil_int (n : Int) (w : World) : Calls Tryd.prog 8 #[.pointer none, .int .i64 n] w fun e w' => e = .returned (.tuple #[]) ∧ w = w' := by
  go_enter Tryd.func8, Tryd.ntmps8
  go_wp2_with fail
  exact bodyPost_ret (v := .tuple #[]) (by simp [results, Tryd.results8, go_sem]) rfl ⟨rfl, rfl⟩
set_option maxHeartbeats 1600000 in
theorem nil_text (s : ByteArray) (w : World) : Calls Tryd.prog 10 #[.pointer none, .string s] w fun e w' => e = .returned (.tuple #[]) ∧ w = w' := by
  go_enter Tryd.func10, Tryd.ntmps10
  go_wp2_with fail
  exact bodyPost_ret (v := .tuple #[]) (by simp [results, Tryd.results10, go_sem]) rfl ⟨rfl, rfl⟩
set_option maxHeartbeats 1600000 in
theorem nil_bool (b : Bool) (w : World) : Calls Tryd.prog 14 #[.pointer none, .bool b] w fun e w' => e = .returned (.tuple #[]) ∧ w = w' := by
  cases b
  all_goals
    go_enter Tryd.func14, Tryd.ntmps14
    go_wp2_with fail
    refine (nil_int _ _).mono ?_
    rintro e w1 ⟨rfl, rfl⟩
    go_wp2_with fail
    go_end0
    exact ⟨rfl, rfl⟩
set_option maxHeartbeats 1600000 in
theorem nil_bytes (w : World) : Calls Tryd.prog 16 #[.pointer none] w fun e w' => e = .returned (.string ⟨#[]⟩) ∧ w = w' := by
  go_enter Tryd.func16, Tryd.ntmps16
  go_wp2_with fail
  go_ret
  exact ⟨rfl, rfl⟩
set_option maxHeartbeats 1600000 in
set_option maxRecDepth 100000 in
theorem nil_vec (a b c d : Int) (w : World) :
    Calls Tryd.prog 12 #[.pointer none, .agg #[.int .i64 a, .int .i64 b, .int .i64 c, .int .i64 d]] w fun e w' => e = .returned (.tuple #[]) ∧ Below w.heap.size w w' := by
  have i0 := iv0
  have i1 := iv1
  have i2 := iv2
  have i3 := iv3
  go_enter Tryd.func12, Tryd.ntmps12
  go_wp2_with fail
  refine wp_loop_rounds 5 ?_
  rw [rounds_succ]
  go_wp2_with fail
  refine (nil_int _ _).mono ?_
  rintro e w1 ⟨rfl, rfl⟩
  go_wp2_with fail
  rw [rounds_succ]
  go_wp2_with fail
  refine (nil_int _ _).mono ?_
  rintro e w1 ⟨rfl, rfl⟩
  go_wp2_with fail
  rw [rounds_succ]
  go_wp2_with fail
  refine (nil_int _ _).mono ?_
  rintro e w1 ⟨rfl, rfl⟩
  go_wp2_with fail
  rw [rounds_succ]
  go_wp2_with fail
  refine (nil_int _ _).mono ?_
  rintro e w1 ⟨rfl, rfl⟩
  go_wp2_with fail
  rw [rounds_succ]
  go_wp2_with fail
  go_end0
  exact ⟨rfl, (Below.refl _ _).alloc (Nat.le_refl _) _⟩
end Go.Proofs.YtcahidhcnhgbeaaDoor
