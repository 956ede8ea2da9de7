/- Reading back what was written, in plain words; slices of integers that came in; two writers side by side. -/
import Derived.Test.YtcahidhcnhgbeaaDoorWireA
namespace Go.Proofs.YtcahidhcnhgbeaaDoor
open Go Go.RowKit

theorem drop_app (A R : List UInt8) : (A ++ R).drop A.length = R := by simp
theorem intS_app {T : ByteArray} {A R : List UInt8} {n : Int} {b : Option Nat} (hT : T.data.toList = A ++ (enc n ++ R)) (hn : I64 n) : intS T ⟨A.length, b⟩ = (some n, ⟨A.length + (enc n).length, b⟩) :=
  intS_some (n := n) (k := (enc n).length) (by simp only [hT]; rw [drop_app]; exact dec_of_enc n R hn)
theorem extract_app {T : ByteArray} {A S R : List UInt8} (hT : T.data.toList = A ++ (S ++ R)) : T.extract A.length (A.length + S.length) = ⟨S.toArray⟩ := by
  apply ByteArray.ext
  apply Array.ext'
  rw [ByteArray.data_extract, Array.toList_extract, hT, List.extract_eq_take_drop, drop_app]
  simp
theorem size_app {T : ByteArray} {L : List UInt8} (hT : T.data.toList = L) : T.size = L.length := by rw [← hT]; simp
theorem textS_app {T : ByteArray} {A S R : List UInt8} {most : Int} (hT : T.data.toList = A ++ (encT S ++ R)) (hS : (S.length : Int) ≤ 9223372036854775807) (hm : (S.length : Int) ≤ most) :
    textS T most ⟨A.length, none⟩ = (⟨S.toArray⟩, ⟨A.length + (encT S).length, none⟩) := by
  have h1 : T.data.toList = A ++ (enc (S.length : Int) ++ (S ++ R)) := by rw [hT]; simp [encT]
  have h2 := intS_app (b := none) h1 (by unfold I64; omega)
  have h3 : T.data.toList = (A ++ enc (S.length : Int)) ++ (S ++ R) := by rw [h1]; simp
  have h4 := extract_app h3
  have hz := size_app h3
  simp only [List.length_append] at h4 hz
  unfold textS
  rw [h2]
  simp only
  rw [if_neg (by omega)]
  simp only [Int.toNat_natCast, Prod.mk.injEq, St.mk.injEq, and_true]
  refine ⟨h4, ?_⟩
  simp [encT]; omega
theorem boolS_app {T : ByteArray} {A R : List UInt8} {t : Bool} (hT : T.data.toList = A ++ (encB t ++ R)) : boolS T ⟨A.length, none⟩ = (t, ⟨A.length + (encB t).length, none⟩) := by
  cases t
  · have h1 : T.data.toList = A ++ (enc 0 ++ R) := hT
    have h2 := intS_app (b := none) h1 (by unfold I64; omega)
    unfold boolS; rw [h2]; rfl
  · have h1 : T.data.toList = A ++ (enc 1 ++ R) := hT
    have h2 := intS_app (b := none) h1 (by unfold I64; omega)
    unfold boolS; rw [h2]; rfl
theorem vecS_app {T : ByteArray} {A R : List UInt8} {a b c d : Int} (hT : T.data.toList = A ++ (encV a b c d ++ R)) (ha : I64 a) (hb : I64 b) (hc : I64 c) (hd : I64 d) :
    vecS T ⟨A.length, none⟩ = (⟨a, b, c, d⟩, ⟨A.length + (encV a b c d).length, none⟩) := by
  have h1 : T.data.toList = A ++ (enc a ++ (enc b ++ (enc c ++ (enc d ++ R)))) := by rw [hT]; simp [encV]
  have e1 := intS_app (b := none) h1 ha
  have h2 : T.data.toList = (A ++ enc a) ++ (enc b ++ (enc c ++ (enc d ++ R))) := by rw [h1]; simp
  have e2 := intS_app (b := none) h2 hb
  have h3 : T.data.toList = (A ++ enc a ++ enc b) ++ (enc c ++ (enc d ++ R)) := by rw [h2]; simp
  have e3 := intS_app (b := none) h3 hc
  have h4 : T.data.toList = (A ++ enc a ++ enc b ++ enc c) ++ (enc d ++ R) := by rw [h3]; simp
  have e4 := intS_app (b := none) h4 hd
  simp only [List.length_append] at e2 e3 e4
  unfold vecS
  simp only [e1, e2, e3, e4, Option.getD_some, Option.isSome_none, Bool.false_eq_true, if_false, Prod.mk.injEq, St.mk.injEq, and_true, true_and]
  simp [encV]; omega

/-- A slice of integers that came in reads as a list; its cells lie below block B. -/
def IRow (w : World) (B : Nat) (A : Option Addr) (zs : List Int) : Prop :=
  0 < zs.length → ∃ ad, A = some ad ∧ ad.block < B ∧ ∀ i z, zs[i]? = some z → w.cell? (ad.add i) = some (.int .i64 z)
theorem block_add (a : Addr) (n : Nat) : (a.add n).block = a.block := by unfold Addr.add; split <;> rfl
theorem IRow.below {w w' : World} {B : Nat} {A : Option Addr} {zs : List Int} (h : IRow w B A zs) (hb : Below B w w') : IRow w' B A zs := fun hn => by
  obtain ⟨ad, e, hl, hc⟩ := h hn
  exact ⟨ad, e, hl, fun i z hz => (hb.cell (by rw [block_add]; exact hl)).trans (hc i z hz)⟩

/-- Four amounts of 64 bits. -/
def Good4 (v : Q4) : Prop := I64 v.a ∧ I64 v.b ∧ I64 v.c ∧ I64 v.d

/-- Two writers side by side. -/
structure Two (w : World) (P1 o1 : Nat) (b1 : List UInt8) (P2 o2 : Nat) (b2 : List UInt8) : Prop where
  one : OutAt w P1 o1 b1
  two : OutAt w P2 o2 b2
  pp : P1 ≠ P2
  op : o1 ≠ P2
  po : P1 ≠ o2
  oo : o1 ≠ o2
theorem Two.swap {w : World} {P1 o1 P2 o2 : Nat} {b1 b2 : List UInt8} (h : Two w P1 o1 b1 P2 o2 b2) : Two w P2 o2 b2 P1 o1 b1 :=
  ⟨h.two, h.one, h.pp.symm, h.po.symm, h.op.symm, h.oo.symm⟩
theorem Two.write {w w' : World} {P1 o1 o1' P2 o2 : Nat} {b1 b1' b2 : List UInt8} (h : Two w P1 o1 b1 P2 o2 b2) (h1 : OutAt w' P1 o1' b1') (hc : Chg P1 o1 w w') (ho : o1' = o1 ∨ w.heap.size ≤ o1') : Two w' P1 o1' b1' P2 o2 b2 := by
  have l2 := h.two.lt
  have e1 := h.op
  have e2 := h.oo
  exact ⟨h1, h.two.kept hc h.pp.symm h.op.symm h.po.symm h.oo.symm, h.pp, by omega, h.po, by omega⟩
theorem Two.same {w w' : World} {P1 o1 P2 o2 : Nat} {b1 b2 : List UInt8} (h : Two w P1 o1 b1 P2 o2 b2) (hb : ∀ k, k < w.heap.size → w'.heap[k]? = w.heap[k]?) : Two w' P1 o1 b1 P2 o2 b2 :=
  ⟨h.one.same (hb _ h.one.lt.1) (hb _ h.one.lt.2.2), h.two.same (hb _ h.two.lt.1) (hb _ h.two.lt.2.2), h.pp, h.op, h.po, h.oo⟩
theorem Two.below {w w' : World} {P1 o1 P2 o2 : Nat} {b1 b2 : List UInt8} (h : Two w P1 o1 b1 P2 o2 b2) (hb : Below w.heap.size w w') : Two w' P1 o1 b1 P2 o2 b2 := h.same fun k hk => hb.block k hk
/-- Two new writers. -/
theorem Two.new (w : World) : Two ((w.alloc (.cells #[.slice none 0 0] 27)).alloc (.cells #[.slice none 0 0] 27)) w.heap.size w.heap.size [] (w.heap.size + 1) (w.heap.size + 1) [] := by
  have h2 := OutAt.new (w.alloc (.cells #[.slice none 0 0] 27))
  rw [World.size_alloc] at h2
  exact ⟨(OutAt.new w).alloc _, h2, by omega, by omega, by omega, by omega⟩

/-! The bytes of a list of integers tell the list. -/
def encs (zs : List Int) : List UInt8 := zs.flatMap enc
theorem encs_snoc (zs : List Int) (z : Int) : encs (zs ++ [z]) = encs zs ++ enc z := by simp [encs]
theorem encs_len : ∀ (zs : List Int), (∀ z ∈ zs, I64 z) → (encs zs).length ≤ 10 * zs.length
  | [], _ => by simp [encs]
  | z :: r, h => by
    have h1 := (enc_len z (h z (by simp))).1
    have h2 := encs_len r fun x hx => h x (by simp [hx])
    simp only [encs, List.flatMap_cons, List.length_append, List.length_cons] at h2 ⊢
    omega
theorem encs_inj : ∀ (zs ys : List Int), (∀ z ∈ zs, I64 z) → (∀ z ∈ ys, I64 z) → encs zs = encs ys → zs = ys
  | [], [], _, _, _ => rfl
  | [], y :: r, _, h2, h => by
    have h3 := (enc_len y (h2 y (by simp))).2
    have hl : (encs []).length = (encs (y :: r)).length := by rw [h]
    simp only [encs, List.flatMap_nil, List.flatMap_cons, List.length_append, List.length_nil] at hl
    omega
  | z :: r, [], h1, _, h => by
    have h3 := (enc_len z (h1 z (by simp))).2
    have hl : (encs (z :: r)).length = (encs []).length := by rw [h]
    simp only [encs, List.flatMap_nil, List.flatMap_cons, List.length_append, List.length_nil] at hl
    omega
  | z :: r, y :: q, h1, h2, h => by
    have h' : enc z ++ encs r = enc y ++ encs q := by simpa [encs] using h
    obtain ⟨rfl, h3⟩ := enc_inj (h1 z (by simp)) (h2 y (by simp)) h'
    rw [encs_inj r q (fun x hx => h1 x (by simp [hx])) (fun x hx => h2 x (by simp [hx])) h3]
theorem take_snocI (zs : List Int) (k : Nat) (z : Int) (h : zs[k]? = some z) : zs.take (k + 1) = zs.take k ++ [z] := by
  rw [List.take_add_one, h]; rfl
theorem i64_at {zs : List Int} (h : ∀ z ∈ zs, I64 z) {k : Nat} {z : Int} (hk : zs[k]? = some z) : I64 z := h z (List.mem_of_getElem? hk)
end Go.Proofs.YtcahidhcnhgbeaaDoor
