/- Plain arithmetic of the checksum: the step, the whole, the way back. -/
import Derived.Laws.BytesArg
namespace Go.Proofs.YtaibmdjcppeopaaGreatDoor
open Go

def stepI (n : Int) (c : UInt8) : Int := (n * 257 + (c.toNat : Int) + 1) % 4294967296
def moreI (n : Int) (l : List UInt8) : Int := l.foldl stepI n
def backI (n b : Int) : Int := ((n - b - 1) * 4278255361) % 4294967296
/-- A number of 32 bits. -/
def U32 (n : Int) : Prop := 0 ≤ n ∧ n < 4294967296

theorem stepI_bd (n : Int) (c : UInt8) : U32 (stepI n c) := by unfold U32 stepI; omega
theorem backI_bd (n b : Int) : U32 (backI n b) := by unfold U32 backI; omega
theorem moreI_bd : ∀ (l : List UInt8) (n : Int), U32 n → U32 (moreI n l)
  | [], _, h => h
  | c :: l, n, _ => moreI_bd l (stepI n c) (stepI_bd n c)
theorem moreI_snoc (n : Int) (l : List UInt8) (c : UInt8) : moreI n (l ++ [c]) = stepI (moreI n l) c := by simp [moreI]
theorem moreI_append (n : Int) (l k : List UInt8) : moreI n (l ++ k) = moreI (moreI n l) k := by simp [moreI]
theorem moreI_cons (n : Int) (c : UInt8) (k : List UInt8) : moreI n (c :: k) = moreI (stepI n c) k := rfl
theorem byte_bd (c : UInt8) : (0 : Int) ≤ c.toNat ∧ (c.toNat : Int) < 256 := by have := c.toNat_lt; omega
theorem back_of_step (n : Int) (c : UInt8) (h : U32 n) : backI (stepI n c) c.toNat = n := by
  have := byte_bd c; unfold U32 at h; unfold backI stepI; omega
theorem step_of_back (n : Int) (c : UInt8) (h : U32 n) : stepI (backI n c.toNat) c = n := by
  have := byte_bd c; unfold U32 at h; unfold backI stepI; omega
theorem stepI_inj {n m : Int} (c : UInt8) (hn : U32 n) (hm : U32 m) (h : stepI n c = stepI m c) : n = m := by
  rw [← back_of_step n c hn, h, back_of_step m c hm]
theorem moreI_inj : ∀ (l : List UInt8) (n m : Int), U32 n → U32 m → moreI n l = moreI m l → n = m
  | [], _, _, _, _, h => h
  | c :: l, n, m, hn, hm, h => stepI_inj c hn hm (moreI_inj l _ _ (stepI_bd n c) (stepI_bd m c) h)
theorem stepI_byte (n : Int) (x y : UInt8) (h : stepI n x = stepI n y) : x = y := by
  have hx := byte_bd x; have hy := byte_bd y
  have : x.toNat = y.toNat := by unfold stepI at h; omega
  exact UInt8.toNat_inj.1 this
theorem tell (n : Int) (a b : List UInt8) (x y : UInt8) (_hn : U32 n) : moreI n (a ++ x :: b) = moreI n (a ++ y :: b) ↔ x = y := by
  constructor
  · intro h
    rw [moreI_append, moreI_append, moreI_cons, moreI_cons] at h
    exact stepI_byte _ x y (moreI_inj b _ _ (stepI_bd _ _) (stepI_bd _ _) h)
  · rintro rfl; rfl
theorem take_snoc (s : ByteArray) (k : Nat) (h : k < s.size) : s.data.toList.take (k + 1) = s.data.toList.take k ++ [s[k]] := by
  rw [List.take_succ_eq_append_getElem (by simpa using h)]; rfl
theorem take_all (s : ByteArray) (k : Nat) (h : s.size ≤ k) : s.data.toList.take k = s.data.toList := List.take_of_length_le (by simpa using h)
end Go.Proofs.YtaibmdjcppeopaaGreatDoor
