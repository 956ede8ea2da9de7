/- A region of a function, found by its number, so that it can be walked in a theorem of its own. No conditions. -/
import Derived.Test.YtlckofoabnnlhaaDoorProg
import Derived.WalkKit
namespace Go.Proofs.YtlckofoabnnlhaaDoor
open Go

def regOf (n : Nat) : Code → Option (List Oper)
  | .region id ops _ => if id = n then some ops.toList else none
  | .seq a b => (regOf n a).orElse fun _ => regOf n b
  | .cond _ a b => (regOf n a).orElse fun _ => regOf n b
  | .block _ a => regOf n a
  | .loop a => regOf n a
  | .scope a => regOf n a
  | _ => none
def opsOf (f : Func) (n : Nat) : List Oper := (f.body.bind (regOf n)).getD []
def blkOf (n : Nat) : Code → Option Code
  | .seq a b => (blkOf n a).orElse fun _ => blkOf n b
  | .cond _ a b => (blkOf n a).orElse fun _ => blkOf n b
  | .block id a => if id = n then some a else blkOf n a
  | .loop a => blkOf n a
  | .scope a => blkOf n a
  | _ => none
/-- The body of a block of a function. -/
def bodyOf (f : Func) (n : Nat) : Code := (f.body.bind (blkOf n)).getD .skip
theorem wp_blk {P : Program} {c : Code} (c' : Code) {n : Nat} {Q : Exit → Act → World → Prop} {a : Act} {w : World} (h : c = c') (hw : (Code.block n c').wp P Q a w) : (Code.block n c).wp P Q a w := by rw [h]; exact hw
theorem wp_reg {P : Program} {l : List Oper} (l' : List Oper) {n : Nat} {d : Bool} {Q : Exit → Act → World → Prop} {a : Act} {w : World} (h : l = l') (hw : (Code.region n l'.toArray d).wp P Q a w) : (Code.region n l.toArray d).wp P Q a w := by rw [h]; exact hw
end Go.Proofs.YtlckofoabnnlhaaDoor
