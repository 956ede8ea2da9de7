/- The law package's own functions: at which block an error tells, and the document's examples. Conditions: the sentinels and the type's variable lie as the program's text lays them. -/
import Derived.Test.YtaibmdjcppeopaaGreatDoorFrR
import Derived.StillTailTactics
namespace Go.Proofs.YtaibmdjcppeopaaGreatDoor
open Go Go.RowKit

/-- The first block of the frame of "a" with the number 7. -/
def awB : List UInt8 := blkF 7 1 (payF [97]) 0
theorem awB_len : awB.length = 64 := by decide +kernel
theorem awB_head : awB.take 4 = [1, 0, 0, 0] := by decide +kernel
theorem awB_tail : awB.drop 56 = [7, 0, 0, 0, 0, 0, 1, 0] := by decide +kernel
theorem aw_frames : framesF 7 [97] = [awB] := rfl
theorem toList_is (s : ByteArray) : s.toList = s.data.toList := ByteArray.toList_eq s

end Go.Proofs.YtaibmdjcppeopaaGreatDoor
