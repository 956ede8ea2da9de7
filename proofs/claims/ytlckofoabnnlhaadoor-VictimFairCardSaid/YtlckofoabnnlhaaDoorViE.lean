/- How guests, hosts, rooms and allowances lie in memory. No conditions. -/
import Derived.Test.YtlckofoabnnlhaaDoorTkE
import Derived.Test.YtlckofoabnnlhaaDoorViM
import Derived.Test.YtlckofoabnnlhaaDoorRwL
import Derived.Test.YtlckofoabnnlhaaDoorRdE
namespace Go.Proofs.YtlckofoabnnlhaaDoor
open Go Go.RowKit

def encGst : EncK Gst 8 where
  enc x := [.int .i64 x.task.job, .int .i64 x.task.ix, .int .i64 x.band, .bool x.env, .int .i64 x.need.a, .int .i64 x.need.b, .int .i64 x.need.c, .int .i64 x.need.d]
  len _ := rfl
  one x u hu := by simp at hu; rcases hu with rfl | rfl | rfl | rfl | rfl | rfl | rfl | rfl <;> rfl
def encHst : EncK Hst 6 where
  enc x := [.int .i64 x.id, .int .i64 x.left.a, .int .i64 x.left.b, .int .i64 x.left.c, .int .i64 x.left.d, .slice x.A x.on.length x.c]
  len _ := rfl
  one x u hu := by simp at hu; rcases hu with rfl | rfl | rfl | rfl | rfl | rfl <;> rfl
def encSpr : EncK Spr 2 where
  enc x := [.int .i64 x.job, .int .i64 x.left]
  len _ := rfl
  one x u hu := by simp at hu; rcases hu with rfl | rfl <;> rfl
theorem Tryd.infoGs : (Tryd.prog.info? 35).map (fun i => (i.zero, i.size, i.bytes)) = some (some (.agg #[.int .i64 0, .int .i64 0, .int .i64 0, .bool false, .int .i64 0, .int .i64 0, .int .i64 0, .int .i64 0]), 8, 64) := by kernel_rfl
theorem Tryd.infoRm : (Tryd.prog.info? 61).map (fun i => (i.zero, i.size, i.bytes)) = some (some (.agg #[.int .i64 0, .int .i64 0, .int .i64 0, .int .i64 0, .int .i64 0, .slice none 0 0]), 6, 64) := by kernel_rfl
/-- Hosts in memory, or rooms: the row, and each one's guests. -/
structure HostsAt (w : World) (A : Option Addr) (H : List Hst) : Prop where
  row : ReadsE encHst w A H
  each : ∀ h ∈ H, ReadsE encGst w h.A h.on
  ids : ∀ h ∈ H, i64 h.id
  jobs : ∀ h ∈ H, ∀ g ∈ h.on, i64 g.task.job
  few : ∀ h ∈ H, h.on.length ≤ 10
  all : H.length ≤ 10
theorem HostsAt.on {w w' : World} {A : Option Addr} {H : List Hst} (h : HostsAt w A H) (hb : Below w.heap.size w w') : HostsAt w' A H := ⟨h.row.on hb, fun x hx => (h.each x hx).on hb, h.ids, h.jobs, h.few, h.all⟩
end Go.Proofs.YtlckofoabnnlhaaDoor
