/-
  DERIVED. GIVEN WITH THE SEED: THE CARDS: each row of YtbdnfppbiplpmaaDoorRows.lean that lists a variable, with what it lists TIED to the program's text (the seventh form; the later family's looks); each row that meets fmt, with fmt's text TOLD by the authors' own Lean function (tested against real Go, not proved from fmt's source: count such statements apart). THE CARD IS WHAT COUNTS. Prove the row's statement (the work); the ties are given (YtbdnfppbiplpmaaDoorTie.lean); close each card by the builder's one call (the guide's Derived/Test/ToyasCard.lean, 'card_holds'). Laid BY PROGRAM, IN A SANDBOX (cutbox-door.mjs). By AI agents, Wed Nov 11 2026. No macro, syntax, notation, axiom, sorry.
-/
import Derived.Test.YtbdnfppbiplpmaaDoorRows
import GoSem.ClaimSeven
namespace Go.Proofs.YtbdnfppbiplpmaaDoor
namespace Rows

/-- THE TIED CARD OF 'quitrentlaw17.AllocExact'. -/
def allocExactCard : Claim7 := { stood := { row := allocExactRow, standIns := [], harness := (true, "f2d5808d284fb38715194310e394973723014b9e096f8b082a15357b3f3d5f42"), looks := true }, kinds := [], alts := [], laidByText := true, laidKinds := [.sentinel, .sentinel, .sentinel, .sentinel, .sentinel, .sentinel, .sentinel, .sentinel, .sentinel, .sentinel, .sentinel, .sentinel, .sentinel, .sentinel], laidTests := true, laidLooks := .later }
def AllocExactCardSaid : Prop := Claim7.holds Tryd.pinned (.plain (OpenSpec.ofChange allocExactSpec)) allocExactCard

/-- THE TIED CARD OF 'quitrentlaw18.JobExact'. -/
def jobExactCard : Claim7 := { stood := { row := jobExactRow, standIns := [], harness := (true, "f2d5808d284fb38715194310e394973723014b9e096f8b082a15357b3f3d5f42"), looks := true }, kinds := [], alts := [], laidByText := true, laidKinds := [.sentinel, .sentinel, .sentinel, .sentinel, .sentinel, .sentinel, .sentinel, .sentinel, .sentinel, .sentinel, .sentinel, .sentinel, .sentinel, .sentinel], laidTests := true, laidLooks := .later }
def JobExactCardSaid : Prop := Claim7.holds Tryd.pinned (.plain (OpenSpec.ofChange jobExactSpec)) jobExactCard

/-- THE TIED CARD OF 'quitrentlaw18.JobTasks'. -/
def jobTasksCard : Claim7 := { stood := { row := jobTasksRow, standIns := [], harness := (true, "f2d5808d284fb38715194310e394973723014b9e096f8b082a15357b3f3d5f42"), looks := true }, kinds := [], alts := [], laidByText := true, laidKinds := [.sentinel, .sentinel, .sentinel, .sentinel, .sentinel, .sentinel, .sentinel, .sentinel, .sentinel, .sentinel, .sentinel, .sentinel, .sentinel, .sentinel], laidTests := true, laidLooks := .later }
def JobTasksCardSaid : Prop := Claim7.holds Tryd.pinned (.plain (OpenSpec.ofChange jobTasksSpec)) jobTasksCard

/-- THE SECOND FORM's CARD OF 'quitrentlaw17.AllocExact'. -/
def allocExactUptoCard : Claim7 := { stood := { row := allocExactUptoRow, standIns := [], harness := (true, "f2d5808d284fb38715194310e394973723014b9e096f8b082a15357b3f3d5f42"), looks := true }, kinds := [], alts := [], laidByText := true, laidKinds := [.sentinel, .sentinel, .sentinel, .sentinel, .sentinel, .sentinel, .sentinel, .sentinel, .sentinel, .sentinel, .sentinel, .sentinel, .sentinel, .sentinel], laidTests := true, laidLooks := .later }
def AllocExactUptoCardSaid : Prop := Claim7.holds Tryd.pinned (.plain (OpenSpec.upto allocExactSpec)) allocExactUptoCard

/-- THE SECOND FORM's CARD OF 'quitrentlaw18.JobExact'. -/
def jobExactUptoCard : Claim7 := { stood := { row := jobExactUptoRow, standIns := [], harness := (true, "f2d5808d284fb38715194310e394973723014b9e096f8b082a15357b3f3d5f42"), looks := true }, kinds := [], alts := [], laidByText := true, laidKinds := [.sentinel, .sentinel, .sentinel, .sentinel, .sentinel, .sentinel, .sentinel, .sentinel, .sentinel, .sentinel, .sentinel, .sentinel, .sentinel, .sentinel], laidTests := true, laidLooks := .later }
def JobExactUptoCardSaid : Prop := Claim7.holds Tryd.pinned (.plain (OpenSpec.upto jobExactSpec)) jobExactUptoCard

/-- THE SECOND FORM's CARD OF 'quitrentlaw18.JobTasks'. -/
def jobTasksUptoCard : Claim7 := { stood := { row := jobTasksUptoRow, standIns := [], harness := (true, "f2d5808d284fb38715194310e394973723014b9e096f8b082a15357b3f3d5f42"), looks := true }, kinds := [], alts := [], laidByText := true, laidKinds := [.sentinel, .sentinel, .sentinel, .sentinel, .sentinel, .sentinel, .sentinel, .sentinel, .sentinel, .sentinel, .sentinel, .sentinel, .sentinel, .sentinel], laidTests := true, laidLooks := .later }
def JobTasksUptoCardSaid : Prop := Claim7.holds Tryd.pinned (.plain (OpenSpec.upto jobTasksSpec)) jobTasksUptoCard
end Rows
end Go.Proofs.YtbdnfppbiplpmaaDoor
