/-
  DERIVED. GIVEN WITH THE SEED: THE CARDS: each row of YtaibmdjcppeopaaDoorRows.lean that lists a variable, with what it lists TIED to the program's text (the seventh form; the later family's looks); each row that meets fmt, with fmt's text TOLD by the authors' own Lean function (tested against real Go, not proved from fmt's source: count such statements apart). THE CARD IS WHAT COUNTS. Prove the row's statement (the work); the ties are given (YtaibmdjcppeopaaDoorTie.lean); close each card by the builder's one call (the guide's Derived/Test/ToyasCard.lean, 'card_holds'). Laid BY PROGRAM, IN A SANDBOX (cutbox-door.mjs). By AI agents, Wed Nov 11 2026. No macro, syntax, notation, axiom, sorry.
-/
import Derived.Test.YtaibmdjcppeopaaDoorRows
import GoSem.ClaimSeven
namespace Go.Proofs.YtaibmdjcppeopaaDoor
namespace Rows

/-- THE TIED CARD OF 'quitrentlaw08.KinExact'. -/
def kinExactCard : Claim7 := { stood := { row := kinExactRow, standIns := [], harness := (true, "b030194852711154b2a1e8649f5c892d25a0f16f2115ce25a94f41853bd6a26a"), looks := true }, kinds := [], alts := [], laidByText := true, laidKinds := [.sentinel, .sentinel, .sentinel, .sentinel, .sentinel, .sentinel, .sentinel, .sentinel, .sentinel, .sentinel, .sentinel, .sentinel, .sentinel, .sentinel], laidTests := true, laidLooks := .later }
def KinExactCardSaid : Prop := Claim7.holds Tryd.pinned (.plain (OpenSpec.ofChange kinExactSpec)) kinExactCard

/-- THE TIED CARD OF 'quitrentlaw08.KinOrder'. -/
def kinOrderCard : Claim7 := { stood := { row := kinOrderRow, standIns := [], harness := (true, "b030194852711154b2a1e8649f5c892d25a0f16f2115ce25a94f41853bd6a26a"), looks := true }, kinds := [], alts := [], laidByText := true, laidKinds := [.sentinel, .sentinel, .sentinel, .sentinel, .sentinel, .sentinel, .sentinel, .sentinel, .sentinel, .sentinel, .sentinel, .sentinel, .sentinel, .sentinel], laidTests := true, laidLooks := .later }
def KinOrderCardSaid : Prop := Claim7.holds Tryd.pinned (.plain (OpenSpec.ofChange kinOrderSpec)) kinOrderCard

/-- THE TIED CARD OF 'quitrentlaw08.KinDown'. -/
def kinDownCard : Claim7 := { stood := { row := kinDownRow, standIns := [], harness := (true, "b030194852711154b2a1e8649f5c892d25a0f16f2115ce25a94f41853bd6a26a"), looks := true }, kinds := [], alts := [], laidByText := true, laidKinds := [.sentinel, .sentinel, .sentinel, .sentinel, .sentinel, .sentinel, .sentinel, .sentinel, .sentinel, .sentinel, .sentinel, .sentinel, .sentinel, .sentinel], laidTests := true, laidLooks := .later }
def KinDownCardSaid : Prop := Claim7.holds Tryd.pinned (.plain (OpenSpec.ofChange kinDownSpec)) kinDownCard

/-- THE SECOND FORM's CARD OF 'quitrentlaw08.KinExact'. -/
def kinExactUptoCard : Claim7 := { stood := { row := kinExactUptoRow, standIns := [], harness := (true, "b030194852711154b2a1e8649f5c892d25a0f16f2115ce25a94f41853bd6a26a"), looks := true }, kinds := [], alts := [], laidByText := true, laidKinds := [.sentinel, .sentinel, .sentinel, .sentinel, .sentinel, .sentinel, .sentinel, .sentinel, .sentinel, .sentinel, .sentinel, .sentinel, .sentinel, .sentinel], laidTests := true, laidLooks := .later }
def KinExactUptoCardSaid : Prop := Claim7.holds Tryd.pinned (.plain (OpenSpec.upto kinExactSpec)) kinExactUptoCard

/-- THE SECOND FORM's CARD OF 'quitrentlaw08.KinOrder'. -/
def kinOrderUptoCard : Claim7 := { stood := { row := kinOrderUptoRow, standIns := [], harness := (true, "b030194852711154b2a1e8649f5c892d25a0f16f2115ce25a94f41853bd6a26a"), looks := true }, kinds := [], alts := [], laidByText := true, laidKinds := [.sentinel, .sentinel, .sentinel, .sentinel, .sentinel, .sentinel, .sentinel, .sentinel, .sentinel, .sentinel, .sentinel, .sentinel, .sentinel, .sentinel], laidTests := true, laidLooks := .later }
def KinOrderUptoCardSaid : Prop := Claim7.holds Tryd.pinned (.plain (OpenSpec.upto kinOrderSpec)) kinOrderUptoCard

/-- THE SECOND FORM's CARD OF 'quitrentlaw08.KinDown'. -/
def kinDownUptoCard : Claim7 := { stood := { row := kinDownUptoRow, standIns := [], harness := (true, "b030194852711154b2a1e8649f5c892d25a0f16f2115ce25a94f41853bd6a26a"), looks := true }, kinds := [], alts := [], laidByText := true, laidKinds := [.sentinel, .sentinel, .sentinel, .sentinel, .sentinel, .sentinel, .sentinel, .sentinel, .sentinel, .sentinel, .sentinel, .sentinel, .sentinel, .sentinel], laidTests := true, laidLooks := .later }
def KinDownUptoCardSaid : Prop := Claim7.holds Tryd.pinned (.plain (OpenSpec.upto kinDownSpec)) kinDownUptoCard
end Rows
end Go.Proofs.YtaibmdjcppeopaaDoor
