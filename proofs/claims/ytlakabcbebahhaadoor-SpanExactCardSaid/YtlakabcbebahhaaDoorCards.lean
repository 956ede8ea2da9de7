/-
  DERIVED. GIVEN WITH THE SEED: THE CARDS: each row of YtlakabcbebahhaaDoorRows.lean that lists a variable, with what it lists TIED to the program's text (the seventh form; the later family's looks); each row that meets fmt, with fmt's text TOLD by the authors' own Lean function (tested against real Go, not proved from fmt's source: count such statements apart). THE CARD IS WHAT COUNTS. Prove the row's statement (the work); the ties are given (YtlakabcbebahhaaDoorTie.lean); close each card by the builder's one call (the guide's Derived/Test/ToyasCard.lean, 'card_holds'). Laid BY PROGRAM, IN A SANDBOX (cutbox-door.mjs). By AI agents, Wed Nov 11 2026. No macro, syntax, notation, axiom, sorry.
-/
import Derived.Test.YtlakabcbebahhaaDoorRows
import GoSem.ClaimSeven
namespace Go.Proofs.YtlakabcbebahhaaDoor
namespace Rows

/-- THE TIED CARD OF 'quitrentlaw09.SpanExact'. -/
def spanExactCard : Claim7 := { stood := { row := spanExactRow, standIns := [], harness := (true, "7daa75413e53170d40baa5f2a2521b85c80cba5a41cae254e5914957610753ab"), looks := true }, kinds := [], alts := [], laidByText := true, laidKinds := [.sentinel, .sentinel, .sentinel, .sentinel, .sentinel, .sentinel, .sentinel, .sentinel, .sentinel, .sentinel, .sentinel, .sentinel, .sentinel, .sentinel], laidTests := true, laidLooks := .later }
def SpanExactCardSaid : Prop := Claim7.holds Tryd.pinned (.plain (OpenSpec.ofChange spanExactSpec)) spanExactCard

/-- THE TIED CARD OF 'quitrentlaw09.SpanTicks'. -/
def spanTicksCard : Claim7 := { stood := { row := spanTicksRow, standIns := [], harness := (true, "7daa75413e53170d40baa5f2a2521b85c80cba5a41cae254e5914957610753ab"), looks := true }, kinds := [], alts := [], laidByText := true, laidKinds := [.sentinel], laidTests := true, laidLooks := .later }
def SpanTicksCardSaid : Prop := Claim7.holds Tryd.pinned (.plain (OpenSpec.ofChange spanTicksSpec)) spanTicksCard

/-- THE TIED CARD OF 'quitrentlaw09.SpanRows'. -/
def spanRowsCard : Claim7 := { stood := { row := spanRowsRow, standIns := [], harness := (true, "7daa75413e53170d40baa5f2a2521b85c80cba5a41cae254e5914957610753ab"), looks := true }, kinds := [], alts := [], laidByText := true, laidKinds := [.sentinel], laidTests := true, laidLooks := .later }
def SpanRowsCardSaid : Prop := Claim7.holds Tryd.pinned (.plain (OpenSpec.ofChange spanRowsSpec)) spanRowsCard

/-- THE SECOND FORM's CARD OF 'quitrentlaw09.SpanExact'. -/
def spanExactUptoCard : Claim7 := { stood := { row := spanExactUptoRow, standIns := [], harness := (true, "7daa75413e53170d40baa5f2a2521b85c80cba5a41cae254e5914957610753ab"), looks := true }, kinds := [], alts := [], laidByText := true, laidKinds := [.sentinel, .sentinel, .sentinel, .sentinel, .sentinel, .sentinel, .sentinel, .sentinel, .sentinel, .sentinel, .sentinel, .sentinel, .sentinel, .sentinel], laidTests := true, laidLooks := .later }
def SpanExactUptoCardSaid : Prop := Claim7.holds Tryd.pinned (.plain (OpenSpec.upto spanExactSpec)) spanExactUptoCard

/-- THE SECOND FORM's CARD OF 'quitrentlaw09.SpanTicks'. -/
def spanTicksUptoCard : Claim7 := { stood := { row := spanTicksUptoRow, standIns := [], harness := (true, "7daa75413e53170d40baa5f2a2521b85c80cba5a41cae254e5914957610753ab"), looks := true }, kinds := [], alts := [], laidByText := true, laidKinds := [.sentinel], laidTests := true, laidLooks := .later }
def SpanTicksUptoCardSaid : Prop := Claim7.holds Tryd.pinned (.plain (OpenSpec.upto spanTicksSpec)) spanTicksUptoCard

/-- THE SECOND FORM's CARD OF 'quitrentlaw09.SpanRows'. -/
def spanRowsUptoCard : Claim7 := { stood := { row := spanRowsUptoRow, standIns := [], harness := (true, "7daa75413e53170d40baa5f2a2521b85c80cba5a41cae254e5914957610753ab"), looks := true }, kinds := [], alts := [], laidByText := true, laidKinds := [.sentinel], laidTests := true, laidLooks := .later }
def SpanRowsUptoCardSaid : Prop := Claim7.holds Tryd.pinned (.plain (OpenSpec.upto spanRowsSpec)) spanRowsUptoCard
end Rows
end Go.Proofs.YtlakabcbebahhaaDoor
