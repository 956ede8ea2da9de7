/-
  DERIVED. GIVEN WITH THE SEED: THE CARDS: each row of YthlpfedcmiiibaaDoorRows.lean that lists a variable, with what it lists TIED to the program's text (the seventh form; the later family's looks); each row that meets fmt, with fmt's text TOLD by the authors' own Lean function (tested against real Go, not proved from fmt's source: count such statements apart). THE CARD IS WHAT COUNTS. Prove the row's statement (the work); the ties are given (YthlpfedcmiiibaaDoorTie.lean); close each card by the builder's one call (the guide's Derived/Test/ToyasCard.lean, 'card_holds'). Laid BY PROGRAM, IN A SANDBOX (cutbox-door.mjs). By AI agents, Wed Nov 11 2026. No macro, syntax, notation, axiom, sorry.
-/
import Derived.Test.YthlpfedcmiiibaaDoorRows
import GoSem.ClaimSeven
namespace Go.Proofs.YthlpfedcmiiibaaDoor
namespace Rows

/-- THE TIED CARD OF 'quitrentlaw04.BlockExact'. -/
def blockExactCard : Claim7 := { stood := { row := blockExactRow, standIns := [], harness := (true, "02596c077f008982ce8df3458a878d7b05913c471f62d4a2dd60a6ef2bdffad2"), looks := true }, kinds := [], alts := [], laidByText := true, laidKinds := [.sentinel, .sentinel, .sentinel, .sentinel, .sentinel, .sentinel, .sentinel, .sentinel, .sentinel, .sentinel, .sentinel, .sentinel, .sentinel, .sentinel], laidTests := true, laidLooks := .later }
def BlockExactCardSaid : Prop := Claim7.holds Tryd.pinned (.plain (OpenSpec.ofChange blockExactSpec)) blockExactCard

/-- THE TIED CARD OF 'quitrentlaw04.BlockTears'. -/
def blockTearsCard : Claim7 := { stood := { row := blockTearsRow, standIns := [], harness := (true, "02596c077f008982ce8df3458a878d7b05913c471f62d4a2dd60a6ef2bdffad2"), looks := true }, kinds := [], alts := [], laidByText := true, laidKinds := [.sentinel, .sentinel, .sentinel, .sentinel, .sentinel, .sentinel, .sentinel, .sentinel, .sentinel, .sentinel, .sentinel, .sentinel, .sentinel, .sentinel], laidTests := true, laidLooks := .later }
def BlockTearsCardSaid : Prop := Claim7.holds Tryd.pinned (.plain (OpenSpec.ofChange blockTearsSpec)) blockTearsCard

/-- THE TIED CARD OF 'quitrentlaw04.BlockSizes'. -/
def blockSizesCard : Claim7 := { stood := { row := blockSizesRow, standIns := [], harness := (true, "02596c077f008982ce8df3458a878d7b05913c471f62d4a2dd60a6ef2bdffad2"), looks := true }, kinds := [], alts := [], laidByText := true, laidKinds := [.sentinel, .sentinel, .sentinel, .sentinel, .sentinel, .sentinel, .sentinel, .sentinel, .sentinel, .sentinel, .sentinel, .sentinel, .sentinel, .sentinel], laidTests := true, laidLooks := .later }
def BlockSizesCardSaid : Prop := Claim7.holds Tryd.pinned (.plain (OpenSpec.ofChange blockSizesSpec)) blockSizesCard

/-- THE TIED CARD OF 'quitrentlaw04.BlockAgain'. -/
def blockAgainCard : Claim7 := { stood := { row := blockAgainRow, standIns := [], harness := (true, "02596c077f008982ce8df3458a878d7b05913c471f62d4a2dd60a6ef2bdffad2"), looks := true }, kinds := [], alts := [], laidByText := true, laidKinds := [.sentinel, .sentinel, .sentinel, .sentinel, .sentinel, .sentinel, .sentinel, .sentinel, .sentinel, .sentinel, .sentinel, .sentinel, .sentinel, .sentinel], laidTests := true, laidLooks := .later }
def BlockAgainCardSaid : Prop := Claim7.holds Tryd.pinned (.plain (OpenSpec.ofChange blockAgainSpec)) blockAgainCard

/-- THE SECOND FORM's CARD OF 'quitrentlaw04.BlockExact'. -/
def blockExactUptoCard : Claim7 := { stood := { row := blockExactUptoRow, standIns := [], harness := (true, "02596c077f008982ce8df3458a878d7b05913c471f62d4a2dd60a6ef2bdffad2"), looks := true }, kinds := [], alts := [], laidByText := true, laidKinds := [.sentinel, .sentinel, .sentinel, .sentinel, .sentinel, .sentinel, .sentinel, .sentinel, .sentinel, .sentinel, .sentinel, .sentinel, .sentinel, .sentinel], laidTests := true, laidLooks := .later }
def BlockExactUptoCardSaid : Prop := Claim7.holds Tryd.pinned (.plain (OpenSpec.upto blockExactSpec)) blockExactUptoCard

/-- THE SECOND FORM's CARD OF 'quitrentlaw04.BlockTears'. -/
def blockTearsUptoCard : Claim7 := { stood := { row := blockTearsUptoRow, standIns := [], harness := (true, "02596c077f008982ce8df3458a878d7b05913c471f62d4a2dd60a6ef2bdffad2"), looks := true }, kinds := [], alts := [], laidByText := true, laidKinds := [.sentinel, .sentinel, .sentinel, .sentinel, .sentinel, .sentinel, .sentinel, .sentinel, .sentinel, .sentinel, .sentinel, .sentinel, .sentinel, .sentinel], laidTests := true, laidLooks := .later }
def BlockTearsUptoCardSaid : Prop := Claim7.holds Tryd.pinned (.plain (OpenSpec.upto blockTearsSpec)) blockTearsUptoCard

/-- THE SECOND FORM's CARD OF 'quitrentlaw04.BlockSizes'. -/
def blockSizesUptoCard : Claim7 := { stood := { row := blockSizesUptoRow, standIns := [], harness := (true, "02596c077f008982ce8df3458a878d7b05913c471f62d4a2dd60a6ef2bdffad2"), looks := true }, kinds := [], alts := [], laidByText := true, laidKinds := [.sentinel, .sentinel, .sentinel, .sentinel, .sentinel, .sentinel, .sentinel, .sentinel, .sentinel, .sentinel, .sentinel, .sentinel, .sentinel, .sentinel], laidTests := true, laidLooks := .later }
def BlockSizesUptoCardSaid : Prop := Claim7.holds Tryd.pinned (.plain (OpenSpec.upto blockSizesSpec)) blockSizesUptoCard

/-- THE SECOND FORM's CARD OF 'quitrentlaw04.BlockAgain'. -/
def blockAgainUptoCard : Claim7 := { stood := { row := blockAgainUptoRow, standIns := [], harness := (true, "02596c077f008982ce8df3458a878d7b05913c471f62d4a2dd60a6ef2bdffad2"), looks := true }, kinds := [], alts := [], laidByText := true, laidKinds := [.sentinel, .sentinel, .sentinel, .sentinel, .sentinel, .sentinel, .sentinel, .sentinel, .sentinel, .sentinel, .sentinel, .sentinel, .sentinel, .sentinel], laidTests := true, laidLooks := .later }
def BlockAgainUptoCardSaid : Prop := Claim7.holds Tryd.pinned (.plain (OpenSpec.upto blockAgainSpec)) blockAgainUptoCard
end Rows
end Go.Proofs.YthlpfedcmiiibaaDoor
