/-
  NARROWER THAN 'FOR EVERY INPUT', by the rows' own cells (each row's printed sentence says how): FitExact: laid · FitKeeps: laid · FitOne: laid.
  DERIVED. THE GIVEN ROWS OF THIS SEAT. 3 by the template 'for every input the law returns true; each argument reads behind the call as it read before'; 0 by the template 'total and deterministic' (their statements: YtejaljcgcmdlgaaDoorTotals.lean).
  GIVEN WITH THE SEED: the statements are not yours to turn. If you find one false, say at which input.
  Laid BY PROGRAM, IN A SANDBOX (cutbox-rows.mjs): the forced cells as the released guide's own fill.sh prints them over the translation 6fba09cf3a2eb457… (all of the seat's roots in one cut). By AI agents, Wed Nov 11 2026. No macro, syntax, notation, axiom, sorry.
-/
import Derived.Test.YtejaljcgcmdlgaaDoorChecked
import GoSem.Claim
import GoSem.ClaimJoined
import GoSem.ClaimMapViews
import Derived.JoinedTies
import Derived.KernelRfl
namespace Go.Proofs.YtejaljcgcmdlgaaDoor
/- THE CELL 'sum', in the pinned program and in every row, IS THE sha256 OF THE DUMP (.gsa) THAT YtejaljcgcmdlgaaDoorProg.lean LOADS. Nothing in Lean hashes anything: it is a label: what it is worth is what the hold of that sum in a sandbox is worth. -/
noncomputable def Tryd.pinned : Pinned := { name := "ytejaljcgcmdlgaadoor", sum := "6fba09cf3a2eb457b4198c315762ecc30a089ec17d79538df7cb9bc197affafc", checked := Tryd.checked }
namespace Rows
def none {H : Type} : Left H := { results := [], args := [] }

/- WHAT THE LISTED PACKAGE-LEVEL VARIABLES READ AS WHEN THE CALL BEGINS. Each datum BY PROGRAM (the guide's laid-datum.mjs) off the statement by which the dump's own 'gosem.cut.vars' lays the variable. In a bare row this is a premise. The card (YtejaljcgcmdlgaaDoorCards.lean) ties it to the program's text. -/
def laid_quitrent_api_ErrArg {H : Type} : DataW H := .iface "*errors.errorString" (.ptr (.agg [.lit (.string [97, 110, 32, 97, 114, 103, 117, 109, 101, 110, 116, 32, 116, 104, 97, 116, 32, 99, 97, 110, 39, 116, 32, 98, 101])]))
def laid_quitrent_api_ErrOver {H : Type} : DataW H := .iface "*errors.errorString" (.ptr (.agg [.lit (.string [97, 32, 110, 117, 109, 98, 101, 114, 32, 116, 104, 97, 116, 32, 105, 115, 32, 116, 111, 111, 32, 103, 114, 101, 97, 116, 44, 32, 111, 114, 32, 98, 101, 108, 111, 119, 32, 110, 111, 116, 104, 105, 110, 103])]))

/-- 'quitrentlaw16.FitExact': WHATEVER THE INPUT: true; the input reads as it did. -/
def fitExactSpec : ChangeSpec := { name := "fitExact", fn := fun _ => fun
  | [d1, d2, d3] => { results := [.lit (.bool true)], args := [d1, d2, d3] }
  | _ => none }
def fitExactRow : OpenClaim := { program := "ytejaljcgcmdlgaadoor", sum := "6fba09cf3a2eb457b4198c315762ecc30a089ec17d79538df7cb9bc197affafc", func := "quitrent/quitrentlaw16.FitExact", spec := "fitExact", named := ["quitrent/api.ErrArg", "quitrent/api.ErrOver"], apart := false, laid := [("quitrent/api.ErrArg", laid_quitrent_api_ErrArg), ("quitrent/api.ErrOver", laid_quitrent_api_ErrOver)] }
def FitExactSaid : Prop := fitExactRow.holds Tryd.pinned (OpenSpec.ofChange fitExactSpec)

/-- ITS FALSE NEIGHBOUR: 'it returns false'. Refute it at one input. -/
def fitExactWrong : ChangeSpec := { name := "fitExact", fn := fun _ => fun
  | [d1, d2, d3] => { results := [.lit (.bool false)], args := [d1, d2, d3] }
  | _ => none }
def FitExactWrongFalsely : Prop := fitExactRow.holds Tryd.pinned (OpenSpec.ofChange fitExactWrong)

/-- 'quitrentlaw16.FitKeeps': WHATEVER THE INPUT: true; the input reads as it did. -/
def fitKeepsSpec : ChangeSpec := { name := "fitKeeps", fn := fun _ => fun
  | [d1, d2, d3] => { results := [.lit (.bool true)], args := [d1, d2, d3] }
  | _ => none }
def fitKeepsRow : OpenClaim := { program := "ytejaljcgcmdlgaadoor", sum := "6fba09cf3a2eb457b4198c315762ecc30a089ec17d79538df7cb9bc197affafc", func := "quitrent/quitrentlaw16.FitKeeps", spec := "fitKeeps", named := ["quitrent/api.ErrArg", "quitrent/api.ErrOver"], apart := false, laid := [("quitrent/api.ErrArg", laid_quitrent_api_ErrArg), ("quitrent/api.ErrOver", laid_quitrent_api_ErrOver)] }
def FitKeepsSaid : Prop := fitKeepsRow.holds Tryd.pinned (OpenSpec.ofChange fitKeepsSpec)

/-- ITS FALSE NEIGHBOUR: 'it returns false'. Refute it at one input. -/
def fitKeepsWrong : ChangeSpec := { name := "fitKeeps", fn := fun _ => fun
  | [d1, d2, d3] => { results := [.lit (.bool false)], args := [d1, d2, d3] }
  | _ => none }
def FitKeepsWrongFalsely : Prop := fitKeepsRow.holds Tryd.pinned (OpenSpec.ofChange fitKeepsWrong)

/-- 'quitrentlaw16.FitOne': WHATEVER THE INPUT: true; the input reads as it did. -/
def fitOneSpec : ChangeSpec := { name := "fitOne", fn := fun _ => fun
  | [d1, d2] => { results := [.lit (.bool true)], args := [d1, d2] }
  | _ => none }
def fitOneRow : OpenClaim := { program := "ytejaljcgcmdlgaadoor", sum := "6fba09cf3a2eb457b4198c315762ecc30a089ec17d79538df7cb9bc197affafc", func := "quitrent/quitrentlaw16.FitOne", spec := "fitOne", named := ["quitrent/api.ErrArg", "quitrent/api.ErrOver"], apart := false, laid := [("quitrent/api.ErrArg", laid_quitrent_api_ErrArg), ("quitrent/api.ErrOver", laid_quitrent_api_ErrOver)] }
def FitOneSaid : Prop := fitOneRow.holds Tryd.pinned (OpenSpec.ofChange fitOneSpec)

/-- ITS FALSE NEIGHBOUR: 'it returns false'. Refute it at one input. -/
def fitOneWrong : ChangeSpec := { name := "fitOne", fn := fun _ => fun
  | [d1, d2] => { results := [.lit (.bool false)], args := [d1, d2] }
  | _ => none }
def FitOneWrongFalsely : Prop := fitOneRow.holds Tryd.pinned (OpenSpec.ofChange fitOneWrong)

/- THE SECOND FORM. 'bulk': how many values and letters a reading holds, each counted each time it is reached (what is shared counts as often as it is met; a slice's spare places count too). A statement '..UptoSaid' is the law's where the arguments, and the package variables that the reading takes, are together of bulk at most 1048576: NARROWER than '..Said'. Prove '..Said' where nothing that the law and all that it calls make is longer than what came in: it says more and counts as full. Else prove '..UptoSaid'. A law counts once. -/
mutual
def uptoBulk {H : Type} : DataW H → Nat
  | .lit (.string bytes) => bytes.length + 1
  | .lit _ => 1
  | .nil => 1
  | .ptr d => uptoBulk d + 1
  | .slice elems spare => uptoBulkAll elems + uptoBulkAll spare + 1
  | .agg parts => uptoBulkAll parts + 1
  | .iface _ d => uptoBulk d + 1
  | .map entries => uptoBulkEntries entries + 1
  | .held _ => 1
def uptoBulkAll {H : Type} : List (DataW H) → Nat
  | [] => 0
  | d :: r => uptoBulk d + uptoBulkAll r
def uptoBulkEntries {H : Type} : List (Lit × DataW H) → Nat
  | [] => 0
  | x :: r => uptoBulkEntry x + uptoBulkEntries r
def uptoBulkEntry {H : Type} : Lit × DataW H → Nat
  | (.string bytes, d) => bytes.length + uptoBulk d + 1
  | (_, d) => uptoBulk d + 1
 end
def uptoSmall : (H : Type) → List (DataW H) → Bool := fun _ ds => decide (uptoBulkAll ds ≤ 1048576)
def OpenSpec.upto (s : _root_.Go.ChangeSpec) : _root_.Go.OpenSpec := { _root_.Go.OpenSpec.ofChange s with cond := some uptoSmall }

/-- 'quitrentlaw16.FitExact', WHERE WHAT IT READS IS OF BULK AT MOST 1048576: true; the input reads as it did. -/
def fitExactUptoRow : OpenClaim := { program := "ytejaljcgcmdlgaadoor", sum := "6fba09cf3a2eb457b4198c315762ecc30a089ec17d79538df7cb9bc197affafc", func := "quitrent/quitrentlaw16.FitExact", spec := "fitExact", named := ["quitrent/api.ErrArg", "quitrent/api.ErrOver"], apart := false, laid := [("quitrent/api.ErrArg", laid_quitrent_api_ErrArg), ("quitrent/api.ErrOver", laid_quitrent_api_ErrOver)], narrowed := true }
def FitExactUptoSaid : Prop := fitExactUptoRow.holds Tryd.pinned (OpenSpec.upto fitExactSpec)

/-- 'quitrentlaw16.FitKeeps', WHERE WHAT IT READS IS OF BULK AT MOST 1048576: true; the input reads as it did. -/
def fitKeepsUptoRow : OpenClaim := { program := "ytejaljcgcmdlgaadoor", sum := "6fba09cf3a2eb457b4198c315762ecc30a089ec17d79538df7cb9bc197affafc", func := "quitrent/quitrentlaw16.FitKeeps", spec := "fitKeeps", named := ["quitrent/api.ErrArg", "quitrent/api.ErrOver"], apart := false, laid := [("quitrent/api.ErrArg", laid_quitrent_api_ErrArg), ("quitrent/api.ErrOver", laid_quitrent_api_ErrOver)], narrowed := true }
def FitKeepsUptoSaid : Prop := fitKeepsUptoRow.holds Tryd.pinned (OpenSpec.upto fitKeepsSpec)

/-- 'quitrentlaw16.FitOne', WHERE WHAT IT READS IS OF BULK AT MOST 1048576: true; the input reads as it did. -/
def fitOneUptoRow : OpenClaim := { program := "ytejaljcgcmdlgaadoor", sum := "6fba09cf3a2eb457b4198c315762ecc30a089ec17d79538df7cb9bc197affafc", func := "quitrent/quitrentlaw16.FitOne", spec := "fitOne", named := ["quitrent/api.ErrArg", "quitrent/api.ErrOver"], apart := false, laid := [("quitrent/api.ErrArg", laid_quitrent_api_ErrArg), ("quitrent/api.ErrOver", laid_quitrent_api_ErrOver)], narrowed := true }
def FitOneUptoSaid : Prop := fitOneUptoRow.holds Tryd.pinned (OpenSpec.upto fitOneSpec)

end Rows
end Go.Proofs.YtejaljcgcmdlgaaDoor
