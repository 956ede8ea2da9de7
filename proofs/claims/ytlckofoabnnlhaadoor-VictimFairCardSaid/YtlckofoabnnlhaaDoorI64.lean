/- Numbers of 64 bits. No conditions. -/
import Derived.Test.YtlckofoabnnlhaaDoorVecM
namespace Go.Proofs.YtlckofoabnnlhaaDoor

/-- A number of the kind int. -/
def i64 (n : Int) : Prop := -9223372036854775808 ≤ n ∧ n ≤ 9223372036854775807
/-- Four numbers of the kind int. -/
def okV (x : V4) : Prop := i64 x.a ∧ i64 x.b ∧ i64 x.c ∧ i64 x.d
end Go.Proofs.YtlckofoabnnlhaaDoor
