/- The document's own answers: Rest and Model. -/
import Derived.Test.YtjhgcbkdghcgmaaSynthRCheck
import Derived.Test.YtjhgcbkdghcgmaaSynthModel
namespace Go.Proofs.Ytjhgcbkdghcgmaa
namespace Ew
open Go.RowKit TabC Lk



end Ew
end Go.Proofs.Ytjhgcbkdghcgmaa
