/- Contracts of the document's own answers for layer 1: they come to the same plain functions. -/
import Derived.Test.YtjhgcbkdghcgmaaFixCalls
namespace Go.Proofs.Ytjhgcbkdghcgmaa
namespace FixC
open Go.RowKit

end FixC
end Go.Proofs.Ytjhgcbkdghcgmaa
