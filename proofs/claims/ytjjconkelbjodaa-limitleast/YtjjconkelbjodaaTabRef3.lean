/- Contracts of the document's own answers for layer 2: At, Peak, Steep. -/
import Derived.Test.YtjjconkelbjodaaTabRef2
namespace Go.Proofs.Ytjjconkelbjodaa
namespace TabC
open Go.RowKit

end TabC
end Go.Proofs.Ytjjconkelbjodaa
