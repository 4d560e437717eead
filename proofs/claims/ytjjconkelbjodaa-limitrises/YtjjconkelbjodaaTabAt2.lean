/- Contract of table.At. -/
import Derived.Test.YtjjconkelbjodaaTabAt
namespace Go.Proofs.Ytjjconkelbjodaa
namespace TabC
open Go.RowKit Go.Shelf

attribute [local go_sem] Oper.semAt_some

end TabC
end Go.Proofs.Ytjjconkelbjodaa
