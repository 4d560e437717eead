/- The document's own answers: Rest and Model. -/
import Derived.Test.YtioiffhbbhlgeaaSynthRCheck
import Derived.Test.YtioiffhbbhlgeaaSynthModel
namespace Go.Proofs.Ytioiffhbbhlgeaa
namespace Ew
open Go.RowKit TabC Lk



end Ew
end Go.Proofs.Ytioiffhbbhlgeaa
