/- synth.rising, of the four tables of an engine. -/
import Derived.Test.YtjjconkelbjodaaSynthCalls
namespace Go.Proofs.Ytjjconkelbjodaa
namespace Ew
open Go.RowKit TabC Lk

end Ew
end Go.Proofs.Ytjjconkelbjodaa
