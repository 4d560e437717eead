/- synth.Model: what each signal should be, by the others. -/
import Derived.Test.YtjhgcbkdghcgmaaSynthRest
namespace Go.Proofs.Ytjhgcbkdghcgmaa
namespace Ew
open Go.RowKit TabC Lk


end Ew
end Go.Proofs.Ytjhgcbkdghcgmaa
