/- synth.Model: what each signal should be, by the others. -/
import Derived.Test.YtioiffhbbhlgeaaSynthRest
namespace Go.Proofs.Ytioiffhbbhlgeaa
namespace Ew
open Go.RowKit TabC Lk


end Ew
end Go.Proofs.Ytioiffhbbhlgeaa
