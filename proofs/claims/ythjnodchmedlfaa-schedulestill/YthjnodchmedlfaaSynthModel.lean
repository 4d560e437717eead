/- synth.Model: what each signal should be, by the others. -/
import Derived.Test.YthjnodchmedlfaaSynthRest
namespace Go.Proofs.Ythjnodchmedlfaa
namespace Ew
open Go.RowKit TabC Lk


end Ew
end Go.Proofs.Ythjnodchmedlfaa
