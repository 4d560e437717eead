/- The document's own answers: Rest and Model. -/
import Derived.Test.YthjnodchmedlfaaSynthRCheck
import Derived.Test.YthjnodchmedlfaaSynthModel
namespace Go.Proofs.Ythjnodchmedlfaa
namespace Ew
open Go.RowKit TabC Lk



end Ew
end Go.Proofs.Ythjnodchmedlfaa
