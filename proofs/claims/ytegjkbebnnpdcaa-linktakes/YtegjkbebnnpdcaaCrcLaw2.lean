/- The walk of CrcGoes. -/
import Derived.Test.YtegjkbebnnpdcaaCrcAppend
namespace Go.Proofs.Ytegjkbebnnpdcaa
namespace Crc
open Go.RowKit

theorem app_bytes {a b : List Nat} (ha : Cr.Bytes a) (hb : Cr.Bytes b) : Cr.Bytes (a ++ b) := fun v hv => (List.mem_append.1 hv).elim (ha v) (hb v)