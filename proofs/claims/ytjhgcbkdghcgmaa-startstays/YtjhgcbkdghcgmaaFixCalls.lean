/- Contracts of package fix's functions, over this seat's program: each answers what FixMath says, and leaves the world alone. -/
import Derived.Test.YtjhgcbkdghcgmaaChecked
import Derived.Test.YtjhgcbkdghcgmaaFixMath
import Derived.Test.YtjhgcbkdghcgmaaLawKit
import Derived.WalkKit
import Derived.IntWalk
import Derived.WalkSpells
import Derived.Lib.Hide
namespace Go.Proofs.Ytjhgcbkdghcgmaa
namespace FixC
open Go.RowKit

theorem ret_int {k : IntKind} {a b : Int} (h : a = b) : Ending.returned (.int k a) = .returned (.int k b) := by rw [h]
theorem ret_int2 {k l : IntKind} {a b c d : Int} (h : a = b) (g : c = d) : Ending.returned (.tuple #[.int k a, .int l c]) = .returned (.tuple #[.int k b, .int l d]) := by rw [h, g]

end FixC
end Go.Proofs.Ytjhgcbkdghcgmaa
