/- General, over any program: the built-ins min and max at three and at four integers. -/
import Derived.Lib.MinMax
namespace Go.Proofs.Ytioiffhbbhlgeaa
namespace Lk
open Go
theorem if_max (x y : Int) : (if y > x then y else x) = max x y := by
  rw [Int.max_def]
  split <;> split <;> omega
theorem if_min (x y : Int) : (if y < x then y else x) = min x y := by
  rw [Int.min_def]
  split <;> split <;> omega
@[go_sem] theorem run_max3 {P : Program} (w : World) (ts : Array TypeId) (t : TypeId) (k : IntKind) (a b c : Int) :
    (Builtin.max_ ts t #[.int k a, .int k b, .int k c]).run P w = .ok (.int k (max (max a b) c)) w := by
  simp [Builtin.max_, Builtin.max2, if_max]
@[go_sem] theorem run_min4 {P : Program} (w : World) (ts : Array TypeId) (t : TypeId) (k : IntKind) (a b c d : Int) :
    (Builtin.min_ ts t #[.int k a, .int k b, .int k c, .int k d]).run P w = .ok (.int k (min (min (min a b) c) d)) w := by
  simp [Builtin.min_, Builtin.min2, if_min]
@[go_sem] theorem run_max4 {P : Program} (w : World) (ts : Array TypeId) (t : TypeId) (k : IntKind) (a b c d : Int) :
    (Builtin.max_ ts t #[.int k a, .int k b, .int k c, .int k d]).run P w = .ok (.int k (max (max (max a b) c) d)) w := by
  simp [Builtin.max_, Builtin.max2, if_max]
end Lk
end Go.Proofs.Ytioiffhbbhlgeaa
