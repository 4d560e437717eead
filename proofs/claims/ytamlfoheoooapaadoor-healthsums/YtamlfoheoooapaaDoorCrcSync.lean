/- Contracts of the library's own atomics, lock and once, in the run of one goroutine, over this seat's program. -/
import Derived.Test.YtamlfoheoooapaaDoorChecked
import Derived.Test.YtamlfoheoooapaaDoorLawKit
import Derived.WalkKit
import Derived.IntWalk
import Derived.WalkSpells
import Derived.Lib.Hide
import Derived.Defers
import Derived.Laws.LoneSync
import Derived.RegionTactic
import Derived.RegionCalls
namespace Go.Proofs.YtamlfoheoooapaaDoor
namespace Sy
open Go.RowKit

theorem iload (b o : Nat) (d : Int) (w : World) (hc : w.cell? ⟨b, o, none⟩ = some (.int .i64 d)) :
    Calls Tryd.prog 17 #[.pointer (some ⟨b, o, none⟩)] w fun e w' => e = .returned (.int .i64 d) ∧ w' = w := by
  have hl := run_call_load (P := Tryd.prog) Tryd.func21 (by kernel_rfl) (by kernel_rfl) (by kernel_rfl) .i64 (by kernel_rfl) hc
  go_enter Tryd.func17, Tryd.ntmps17
  go_wp2
  go_ret
  exact ⟨rfl, rfl⟩

theorem iadd (b o : Nat) (d : Int) (w : World) (h0 : 0 ≤ d) (h1 : d < 4611686018427387904) (hc : w.cell? ⟨b, o, none⟩ = some (.int .i64 d)) (hz : w.frozen? ⟨b, o, none⟩ = false) :
    Calls Tryd.prog 16 #[.pointer (some ⟨b, o, none⟩), .int .i64 1] w fun e w' => e = .returned (.int .i64 (d + 1)) ∧ w' = w.setCell ⟨b, o, none⟩ (.int .i64 (d + 1)) := by
  have hadd := run_call_add (P := Tryd.prog) Tryd.func20 (by kernel_rfl) (by kernel_rfl) (by kernel_rfl) .i64 (by kernel_rfl) (y := 1) (s := d + 1) hc hz (by simp [go_sem, IntKind.wrap, IntKind.bits, IntKind.signed]; omega)
  go_enter Tryd.func16, Tryd.ntmps16
  go_wp2
  go_ret
  exact ⟨rfl, rfl⟩

end Sy
end Go.Proofs.YtamlfoheoooapaaDoor
