/- The document's own store: place, Room. -/
import Derived.Test.YtlhapipgmadbeaaStoreMath4
import Derived.Test.YtlhapipgmadbeaaNvmNew
import Derived.Test.YtlhapipgmadbeaaLimKit
import Derived.Laws.Rows
namespace Go.Proofs.Ytlhapipgmadbeaa
namespace Sq
open Go.RowKit Nv Nw Sp

/-- A place's cells. -/
abbrev pc (p : Pl) : Array Value := #[.int .u32 p.num, .int .i64 p.code, .int .i64 p.cnt, .bool p.lat, .bool p.good]
def zero : Pl := ⟨0, 0, 0, false, false⟩
/-- A record's cells. -/
abbrev rcs (r : R) : Array Value := #[.int .i64 r.code, .int .i64 r.cnt, .bool r.lat]
/-- The words of a memory are words. -/
def U32 (ws : List Int) : Prop := ∀ j, 0 ≤ ws.getD j 0 ∧ ws.getD j 0 < 4294967296

theorem info_pl : (Try.prog.info? 83).map (·.size) = some 5 := by kernel_rfl
theorem ret_pl {a b c : Int} {x y : Bool} {p : Pl} (h1 : p.num = a) (h2 : p.code = b) (h3 : p.cnt = c) (h4 : p.lat = x) (h5 : p.good = y) : Ending.returned (.agg #[.int .u32 a, .int .i64 b, .int .i64 c, .bool x, .bool y]) = .returned (.agg (pc p)) := by
  subst h1; subst h2; subst h3; subst h4; subst h5; rfl

set_option maxHeartbeats 4000000 in
theorem place_c (b d : Nat) (m : M) (i : Nat) (w : World) (h : Rem w b d m) (hu : U32 m.ws) (hi : 4 * i + 3 < m.ws.length) (hl : m.ws.length ≤ 512) :
    Calls Try.prog 41 #[.pointer (some ⟨b, 0, none⟩), .int .i64 i] w fun e w' => e = .returned (.agg (pc (pl m.ws i))) ∧ Below w.heap.size w w' := by
  have h' := h.grow ((Below.refl w.heap.size w).alloc (Nat.le_refl _) (.cells #[.int .u32 0, .int .i64 0, .int .i64 0, .bool false, .bool false] 83))
  have c0 := h'.c0
  have w0 := h'.ws.cell (i := 4 * i) (by omega)
  have w1 := h'.ws.cell (i := 4 * i + 1) (by omega)
  have w2 := h'.ws.cell (i := 4 * i + 2) (by omega)
  have w3 := h'.ws.cell (i := 4 * i + 3) (by omega)
  have u0 := hu (4 * i)
  have u1 := hu (4 * i + 1)
  have u2 := hu (4 * i + 2)
  have u3 := hu (4 * i + 3)
  unfold pl
  generalize m.ws.getD (4 * i) 0 = x0 at *
  generalize m.ws.getD (4 * i + 1) 0 = x1 at *
  generalize m.ws.getD (4 * i + 2) 0 = x2 at *
  generalize m.ws.getD (4 * i + 3) 0 = x3 at *
  generalize m.ws.length = n at *
  have hm : x1.tmod 256 = x1 % 256 := Int.tmod_eq_emod_of_nonneg u1.1
  have hn : (4 * i + 3 : Int) < n := by omega
  clear h hu h'
  go_enter Try.func41, Try.ntmps41
  go_wp2_with fail
  all_goals
    refine bodyPost_ret (results_cell_row rfl _ _ w.heap.size 83 _ (0, 0) _ rfl ((heap_two w _ _).trans (heap_alloc_last w _)) Try.underlying83 rfl info_pl) rfl ?_
    refine ⟨ret_pl (by first | rfl | assumption) rfl rfl rfl ?_, below_two w _ _⟩
    simp only [four]
    simp [*] <;> omega
theorem room_c (b d : Nat) (m : M) (P : Nat) (hP : m.ws.length / 4 = P) (hl : m.ws.length ≤ 512) (w : World) (h : Rem w b d m) :
    Calls Try.prog 14 #[.pointer (some ⟨b, 0, none⟩)] w fun e w' => e = .returned (.int .i64 ((P : Int) - 1)) ∧ w = w' := by
  have c0 := h.c0
  have hp : (P : Int) ≤ 128 := by omega
  have e : (m.ws.length : Int) / 4 = (P : Int) := by omega
  generalize m.ws.length = n at *
  clear h
  go_enter Try.func14, Try.ntmps14
  go_wp2_with fail
  go_ret
  exact ⟨ret_i (by omega), rfl⟩
end Sq
end Go.Proofs.Ytlhapipgmadbeaa
