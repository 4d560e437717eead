/- The walks of StoreNames and StoreNil. -/
import Derived.Test.YtlhapipgmadbeaaStoreAwake
namespace Go.Proofs.Ytlhapipgmadbeaa
namespace Sq
open Go.RowKit Nv Nw Sp Lk

theorem StoreNames_walk (w : World) : Calls Try.prog 3 #[] w fun e w' => e = .returned (.bool true) ∧ Below w.heap.size w w' := by
  go_enter Try.func3, Try.ntmps3
  go_wp2_with fail
  refine (awake_c w).mono ?_
  rintro e w1 ⟨rfl, h⟩
  have HB := Lib.hid h
  clear h
  go_wp2_with fail
  go_ret
  exact ⟨rfl, HB.out⟩
/-- A record loaded as a whole, out of its own block. -/
theorem info_rs : (Try.prog.info? 37).map (·.size) = some 3 := by kernel_rfl
theorem ldr {ops : Array Oper} {rest : List Oper} {op : Oper} {a : Act} {w : World} {Q : Exit → Act → World → Prop} (hw : Region.wanted op (yielded ops a.tmps) = true) (x : Operand) (ho : op.op = .load 37 x)
    (b : Nat) (r : R) (hx : a.eval x = .pointer (some ⟨b, 0, none⟩)) (hP : w.heap[b]? = some (.cells (rcs r) 37 (0, 0)))
    (c : wpList Try.prog ops Q rest (a.put op.dst (.agg (rcs r))) w) : wpList Try.prog ops Q (op :: rest) a w :=
  Lk.wanted hw fun _ hK => wp_load_row 37 x ho b hx 37 (rcs r) (0, 0) _ hP Try.underlying37 rfl info_rs (hK _ _ c)
set_option maxHeartbeats 1600000 in
theorem StoreNil_walk (r : R) (w : World) : Calls Try.prog 7 #[.agg (rcs r)] w fun e w' => e = .returned (.bool true) ∧ Below w.heap.size w w' := by
  have HV : Hid (Hv w (w.alloc (.cells (rcs r) 37)) [(w.heap.size, .cells (rcs r) 37)]) := (Hv.nil w).made _
  go_enter Try.func7, Try.ntmps7
  go_wp2_with (first
    | (go_at_call 9; refine (awake_c _).mono ?_; rintro e W ⟨rfl, hb⟩; replace HV := Lib.hid (HV.out.grow hb); clear hb)
    | (go_at_call 12; refine (sopen_none _).mono ?_; rintro e W ⟨rfl, rfl⟩)
    | (go_at_call 15; (with_reducible refine (sput_n r _).mono ?_); rintro e W ⟨rfl, hb⟩; replace HV := Lib.hid (HV.out.grow hb); clear hb)
    | (go_at_call 17; refine (sclear_n _).mono ?_; rintro e W ⟨rfl, rfl⟩)
    | (go_at_call 26; refine (stold_n _).mono ?_; rintro e W ⟨rfl, rfl⟩)
    | (go_at_call 13; refine (sroom_n _).mono ?_; rintro e W ⟨rfl, rfl⟩)
    | (refine ldr rfl _ rfl _ _ rfl HV.out.head ?_)
    | fail)
  go_ret
  exact ⟨rfl, HV.out.old⟩
end Sq
end Go.Proofs.Ytlhapipgmadbeaa
