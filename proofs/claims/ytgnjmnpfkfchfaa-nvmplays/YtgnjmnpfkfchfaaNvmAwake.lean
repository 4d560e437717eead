/- The calls whose answers the document fixes: awake. -/
import Derived.Test.YtgnjmnpfkfchfaaNvmNew
namespace Go.Proofs.Ytgnjmnpfkfchfaa
namespace Nw
open Go.RowKit Nv

set_option maxRecDepth 100000 in
set_option maxHeartbeats 4000000 in
theorem awake_c (w : World) : Calls Try.prog 8 #[] w fun e w' => e = .returned (.bool true) ∧ Below w.heap.size w w' := by
  have HB : Hid (Below w.heap.size w w) := Below.refl _ _
  go_enter Try.func8, Try.ntmps8
  go_wp2_with fail
  refine (new_v 4 rfl (by decide) HB.out).mono ?_
  rintro e w1 ⟨b, d, rfl, h⟩
  have HO : Hid (Own w w1 b d (new 4)) := h
  clear h HB
  go_wp2_with fail
  refine (arm_v (m' := ⟨[0, 0, 0, 0], false, 1, 0⟩) (by rfl) HO.out).mono ?_
  rintro e w2 ⟨rfl, h⟩
  replace HO := Lib.hid h
  clear h
  go_wp2_with fail
  refine (write_v (m' := ⟨[5, 0, 0, 0], false, 0, 1⟩) (E := 0) (by decide) (by rfl) HO.out ⟨by decide, by decide, by decide⟩).mono ?_
  rintro e w3 ⟨rfl, h⟩
  replace HO := Lib.hid h
  clear h
  go_wp2_with fail
  refine (write_v (m' := ⟨[5, 0, 0, 0], true, 0, 1⟩) (E := 110) (by decide) (by rfl) HO.out ⟨by decide, by decide, by decide⟩).mono ?_
  rintro e w4 ⟨rfl, h⟩
  replace HO := Lib.hid h
  clear h
  go_wp2_with fail
  refine (read_v (v := 0) (E := 110) (by decide) (by decide) HO.out).mono ?_
  rintro e w5 ⟨rfl, h⟩
  replace HO := Lib.hid h
  clear h
  go_wp2_with fail
  refine (down_v (x := true) rfl HO.out).mono ?_
  rintro e w6 ⟨rfl, rfl⟩
  go_wp2_with fail
  refine (up_v (m' := ⟨[5, 0, 0, 0], false, -1, 1⟩) (by rfl) HO.out).mono ?_
  rintro e w7 ⟨rfl, h⟩
  replace HO := Lib.hid h
  clear h
  go_wp2_with fail
  refine (read_v (v := 5) (E := 0) (by decide) (by decide) HO.out).mono ?_
  rintro e w8 ⟨rfl, h⟩
  replace HO := Lib.hid h
  clear h
  go_wp2_with fail
  refine (read_v (v := 0) (E := 0) (by decide) (by decide) HO.out).mono ?_
  rintro e w9 ⟨rfl, h⟩
  replace HO := Lib.hid h
  clear h
  go_wp2_with fail
  refine (write_v (m' := ⟨[5, 0, 0, 0], false, -1, 1⟩) (E := 111) (by decide) (by rfl) HO.out ⟨by decide, by decide, by decide⟩).mono ?_
  rintro e w10 ⟨rfl, h⟩
  replace HO := Lib.hid h
  clear h
  go_wp2_with fail
  refine (words_v (x := 4) rfl HO.out).mono ?_
  rintro e w11 ⟨rfl, rfl⟩
  go_wp2_with fail
  refine (many_v (x := 1) rfl HO.out).mono ?_
  rintro e w12 ⟨rfl, rfl⟩
  go_wp2_with fail
  go_ret
  exact ⟨rfl, HO.out.old⟩
end Nw
end Go.Proofs.Ytgnjmnpfkfchfaa
