/- link.Decode. -/
import Derived.Test.YtegjkbebnnpdcaaLinkDecode
namespace Go.Proofs.Ytegjkbebnnpdcaa
namespace Lw
open Go.RowKit

set_option maxRecDepth 100000 in
set_option maxHeartbeats 400000 in
theorem dec_c (N : Nat) (A : Option Addr) (l : List Nat) (c : Nat) (w : World) (hN : l.length = N) (hb : Cr.Bytes l) (hc : N ≤ c) (hA : Crc.InB w A l) :
    Calls Try.prog 14 #[.slice A N c] w fun e w' => e = .returned (.tuple #[.agg (pc (Ln.decP l)), .int .i64 (Ln.decE l)]) ∧ Below w.heap.size w w' := by
  have HA := Lib.hid hA
  have CN := Lib.hid Crc.new_c
  have CD := Lib.hid (fun b W h1 h2 => decode_c N b 0 A l c W h1 (by decide) hN hb hc h2)
  have HB : Hid (Below w.heap.size w (w.alloc (.cells (pc Ln.zero) 26))) := (Below.refl _ _).alloc (Nat.le_refl _) _
  have HP := Lib.hid (Pkt.new w Ln.zero)
  clear hA hb hN hc
  generalize Ln.decP l = p at *
  generalize Ln.decE l = x at *
  go_enter Try.func14, Try.ntmps14
  go_wp2_with fail
  refine (CN.out _).mono ?_
  rintro e W2 ⟨rfl, hw⟩
  have e1 : (w.alloc (.cells (pc Ln.zero) 26)).heap.size = w.heap.size + 1 := by simp
  have hi := Crc.new_is (w.alloc (.cells (pc Ln.zero) 26))
  rw [e1] at hi
  have HI : Hid (Crc.Is W2 (w.heap.size + 1) 0) := by rw [hw]; exact hi
  replace HP : Hid (Pkt W2 w.heap.size Ln.zero) := by rw [hw]; exact HP.out.alloc _
  replace HB : Hid (Below w.heap.size w W2) := by rw [hw]; exact HB.out.alloc HB.out.size _
  have HA2 : Hid (Crc.BytesAt W2 (w.heap.size + 1) A l) := by
    show Crc.BytesAt W2 (w.heap.size + 1) A l
    intro i hi
    obtain ⟨q, o, e, hq⟩ := HA.out i hi
    have hlt : q < w.heap.size := World.block_lt_of_cell? _ _ hq
    exact ⟨q, o, e, by omega, (HB.out.cell (p := ⟨q, o + i, none⟩) hlt).trans hq⟩
  clear hw e1 hi CN HA
  go_wp2_with fail
  generalize hz : w.heap.size = m at *
  have HZ := Lib.hid hz
  clear hz
  (with_reducible refine (CD.out _ _ HI.out HA2.out).mono ?_)
  rintro e W3 ⟨rfl, _, ho⟩
  replace HP := Lib.hid (HP.out.offs ho (by omega))
  replace HB := Lib.hid (HB.out.trans (ho.below (m := m) (by omega) (by have := HI.out.lt; omega)))
  clear ho CD HI HA2
  go_wp2_with (first | (refine st_pk rfl _ _ rfl rfl _ _ p rfl rfl HP.out ?_; intro W4 h1 h2; have HP4 := Lib.hid h1; replace HB := Lib.hid (HB.out.trans (h2.below (Nat.le_refl m))); clear h1 h2 HP))
  refine bodyPost_ret (res2 rfl _ _ _ _ rfl HP4.out) rfl ?_
  exact ⟨rfl, by rw [HZ.out]; exact HB.out⟩
end Lw
end Go.Proofs.Ytegjkbebnnpdcaa
