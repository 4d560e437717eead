/- Proved: for every input the call of CutoffBound returns true, and each argument reads behind the call as it read before. No condition. -/
import Derived.Test.YtdfihcbmojggoaaRows
import Derived.Test.YtdfihcbmojggoaaCutoffLaw4
import Derived.Test.YtdfihcbmojggoaaLimKit
namespace Go.Proofs.Ytdfihcbmojggoaa.cutoffBound
open Go.ChangeShapes Go.WideShapes Go.ChangeAt Go.RowKit

theorem own : ownKnob Try.prog.godebug = none := by kernel_rfl
theorem cellsInt : Try.prog.cellsOf 3 = 1 := by kernel_rfl
theorem laidOut : laidOutB Try.prog = true := by kernel_rfl

set_option maxRecDepth 100000 in
theorem lifted (os : Os) (started : os.Started) (H : Type) (enc : TypeId × Value → H) :
    ReturnsInHanded {} Try.checked os 5 .any (Rows.cutoffBoundSpec.pre6 enc Try.prog Try.f5 Rows.cutoffBoundRow.domain false) (Rows.cutoffBoundSpec.post enc Try.prog Try.f5 false true false false) := by
  refine returnsInHanded_of_change (C := Try.checked) own started (by kernel_rfl) Try.func5
    (ChangeSpec.witness6 (enc := enc) (C := Try.checked) false ⟨#[], #[.int .u16 0, .int .u8 0, .int .u8 0, .slice none 0 0, .slice none 0 0, .bool false], []⟩ 8 (by kernel_rfl) (by kernel_rfl) (by kernel_rfl) (by kernel_rfl)) ?_
  intro W base args ds gs before hval0 hW hcnd _
  have hval : ∀ (j : Nat) t v, Try.f5.params[j]? = some t → args[j]? = some v → Value.okWide Try.prog W .any base t v := hval0
  have hW' := hW
  obtain ⟨p, q, hA0, hV, rfl, hfz, hnd⟩ := hW
  have hA : DataW.TrodAll enc Try.prog W 0 (fun _ => true) true Try.f5.params.toList args.toList ds p := hA0
  rw [Try.params5] at hA hval
  obtain ⟨v0, vs0, d0, ds0, p0, q0, hargs, rfl, rfl, h0, r0⟩ := trodAll_cons hA
  obtain ⟨v1, vs1, d1, ds1, p1, q1, rfl, rfl, rfl, h1, r1⟩ := trodAll_cons r0
  obtain ⟨v2, vs2, d2, ds2, p2, q2, rfl, rfl, rfl, h2, r2⟩ := trodAll_cons r1
  obtain ⟨v3, vs3, d3, ds3, p3, q3, rfl, rfl, rfl, h3, r3⟩ := trodAll_cons r2
  obtain ⟨v4, vs4, d4, ds4, p4, q4, rfl, rfl, rfl, h4, r4⟩ := trodAll_cons r3
  obtain ⟨v5, vs5, d5, ds5, p5, q5, rfl, rfl, rfl, h5, r5⟩ := trodAll_cons r4
  obtain ⟨rfl, rfl, rfl⟩ := trodAll_nil r5
  obtain rfl : args = #[v0, v1, v2, v3, v4, v5] := by cases args; simp_all
  obtain ⟨rfl, rfl⟩ := trodVars_none hV
  obtain ⟨a0, rfl, rfl, rfl, w0⟩ := open_int Try.underlying33 (hval 0 _ v0 rfl rfl) h0
  obtain ⟨s0, rfl, hs0⟩ := Lk.u16_nat w0
  obtain ⟨a1, rfl, rfl, rfl, w1⟩ := open_int Try.underlying5 (hval 1 _ v1 rfl rfl) h1
  obtain ⟨s1, rfl, hs1⟩ := Lk.u8_nat w1
  obtain ⟨a2, rfl, rfl, rfl, w2⟩ := open_int Try.underlying5 (hval 2 _ v2 rfl rfl) h2
  obtain ⟨s2, rfl, hs2⟩ := Lk.u8_nat w2
  obtain ⟨A3, l3, c3, rfl, hlc3, hm3, hI3, _⟩ := Lk.open_ints_any Try.underlying34 Try.underlying3 cellsInt (hval 3 _ v3 rfl rfl) h3
  have hl3 : l3.length ≤ 9223372036854775807 := by unfold maxLen at hm3; omega
  obtain ⟨A4, l4, c4, rfl, hlc4, hm4, hI4, _⟩ := Lk.open_ints_any Try.underlying34 Try.underlying3 cellsInt (hval 4 _ v4 rfl rfl) h4
  have hl4 : l4.length ≤ 9223372036854775807 := by unfold maxLen at hm4; omega
  obtain ⟨a5, rfl, rfl, rfl⟩ := open_bool Try.underlying4 (hval 5 _ v5 rfl rfl) h5
  refine (Ow.CutoffBound_walk s0 hs0 s1 hs1 s2 hs2 A3 l3 c3 hl3 A4 l4 c4 hl4 a5 W hI3 hI4).mono fun e W' ⟨he, hg⟩ => ?_
  subst he
  exact ⟨_, rfl, Lk.law_end hW' rfl laidOut (by kernel_rfl) (by kernel_rfl) Try.underlying4 rfl hg⟩

theorem over : Rows.cutoffBoundRow.holds Try.pinned (OpenSpec.ofChange Rows.cutoffBoundSpec) :=
  OpenClaim.holds_of_wide 5 Try.f5 rfl rfl rfl rfl rfl rfl rfl ⟨rfl, rfl, rfl, rfl, rfl⟩ rfl rfl rfl rfl rfl (by kernel_rfl) Try.func5 (by kernel_rfl)
    (of_decide_eq_true (by kernel_rfl)) (by unfold Func.isWrapper; first | (rw [if_pos (by decide +kernel)]; kernel_rfl) | (rw [if_neg (by decide +kernel)]; exact ⟨rfl, rfl⟩))
    (fun os started H enc _ => lifted os started H enc)

theorem proved : Rows.CutoffBoundSaid := over
end Go.Proofs.Ytdfihcbmojggoaa.cutoffBound
