/- The loops of StoreKeeps, each by itself. -/
import Derived.Test.YtlhapipgmadbeaaStoreKeepKit
import Derived.Deep.DeepCutAuto
import Derived.Deep.CutRange
namespace Go.Proofs.Ytlhapipgmadbeaa
namespace Sq
open Go.RowKit Nv Nw Sp Lk

/-- The loops of a code, in the text's order, none within another. -/
def loopsOf : Code → List Code
  | .loop c => [.loop c]
  | .seq a b => loopsOf a ++ loopsOf b
  | .block _ c => loopsOf c
  | .scope c => loopsOf c
  | .cond _ a b => loopsOf a ++ loopsOf b
  | _ => []
def inLoop : Code → Code
  | .loop c => c
  | c => c
noncomputable def lp1 : Code := (loopsOf (Try.f6.body.getD .skip)).headD .skip
noncomputable def lp2 : Code := (loopsOf (inLoop lp1)).headD .skip
noncomputable def lp3 : Code := ((loopsOf (inLoop lp1)).drop 1).headD .skip
noncomputable def lp4 : Code := (loopsOf (inLoop lp3)).headD .skip

set_option maxRecDepth 1000000 in
set_option maxHeartbeats 8000000 in
theorem loop4 {w wr : World} {g b d k ab ao Ln cp nT c1 n2 c2 : Nat} {m : M} {A1 A2 : Option Addr} {T T2 : List R} {r : R} {Q : Exit → Act → World → Prop} {jj : Nat} {s : R} (sl0 sl2 sl3 sl4 sl5 sl6 sl7 sl8 sl9 sl12 sl13 sl15 sl16 sl17 sl21 sl22 sl23 sl24 sl25 sl26 sl27 sl28 sl29 sl30 sl31 sl32 sl33 sl34 sl35 sl36 sl37 sl38 sl39 sl40 sl41 sl42 sl43 sl44 sl45 sl46 sl47 sl48 sl49 sl50 sl51 sl52 sl53 sl54 sl55 sl56 sl57 sl58 sl59 sl60 sl61 sl62 sl63 sl64 sl65 sl66 sl67 sl68 sl69 sl70 sl71 sl72 sl73 sl74 sl75 sl76 sl77 sl78 sl79 sl80 sl81 sl82 sl83 sl84 sl85 sl86 sl87 sl88 sl89 sl90 sl91 sl92 sl93 sl94 sl95 sl96 sl97 sl98 sl99 sl100 sl101 sl102 sl103 sl104 sl105 sl106 sl107 sl108 sl109 sl110 sl111 sl112 sl113 sl114 sl115 sl116 sl117 sl118 sl119 sl120 sl121 sl122 sl123 sl124 sl125 sl126 sl127 sl128 sl129 sl130 sl131 sl132 sl133 sl134 sl135 sl136 sl137 sl138 sl139 sl140 sl141 sl142 sl143 sl144 sl145 sl146 sl147 sl148 sl149 sl150 sl151 sl152 sl153 sl154 sl155 sl156 sl157 sl158 sl159 sl160 sl161 sl162 sl163 sl164 sl165 sl166 sl167 sl168 sl169 sl170 sl171 sl172 sl173 sl174 sl175 sl176 sl177 sl178 sl179 sl180 sl181 sl182 sl183 sl184 sl185 sl186 sl187 sl188 sl189 sl190 sl191 sl192 sl193 sl194 sl195 sl196 sl197 sl198 sl199 sl200 sl201 sl202 sl203 sl204 sl205 sl206 sl207 sl208 sl209 sl210 sl211 sl212 sl213 sl214 sl215 sl216 sl217 sl218 sl219 sl220 sl221 sl222 sl223 sl224 sl225 sl226 sl227 sl228 sl229 sl230 sl231 sl232 sl233 sl234 sl235 sl236 sl237 sl238 sl239 sl240 : Value) (hRc : ∀ W, Below w.heap.size w W → W.rangeAt ab (ao + k * 3) (rcs r).toList) (hk : k < Ln) (hk60 : k < 60) (hnT : T.length = nT) (hn2 : T2.length = n2) (hl1 : nT ≤ 1000) (hl2 : n2 ≤ 1000) (hc1 : nT ≤ c1) (hc2 : n2 ≤ c2) (hS : Kp w wr g b d m A1 T A2 T2) (hs : T[jj]? = some s)
    (hexit : ∀ (w157 w158 w159 w160 w161 w162 w163 w164 w165 w166 w167 w168 w169 w170 w171 w172 w173 w174 w175 w176 w177 w178 w179 w180 w181 w182 w183 w184 w185 w186 w187 w188 w189 w190 w191 w192 w193 w194 w195 w196 w197 w198 : Value) (x2 : Bool) (wr' : World), x2 = T2.any (fun z => decide (z = s) || (decide (z.code = s.code) && decide (z = r))) → Kp w wr' g b d m A1 T A2 T2 → Q (.exit 6) ⟨#[sl0, .slice (some ⟨ab, ao, none⟩) Ln cp, sl2, sl3, sl4, sl5, sl6, sl7, sl8, sl9, .int .i64 (k : Int), .slice A1 nT c1, sl12, sl13, .slice A2 n2 c2, sl15, sl16, sl17, .int .i64 (jj : Int), .bool x2, .int .i64 (n2 : Int), sl21, sl22, sl23, sl24, sl25, sl26, sl27, sl28, sl29, sl30, sl31, sl32, sl33, sl34, sl35, sl36, sl37, sl38, sl39, sl40, sl41, sl42, sl43, sl44, sl45, sl46, sl47, sl48, sl49, sl50, sl51, sl52, sl53, sl54, sl55, sl56, sl57, sl58, sl59, sl60, sl61, sl62, sl63, sl64, sl65, sl66, sl67, sl68, sl69, sl70, sl71, sl72, sl73, sl74, sl75, sl76, sl77, sl78, sl79, sl80, sl81, sl82, sl83, sl84, sl85, sl86, sl87, sl88, sl89, sl90, sl91, sl92, sl93, sl94, sl95, sl96, sl97, sl98, sl99, sl100, sl101, sl102, sl103, sl104, sl105, sl106, sl107, sl108, sl109, sl110, sl111, sl112, sl113, sl114, sl115, sl116, sl117, sl118, sl119, sl120, sl121, sl122, sl123, sl124, sl125, sl126, sl127, sl128, sl129, sl130, sl131, sl132, sl133, sl134, sl135, sl136, sl137, sl138, sl139, sl140, sl141, sl142, sl143, sl144, sl145, sl146, sl147, sl148, sl149, sl150, sl151, sl152, sl153, sl154, sl155, sl156, w157, w158, w159, w160, w161, w162, w163, w164, w165, w166, w167, w168, w169, w170, w171, w172, w173, w174, w175, w176, w177, w178, w179, w180, w181, w182, w183, w184, w185, w186, w187, w188, w189, w190, w191, w192, w193, w194, w195, w196, w197, w198, sl199, sl200, sl201, sl202, sl203, sl204, sl205, sl206, sl207, sl208, sl209, sl210, sl211, sl212, sl213, sl214, sl215, sl216, sl217, sl218, sl219, sl220, sl221, sl222, sl223, sl224, sl225, sl226, sl227, sl228, sl229, sl230, sl231, sl232, sl233, sl234, sl235, sl236, sl237, sl238, sl239, sl240], []⟩ wr') :
    Code.wp Try.prog lp4 Q ⟨#[sl0, .slice (some ⟨ab, ao, none⟩) Ln cp, sl2, sl3, sl4, sl5, sl6, sl7, sl8, sl9, .int .i64 (k : Int), .slice A1 nT c1, sl12, sl13, .slice A2 n2 c2, sl15, sl16, sl17, .int .i64 (jj : Int), .bool false, .int .i64 0, sl21, sl22, sl23, sl24, sl25, sl26, sl27, sl28, sl29, sl30, sl31, sl32, sl33, sl34, sl35, sl36, sl37, sl38, sl39, sl40, sl41, sl42, sl43, sl44, sl45, sl46, sl47, sl48, sl49, sl50, sl51, sl52, sl53, sl54, sl55, sl56, sl57, sl58, sl59, sl60, sl61, sl62, sl63, sl64, sl65, sl66, sl67, sl68, sl69, sl70, sl71, sl72, sl73, sl74, sl75, sl76, sl77, sl78, sl79, sl80, sl81, sl82, sl83, sl84, sl85, sl86, sl87, sl88, sl89, sl90, sl91, sl92, sl93, sl94, sl95, sl96, sl97, sl98, sl99, sl100, sl101, sl102, sl103, sl104, sl105, sl106, sl107, sl108, sl109, sl110, sl111, sl112, sl113, sl114, sl115, sl116, sl117, sl118, sl119, sl120, sl121, sl122, sl123, sl124, sl125, sl126, sl127, sl128, sl129, sl130, sl131, sl132, sl133, sl134, sl135, sl136, sl137, sl138, sl139, sl140, sl141, sl142, sl143, sl144, sl145, sl146, sl147, sl148, sl149, sl150, sl151, sl152, sl153, sl154, sl155, sl156, sl157, sl158, sl159, sl160, sl161, sl162, sl163, sl164, sl165, sl166, sl167, sl168, sl169, sl170, sl171, sl172, sl173, sl174, sl175, sl176, sl177, sl178, sl179, sl180, sl181, sl182, sl183, sl184, sl185, sl186, sl187, sl188, sl189, sl190, sl191, sl192, sl193, sl194, sl195, sl196, sl197, sl198, sl199, sl200, sl201, sl202, sl203, sl204, sl205, sl206, sl207, sl208, sl209, sl210, sl211, sl212, sl213, sl214, sl215, sl216, sl217, sl218, sl219, sl220, sl221, sl222, sl223, sl224, sl225, sl226, sl227, sl228, sl229, sl230, sl231, sl232, sl233, sl234, sl235, sl236, sl237, sl238, sl239, sl240], []⟩ wr := by
  have HRc := Lib.hid hRc
  have HTl := Lib.hid (And.intro hnT hn2)
  have HS := Lib.hid hS
  have hkn : (k : Int) < Ln := by omega
  have HUse := Lib.hid (And.intro hk60 (And.intro hl1 (And.intro hl2 (And.intro hc1 hc2))))
  clear HUse
  clear hRc hnT hn2 hS
  conv => arg 2; whnf
  dsimp only
  have HExit := Lib.hid hexit
  clear hexit
  go_loopw [19, 20] (fun hv i wr => ∃ (q : Nat) (x2 : Bool), q ≤ n2 ∧ hv = .bool x2 ∧ i = .int .i64 q ∧ x2 = (T2.take q).any (fun z => decide (z = s) || (decide (z.code = s.code) && decide (z = r))) ∧ Kp w wr g b d m A1 T A2 T2) (fun _ i _ => n2 - (intOf i).toNat)
  case atStart => exact ⟨0, false, Nat.zero_le _, rfl, rfl, by simp, HS.out⟩
  case round =>
    clear HS
    obtain ⟨q, x2, hq, rfl, rfl, hX2, hS⟩ := hrel
    have HS := Lib.hid hS
    clear hS
    by_cases hlt4 : q < n2
    · clear HExit
      obtain ⟨y0, y1, y2⟩ := rc_cells (HRc.out _ HS.out.one.mm.old)
      obtain ⟨g1, o1', e1, _, h1⟩ := HS.out.was jj s hs
      obtain ⟨b0, b1, b2⟩ := rc_cells h1
      clear h1
      have hqn : (q : Int) < n2 := by omega
      have hjT : jj < nT := by rw [← HTl.out.1]; exact (List.getElem?_eq_some_iff.1 hs).1
      have hjn : (jj : Int) < nT := by omega
      obtain ⟨z, hz⟩ := get_some HTl.out.2 hlt4
      have hx3 := take_any (p := fun z => decide (z = s) || (decide (z.code = s.code) && decide (z = r))) hz
      have E1 := eq_r z s
      have E2 := eq_r z r
      dsimp only [rcs] at E1 E2
      obtain ⟨g2, o2, e2, _, h1⟩ := HS.out.now q z hz
      obtain ⟨a0, a1, a2⟩ := rc_cells h1
      clear h1
      have HX3 := Lib.hid (And.intro hX2 hx3)
      clear hX2 hx3 hs hz
      subst e1 e2
      cases x2 with
      | true =>
        go_wp2_with fail
        go_quiet (fail)
        go_wp2_with fail
        go_roundw
        case rel => exact ⟨q + 1, true, by omega, rfl, by go_num, by rw [HX3.out.2, ← HX3.out.1]; rfl, HS.out.grow (below_n (Below.refl _ _) _)⟩
        case measure => simp [intOf]; omega
      | false =>
        cases hd : decide (z = s) with
        | true =>
          rw [hd] at E1
          have HD := Lib.hid hd
          clear hd
          go_wp2_with fail
          go_quiet (fail)
          go_wp2_with fail
          go_roundw
          case rel => exact ⟨q + 1, true, by omega, rfl, by go_num, by rw [HX3.out.2, ← HX3.out.1]; (try dsimp only); rw [HD.out]; rfl, HS.out.grow (below_n (Below.refl _ _) _)⟩
          case measure => simp [intOf]; omega
        | false =>
          rw [hd] at E1
          have HD := Lib.hid hd
          clear hd
          cases hc : (z.code == s.code) with
          | true =>
            have HE : Hid (decide (z.code = s.code) = true) := (show decide (z.code = s.code) = (z.code == s.code) from rfl).trans hc
            go_wp2_with fail
            go_quiet (fail)
            go_wp2_with fail
            go_roundw
            case rel => exact ⟨q + 1, decide (z = r), by omega, rfl, by go_num, by rw [HX3.out.2, ← HX3.out.1]; (try dsimp only); rw [HD.out, HE.out]; rfl, HS.out.grow (below_n (Below.refl _ _) _)⟩
            case measure => simp [intOf]; omega
          | false =>
            have HE : Hid (decide (z.code = s.code) = false) := (show decide (z.code = s.code) = (z.code == s.code) from rfl).trans hc
            go_wp2_with fail
            go_quiet (fail)
            go_wp2_with fail
            go_roundw
            case rel => exact ⟨q + 1, false, by omega, rfl, by go_num, by rw [HX3.out.2, ← HX3.out.1]; (try dsimp only); rw [HD.out, HE.out]; rfl, HS.out.grow (below_n (Below.refl _ _) _)⟩
            case measure => simp [intOf]; omega
    · obtain rfl : q = n2 := by omega
      have HX : Hid (x2 = T2.any (fun z => decide (z = s) || (decide (z.code = s.code) && decide (z = r)))) := by
        rw [List.take_of_length_le (by rw [HTl.out.2]; omega)] at hX2
        exact hX2
      clear hX2 hs
      go_wp2_with fail
      exact HExit.out _ _ _ _ _ _ _ _ _ _ _ _ _ _ _ _ _ _ _ _ _ _ _ _ _ _ _ _ _ _ _ _ _ _ _ _ _ _ _ _ _ _ _ _ HX.out HS.out
end Sq
end Go.Proofs.Ytlhapipgmadbeaa
