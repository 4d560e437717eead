/- The loop of StoreKeeps over the records that were. -/
import Derived.Test.YtlhapipgmadbeaaStoreLaw5a
import Derived.Deep.DeepCutAuto
import Derived.Deep.CutRange
namespace Go.Proofs.Ytlhapipgmadbeaa
namespace Sq
open Go.RowKit Nv Nw Sp Lk

set_option maxRecDepth 1000000 in
set_option maxHeartbeats 8000000 in
theorem loop3 {w wr : World} {g b d k ab ao Ln cp nT c1 n2 c2 : Nat} {m : M} {A1 A2 : Option Addr} {T T2 : List R} {r : R} {Q : Exit → Act → World → Prop} {may y : Bool} (sl0 sl2 sl3 sl4 sl5 sl6 sl7 sl8 sl9 sl13 sl15 sl17 sl19 sl20 sl21 sl22 sl23 sl24 sl25 sl26 sl27 sl28 sl29 sl30 sl31 sl32 sl33 sl34 sl35 sl36 sl37 sl38 sl39 sl40 sl41 sl42 sl43 sl44 sl45 sl46 sl47 sl48 sl49 sl50 sl51 sl52 sl53 sl54 sl55 sl56 sl57 sl58 sl59 sl60 sl61 sl62 sl63 sl64 sl65 sl66 sl67 sl68 sl69 sl70 sl71 sl72 sl73 sl74 sl75 sl76 sl77 sl78 sl79 sl80 sl81 sl82 sl83 sl84 sl85 sl86 sl87 sl88 sl89 sl90 sl91 sl92 sl93 sl94 sl95 sl96 sl97 sl98 sl99 sl100 sl101 sl102 sl103 sl104 sl105 sl106 sl107 sl108 sl109 sl110 sl111 sl112 sl113 sl114 sl115 sl116 sl117 sl118 sl119 sl120 sl121 sl122 sl123 sl124 sl125 sl126 sl127 sl128 sl129 sl130 sl131 sl132 sl133 sl134 sl135 sl136 sl137 sl138 sl139 sl140 sl141 sl142 sl143 sl144 sl145 sl146 sl147 sl148 sl149 sl150 sl151 sl152 sl153 sl154 sl155 sl156 sl157 sl158 sl159 sl160 sl161 sl162 sl163 sl164 sl165 sl166 sl167 sl168 sl169 sl170 sl171 sl172 sl173 sl174 sl175 sl176 sl177 sl178 sl179 sl180 sl181 sl182 sl183 sl184 sl185 sl186 sl187 sl188 sl189 sl190 sl191 sl192 sl193 sl194 sl195 sl196 sl197 sl198 sl199 sl200 sl201 sl202 sl203 sl204 sl205 sl206 sl207 sl208 sl209 sl210 sl211 sl212 sl213 sl214 sl215 sl216 sl217 sl218 sl219 sl220 sl221 sl222 sl223 sl224 sl225 sl226 sl227 sl228 sl229 sl230 sl231 sl232 sl233 sl234 sl235 sl236 sl237 sl238 sl239 sl240 : Value) (hRc : ∀ W, Below w.heap.size w W → W.rangeAt ab (ao + k * 3) (rcs r).toList) (hk : k < Ln) (hk60 : k < 60) (hnT : T.length = nT) (hn2 : T2.length = n2) (hl1 : nT ≤ 1000) (hl2 : n2 ≤ 1000) (hc1 : nT ≤ c1) (hc2 : n2 ≤ c2) (hS : Kp w wr g b d m A1 T A2 T2) (hy : y = T2.all (fun z => z.lat))
    (hL : may = true → r.lat = true → (∃ z ∈ T2, z.lat = false) → ∀ s ∈ T, s.lat = true → s ∈ T2 ∨ (r.code = s.code ∧ r ∈ T2))
    (hexit : ∀ (w4 w19 w20 w151 w152 w153 w154 w155 w156 w157 w158 w159 w160 w161 w162 w163 w164 w165 w166 w167 w168 w169 w170 w171 w172 w173 w174 w175 w176 w177 w178 w179 w180 w181 w182 w183 w184 w185 w186 w187 w188 w189 w190 w191 w192 w193 w194 w195 w196 w197 w198 w199 w200 w201 w202 w203 w204 w205 w206 w207 w208 w209 w210 w211 w212 w213 w214 w215 w216 w217 w218 w219 w220 w221 : Value) (wr' : World), Kp w wr' g b d m A1 T A2 T2 → Q (.exit 4) ⟨#[sl0, .slice (some ⟨ab, ao, none⟩) Ln cp, sl2, sl3, w4, sl5, sl6, sl7, sl8, sl9, .int .i64 (k : Int), .slice A1 nT c1, .bool may, sl13, .slice A2 n2 c2, sl15, .bool y, sl17, .int .i64 (nT : Int), w19, w20, sl21, sl22, sl23, sl24, sl25, sl26, sl27, sl28, sl29, sl30, sl31, sl32, sl33, sl34, sl35, sl36, sl37, sl38, sl39, sl40, sl41, sl42, sl43, sl44, sl45, sl46, sl47, sl48, sl49, sl50, sl51, sl52, sl53, sl54, sl55, sl56, sl57, sl58, sl59, sl60, sl61, sl62, sl63, sl64, sl65, sl66, sl67, sl68, sl69, sl70, sl71, sl72, sl73, sl74, sl75, sl76, sl77, sl78, sl79, sl80, sl81, sl82, sl83, sl84, sl85, sl86, sl87, sl88, sl89, sl90, sl91, sl92, sl93, sl94, sl95, sl96, sl97, sl98, sl99, sl100, sl101, sl102, sl103, sl104, sl105, sl106, sl107, sl108, sl109, sl110, sl111, sl112, sl113, sl114, sl115, sl116, sl117, sl118, sl119, sl120, sl121, sl122, sl123, sl124, sl125, sl126, sl127, sl128, sl129, sl130, sl131, sl132, sl133, sl134, sl135, sl136, sl137, sl138, sl139, sl140, sl141, sl142, sl143, sl144, sl145, sl146, sl147, sl148, sl149, sl150, w151, w152, w153, w154, w155, w156, w157, w158, w159, w160, w161, w162, w163, w164, w165, w166, w167, w168, w169, w170, w171, w172, w173, w174, w175, w176, w177, w178, w179, w180, w181, w182, w183, w184, w185, w186, w187, w188, w189, w190, w191, w192, w193, w194, w195, w196, w197, w198, w199, w200, w201, w202, w203, w204, w205, w206, w207, w208, w209, w210, w211, w212, w213, w214, w215, w216, w217, w218, w219, w220, w221, sl222, sl223, sl224, sl225, sl226, sl227, sl228, sl229, sl230, sl231, sl232, sl233, sl234, sl235, sl236, sl237, sl238, sl239, sl240], []⟩ wr') :
    Code.wp Try.prog lp3 Q ⟨#[sl0, .slice (some ⟨ab, ao, none⟩) Ln cp, sl2, sl3, sl4, sl5, sl6, sl7, sl8, sl9, .int .i64 (k : Int), .slice A1 nT c1, .bool may, sl13, .slice A2 n2 c2, sl15, .bool y, sl17, .int .i64 0, sl19, sl20, sl21, sl22, sl23, sl24, sl25, sl26, sl27, sl28, sl29, sl30, sl31, sl32, sl33, sl34, sl35, sl36, sl37, sl38, sl39, sl40, sl41, sl42, sl43, sl44, sl45, sl46, sl47, sl48, sl49, sl50, sl51, sl52, sl53, sl54, sl55, sl56, sl57, sl58, sl59, sl60, sl61, sl62, sl63, sl64, sl65, sl66, sl67, sl68, sl69, sl70, sl71, sl72, sl73, sl74, sl75, sl76, sl77, sl78, sl79, sl80, sl81, sl82, sl83, sl84, sl85, sl86, sl87, sl88, sl89, sl90, sl91, sl92, sl93, sl94, sl95, sl96, sl97, sl98, sl99, sl100, sl101, sl102, sl103, sl104, sl105, sl106, sl107, sl108, sl109, sl110, sl111, sl112, sl113, sl114, sl115, sl116, sl117, sl118, sl119, sl120, sl121, sl122, sl123, sl124, sl125, sl126, sl127, sl128, sl129, sl130, sl131, sl132, sl133, sl134, sl135, sl136, sl137, sl138, sl139, sl140, sl141, sl142, sl143, sl144, sl145, sl146, sl147, sl148, sl149, sl150, sl151, sl152, sl153, sl154, sl155, sl156, sl157, sl158, sl159, sl160, sl161, sl162, sl163, sl164, sl165, sl166, sl167, sl168, sl169, sl170, sl171, sl172, sl173, sl174, sl175, sl176, sl177, sl178, sl179, sl180, sl181, sl182, sl183, sl184, sl185, sl186, sl187, sl188, sl189, sl190, sl191, sl192, sl193, sl194, sl195, sl196, sl197, sl198, sl199, sl200, sl201, sl202, sl203, sl204, sl205, sl206, sl207, sl208, sl209, sl210, sl211, sl212, sl213, sl214, sl215, sl216, sl217, sl218, sl219, sl220, sl221, sl222, sl223, sl224, sl225, sl226, sl227, sl228, sl229, sl230, sl231, sl232, sl233, sl234, sl235, sl236, sl237, sl238, sl239, sl240], []⟩ wr := by
  have HRc := Lib.hid hRc
  have HTl := Lib.hid (And.intro hnT hn2)
  have HS := Lib.hid hS
  have hkn : (k : Int) < Ln := by omega
  have HUse := Lib.hid (And.intro hk60 (And.intro hl1 (And.intro hl2 (And.intro hc1 hc2))))
  clear HUse
  clear hRc hnT hn2 hS
  conv => arg 2; whnf
  dsimp only
  have HExit := Lib.hid hexit
  have HL := Lib.hid hL
  have HY := Lib.hid hy
  clear hexit hL hy
  go_loopw [18] (fun i wr => ∃ jj : Nat, jj ≤ nT ∧ i = .int .i64 jj ∧ Kp w wr g b d m A1 T A2 T2) (fun i _ => nT - (intOf i).toNat)
  case atStart => exact ⟨0, Nat.zero_le _, rfl, HS.out⟩
  case round =>
    clear HS
    obtain ⟨jj, hjj, rfl, hS⟩ := hrel
    have HS := Lib.hid hS
    clear hS
    by_cases hlt3 : jj < nT
    · clear HExit
      obtain ⟨s, hs⟩ := get_some HTl.out.1 hlt3
      have hjn : (jj : Int) < nT := by omega
      go_wp2_with fail
      refine loop4 _ _ _ _ _ _ _ _ _ _ _ _ _ _ _ _ _ _ _ _ _ _ _ _ _ _ _ _ _ _ _ _ _ _ _ _ _ _ _ _ _ _ _ _ _ _ _ _ _ _ _ _ _ _ _ _ _ _ _ _ _ _ _ _ _ _ _ _ _ _ _ _ _ _ _ _ _ _ _ _ _ _ _ _ _ _ _ _ _ _ _ _ _ _ _ _ _ _ _ _ _ _ _ _ _ _ _ _ _ _ _ _ _ _ _ _ _ _ _ _ _ _ _ _ _ _ _ _ _ _ _ _ _ _ _ _ _ _ _ _ _ _ _ _ _ _ _ _ _ _ _ _ _ _ _ _ _ _ _ _ _ _ _ _ _ _ _ _ _ _ _ _ _ _ _ _ _ _ _ _ _ _ _ _ _ _ _ _ _ _ _ _ _ _ _ _ _ _ _ _ _ _ _ _ _ _ _ _ _ _ _ _ _ _ _ _ _ _ _ _ _ _ _ _ _ _ _ _ _ _ _ _ _ _ HRc.out hk hk60 HTl.out.1 HTl.out.2 hl1 hl2 hc1 hc2 HS.out hs ?_
      intro w157 w158 w159 w160 w161 w162 w163 w164 w165 w166 w167 w168 w169 w170 w171 w172 w173 w174 w175 w176 w177 w178 w179 w180 w181 w182 w183 w184 w185 w186 w187 w188 w189 w190 w191 w192 w193 w194 w195 w196 w197 w198 x2 wr' hx2 hS
      have HX4 := Lib.hid hx2
      replace HS := Lib.hid hS
      clear hx2 hS
      have hsT : s ∈ T := List.mem_of_getElem? hs
      obtain ⟨y0, y1, y2⟩ := rc_cells (HRc.out _ HS.out.one.mm.old)
      obtain ⟨g1, o1', e1, _, h1⟩ := HS.out.was jj s hs
      obtain ⟨b0, b1, b2⟩ := rc_cells h1
      clear h1
      subst e1
      cases x2 with
      | true =>
        go_wp2_with fail
        go_roundw
        case rel => exact ⟨jj + 1, by omega, by go_num, HS.out⟩
        case measure => simp [intOf]; omega
      | false =>
        cases hsl : s.lat with
        | false =>
          rw [hsl] at b2
          go_wp2_with fail
          go_roundw
          case rel => exact ⟨jj + 1, by omega, by go_num, HS.out⟩
          case measure => simp [intOf]; omega
        | true =>
          rw [hsl] at b2
          cases y with
          | true =>
            go_wp2_with fail
            go_roundw
            case rel => exact ⟨jj + 1, by omega, by go_num, HS.out⟩
            case measure => simp [intOf]; omega
          | false =>
            cases may with
            | false =>
              go_wp2_with fail
              go_roundw
              case rel => exact ⟨jj + 1, by omega, by go_num, HS.out⟩
              case measure => simp [intOf]; omega
            | true =>
              have hrl : r.lat = false := by
                cases e : r.lat with
                | false => rfl
                | true =>
                  have hy : ∃ z ∈ T2, z.lat = false := by
                    have := HY.out.symm
                    rw [List.all_eq_false] at this
                    obtain ⟨z, hz, hzl⟩ := this
                    exact ⟨z, hz, by simpa using hzl⟩
                  have h5 := HX4.out.symm
                  rw [List.any_eq_false] at h5
                  rcases HL.out rfl e hy s hsT hsl with h6 | ⟨h6, h7⟩
                  · exact absurd (by simp) (h5 s h6)
                  · exact absurd (by simp [h6]) (h5 r h7)
              rw [hrl] at y2
              go_wp2_with fail
              go_roundw
              case rel => exact ⟨jj + 1, by omega, by go_num, HS.out⟩
              case measure => simp [intOf]; omega
    · obtain rfl : jj = nT := by omega
      go_wp2_with fail
      exact HExit.out _ _ _ _ _ _ _ _ _ _ _ _ _ _ _ _ _ _ _ _ _ _ _ _ _ _ _ _ _ _ _ _ _ _ _ _ _ _ _ _ _ _ _ _ _ _ _ _ _ _ _ _ _ _ _ _ _ _ _ _ _ _ _ _ _ _ _ _ _ _ _ _ _ _ _ HS.out
end Sq
end Go.Proofs.Ytlhapipgmadbeaa
