/- The loop of StoreKeeps over the new records. -/
import Derived.Test.YtlhapipgmadbeaaStoreLaw5a
import Derived.Deep.DeepCutAuto
import Derived.Deep.CutRange
namespace Go.Proofs.Ytlhapipgmadbeaa
namespace Sq
open Go.RowKit Nv Nw Sp Lk

set_option maxRecDepth 1000000 in
set_option maxHeartbeats 8000000 in
theorem loop2 {w wr : World} {g b d k ab ao Ln cp nT c1 n2 c2 : Nat} {m : M} {A1 A2 : Option Addr} {T T2 : List R} {r : R} {Q : Exit → Act → World → Prop} {t0 : Bool} (sl0 sl2 sl3 sl4 sl5 sl6 sl7 sl8 sl9 sl11 sl12 sl13 sl18 sl19 sl20 sl21 sl22 sl23 sl24 sl25 sl26 sl27 sl28 sl29 sl30 sl31 sl32 sl33 sl34 sl35 sl36 sl37 sl38 sl39 sl40 sl41 sl42 sl43 sl44 sl45 sl46 sl47 sl48 sl49 sl50 sl51 sl52 sl53 sl54 sl55 sl56 sl57 sl58 sl59 sl60 sl61 sl62 sl63 sl64 sl65 sl66 sl67 sl68 sl69 sl70 sl71 sl72 sl73 sl74 sl75 sl76 sl77 sl78 sl79 sl80 sl81 sl82 sl83 sl84 sl85 sl86 sl87 sl88 sl89 sl90 sl91 sl92 sl93 sl94 sl95 sl96 sl97 sl98 sl99 sl100 sl101 sl102 sl103 sl104 sl105 sl106 sl107 sl108 sl109 sl110 sl111 sl112 sl113 sl114 sl115 sl116 sl117 sl118 sl119 sl120 sl121 sl122 sl123 sl124 sl125 sl126 sl127 sl128 sl129 sl130 sl131 sl132 sl133 sl134 sl135 sl136 sl137 sl138 sl139 sl140 sl141 sl142 sl143 sl144 sl145 sl146 sl147 sl148 sl149 sl150 sl151 sl152 sl153 sl154 sl155 sl156 sl157 sl158 sl159 sl160 sl161 sl162 sl163 sl164 sl165 sl166 sl167 sl168 sl169 sl170 sl171 sl172 sl173 sl174 sl175 sl176 sl177 sl178 sl179 sl180 sl181 sl182 sl183 sl184 sl185 sl186 sl187 sl188 sl189 sl190 sl191 sl192 sl193 sl194 sl195 sl196 sl197 sl198 sl199 sl200 sl201 sl202 sl203 sl204 sl205 sl206 sl207 sl208 sl209 sl210 sl211 sl212 sl213 sl214 sl215 sl216 sl217 sl218 sl219 sl220 sl221 sl222 sl223 sl224 sl225 sl226 sl227 sl228 sl229 sl230 sl231 sl232 sl233 sl234 sl235 sl236 sl237 sl238 sl239 sl240 : Value) (hRc : ∀ W, Below w.heap.size w W → W.rangeAt ab (ao + k * 3) (rcs r).toList) (hk : k < Ln) (hk60 : k < 60) (hnT : T.length = nT) (hn2 : T2.length = n2) (hl1 : nT ≤ 1000) (hl2 : n2 ≤ 1000) (hc1 : nT ≤ c1) (hc2 : n2 ≤ c2) (hS : Kp w wr g b d m A1 T A2 T2) (hRs : T2.Pairwise fun a b => a.code < b.code)
    (hexit : ∀ (w4 w109 w110 w111 w112 w113 w114 w115 w116 w117 w118 w119 w120 w121 w122 w123 w124 w125 w126 w127 w128 w129 w130 w131 w132 w133 w134 w135 w136 w137 w138 w139 w140 w141 w142 w143 w144 w145 w146 w147 w148 w149 w150 : Value) (x y : Bool) (wr' : World), x = (t0 || decide (r ∈ T2)) → y = T2.all (fun z => z.lat) → Kp w wr' g b d m A1 T A2 T2 → Q (.exit 2) ⟨#[sl0, .slice (some ⟨ab, ao, none⟩) Ln cp, sl2, sl3, w4, sl5, sl6, sl7, sl8, sl9, .int .i64 (k : Int), sl11, sl12, sl13, .slice A2 n2 c2, .bool x, .bool y, .int .i64 (n2 : Int), sl18, sl19, sl20, sl21, sl22, sl23, sl24, sl25, sl26, sl27, sl28, sl29, sl30, sl31, sl32, sl33, sl34, sl35, sl36, sl37, sl38, sl39, sl40, sl41, sl42, sl43, sl44, sl45, sl46, sl47, sl48, sl49, sl50, sl51, sl52, sl53, sl54, sl55, sl56, sl57, sl58, sl59, sl60, sl61, sl62, sl63, sl64, sl65, sl66, sl67, sl68, sl69, sl70, sl71, sl72, sl73, sl74, sl75, sl76, sl77, sl78, sl79, sl80, sl81, sl82, sl83, sl84, sl85, sl86, sl87, sl88, sl89, sl90, sl91, sl92, sl93, sl94, sl95, sl96, sl97, sl98, sl99, sl100, sl101, sl102, sl103, sl104, sl105, sl106, sl107, sl108, w109, w110, w111, w112, w113, w114, w115, w116, w117, w118, w119, w120, w121, w122, w123, w124, w125, w126, w127, w128, w129, w130, w131, w132, w133, w134, w135, w136, w137, w138, w139, w140, w141, w142, w143, w144, w145, w146, w147, w148, w149, w150, sl151, sl152, sl153, sl154, sl155, sl156, sl157, sl158, sl159, sl160, sl161, sl162, sl163, sl164, sl165, sl166, sl167, sl168, sl169, sl170, sl171, sl172, sl173, sl174, sl175, sl176, sl177, sl178, sl179, sl180, sl181, sl182, sl183, sl184, sl185, sl186, sl187, sl188, sl189, sl190, sl191, sl192, sl193, sl194, sl195, sl196, sl197, sl198, sl199, sl200, sl201, sl202, sl203, sl204, sl205, sl206, sl207, sl208, sl209, sl210, sl211, sl212, sl213, sl214, sl215, sl216, sl217, sl218, sl219, sl220, sl221, sl222, sl223, sl224, sl225, sl226, sl227, sl228, sl229, sl230, sl231, sl232, sl233, sl234, sl235, sl236, sl237, sl238, sl239, sl240], []⟩ wr') :
    Code.wp Try.prog lp2 Q ⟨#[sl0, .slice (some ⟨ab, ao, none⟩) Ln cp, sl2, sl3, sl4, sl5, sl6, sl7, sl8, sl9, .int .i64 (k : Int), sl11, sl12, sl13, .slice A2 n2 c2, .bool t0, .bool true, .int .i64 0, sl18, sl19, sl20, sl21, sl22, sl23, sl24, sl25, sl26, sl27, sl28, sl29, sl30, sl31, sl32, sl33, sl34, sl35, sl36, sl37, sl38, sl39, sl40, sl41, sl42, sl43, sl44, sl45, sl46, sl47, sl48, sl49, sl50, sl51, sl52, sl53, sl54, sl55, sl56, sl57, sl58, sl59, sl60, sl61, sl62, sl63, sl64, sl65, sl66, sl67, sl68, sl69, sl70, sl71, sl72, sl73, sl74, sl75, sl76, sl77, sl78, sl79, sl80, sl81, sl82, sl83, sl84, sl85, sl86, sl87, sl88, sl89, sl90, sl91, sl92, sl93, sl94, sl95, sl96, sl97, sl98, sl99, sl100, sl101, sl102, sl103, sl104, sl105, sl106, sl107, sl108, sl109, sl110, sl111, sl112, sl113, sl114, sl115, sl116, sl117, sl118, sl119, sl120, sl121, sl122, sl123, sl124, sl125, sl126, sl127, sl128, sl129, sl130, sl131, sl132, sl133, sl134, sl135, sl136, sl137, sl138, sl139, sl140, sl141, sl142, sl143, sl144, sl145, sl146, sl147, sl148, sl149, sl150, sl151, sl152, sl153, sl154, sl155, sl156, sl157, sl158, sl159, sl160, sl161, sl162, sl163, sl164, sl165, sl166, sl167, sl168, sl169, sl170, sl171, sl172, sl173, sl174, sl175, sl176, sl177, sl178, sl179, sl180, sl181, sl182, sl183, sl184, sl185, sl186, sl187, sl188, sl189, sl190, sl191, sl192, sl193, sl194, sl195, sl196, sl197, sl198, sl199, sl200, sl201, sl202, sl203, sl204, sl205, sl206, sl207, sl208, sl209, sl210, sl211, sl212, sl213, sl214, sl215, sl216, sl217, sl218, sl219, sl220, sl221, sl222, sl223, sl224, sl225, sl226, sl227, sl228, sl229, sl230, sl231, sl232, sl233, sl234, sl235, sl236, sl237, sl238, sl239, sl240], []⟩ wr := by
  have HRc := Lib.hid hRc
  have HTl := Lib.hid (And.intro hnT hn2)
  have HS := Lib.hid hS
  have hkn : (k : Int) < Ln := by omega
  have HUse := Lib.hid (And.intro hk60 (And.intro hl1 (And.intro hl2 (And.intro hc1 hc2))))
  clear HUse
  clear hRc hnT hn2 hS
  conv => arg 2; whnf
  dsimp only
  have HExit := Lib.hid hexit
  have HRs := Lib.hid hRs
  clear hexit hRs
  go_loopw [15, 16, 17] (fun th al i wr => ∃ (j : Nat) (x y : Bool), j ≤ n2 ∧ th = .bool x ∧ al = .bool y ∧ i = .int .i64 j ∧ x = (t0 || decide (r ∈ T2.take j)) ∧ y = (T2.take j).all (fun z => z.lat) ∧ Kp w wr g b d m A1 T A2 T2) (fun _ _ i _ => n2 - (intOf i).toNat)
  case atStart => exact ⟨0, t0, true, Nat.zero_le _, rfl, rfl, rfl, by simp, by simp, HS.out⟩
  case round =>
    clear HS
    obtain ⟨j, x, y, hj, rfl, rfl, rfl, hX, hY, hS⟩ := hrel
    have HS := Lib.hid hS
    clear hS
    by_cases hlt2 : j < n2
    · clear HExit
      obtain ⟨y0, y1, y2⟩ := rc_cells (HRc.out _ HS.out.one.mm.old)
      obtain ⟨z, hz⟩ := get_some HTl.out.2 hlt2
      have hx2 := take_mem (r := r) hz
      have hy2 := take_all hz
      have E := eq_r z r
      dsimp only [rcs] at E
      have hjn : (j : Int) < n2 := by omega
      obtain ⟨g2, o2, e2, _, h1⟩ := HS.out.now j z hz
      obtain ⟨a0, a1, a2⟩ := rc_cells h1
      clear h1
      have HX := Lib.hid (And.intro hX (And.intro hY (And.intro hx2 hy2)))
      clear hX hY hx2 hy2
      by_cases hj0 : j = 0
      · subst hj0
        subst e2
        simp only [Nat.zero_mul, Nat.add_zero] at a0 a1 a2
        cases x <;> cases y
        · go_wp2_with fail
          go_quiet (fail)
          go_wp2_with fail
          go_quiet (fail)
          go_wp2_with fail
          go_roundw
          case rel => exact ⟨0 + 1, _, _, by omega, rfl, rfl, by go_num, by rw [HX.out.2.2.1, ← Bool.or_assoc, ← HX.out.1]; rfl, by rw [HX.out.2.2.2, ← HX.out.2.1]; rfl, HS.out.grow (below_n (Below.refl _ _) _)⟩
          case measure => simp [intOf]; omega
        · go_wp2_with fail
          go_quiet (fail)
          go_wp2_with fail
          go_quiet (fail)
          go_wp2_with fail
          go_roundw
          case rel => exact ⟨0 + 1, _, _, by omega, rfl, rfl, by go_num, by rw [HX.out.2.2.1, ← Bool.or_assoc, ← HX.out.1]; rfl, by rw [HX.out.2.2.2, ← HX.out.2.1]; rfl, HS.out.grow (below_n (Below.refl _ _) _)⟩
          case measure => simp [intOf]; omega
        · go_wp2_with fail
          go_quiet (fail)
          go_wp2_with fail
          go_quiet (fail)
          go_wp2_with fail
          go_roundw
          case rel => exact ⟨0 + 1, _, _, by omega, rfl, rfl, by go_num, by rw [HX.out.2.2.1, ← Bool.or_assoc, ← HX.out.1]; rfl, by rw [HX.out.2.2.2, ← HX.out.2.1]; rfl, HS.out.grow (below_n (Below.refl _ _) _)⟩
          case measure => simp [intOf]; omega
        · go_wp2_with fail
          go_quiet (fail)
          go_wp2_with fail
          go_quiet (fail)
          go_wp2_with fail
          go_roundw
          case rel => exact ⟨0 + 1, _, _, by omega, rfl, rfl, by go_num, by rw [HX.out.2.2.1, ← Bool.or_assoc, ← HX.out.1]; rfl, by rw [HX.out.2.2.2, ← HX.out.2.1]; rfl, HS.out.grow (below_n (Below.refl _ _) _)⟩
          case measure => simp [intOf]; omega
      · obtain ⟨p, rfl⟩ : ∃ p, j = p + 1 := ⟨j - 1, by omega⟩
        have hjn2 : (p : Int) + 1 < n2 := by omega
        have hjn3 : (0 : Int) ≤ (p : Int) + 1 := by omega
        have hpn : (p : Int) < n2 := by omega
        have hpn2 : p < n2 := by omega
        obtain ⟨z', hz'⟩ := get_some HTl.out.2 (show p < n2 by omega)
        have hzz := rise_at HRs.out hz' hz
        obtain ⟨g3, o3, e3, _, h1⟩ := HS.out.now p z' hz'
        obtain ⟨b0, b1, b2⟩ := rc_cells h1
        obtain ⟨rfl, rfl⟩ : g3 = g2 ∧ o3 = o2 := by rw [e2] at e3; cases e3; exact ⟨rfl, rfl⟩
        subst e2
        clear e3 h1 hz hz' hj0
        cases x <;> cases y
        · go_wp2_with fail
          go_quiet (fail)
          go_wp2_with fail
          go_quiet (fail)
          go_wp2_with fail
          go_roundw
          case rel => exact ⟨p + 1 + 1, _, _, by omega, rfl, rfl, by go_num, by rw [HX.out.2.2.1, ← Bool.or_assoc, ← HX.out.1]; rfl, by rw [HX.out.2.2.2, ← HX.out.2.1]; rfl, HS.out.grow (below_n (Below.refl _ _) _)⟩
          case measure => simp [intOf]; omega
        · go_wp2_with fail
          go_quiet (fail)
          go_wp2_with fail
          go_quiet (fail)
          go_wp2_with fail
          go_roundw
          case rel => exact ⟨p + 1 + 1, _, _, by omega, rfl, rfl, by go_num, by rw [HX.out.2.2.1, ← Bool.or_assoc, ← HX.out.1]; rfl, by rw [HX.out.2.2.2, ← HX.out.2.1]; rfl, HS.out.grow (below_n (Below.refl _ _) _)⟩
          case measure => simp [intOf]; omega
        · go_wp2_with fail
          go_quiet (fail)
          go_wp2_with fail
          go_quiet (fail)
          go_wp2_with fail
          go_roundw
          case rel => exact ⟨p + 1 + 1, _, _, by omega, rfl, rfl, by go_num, by rw [HX.out.2.2.1, ← Bool.or_assoc, ← HX.out.1]; rfl, by rw [HX.out.2.2.2, ← HX.out.2.1]; rfl, HS.out.grow (below_n (Below.refl _ _) _)⟩
          case measure => simp [intOf]; omega
        · go_wp2_with fail
          go_quiet (fail)
          go_wp2_with fail
          go_quiet (fail)
          go_wp2_with fail
          go_roundw
          case rel => exact ⟨p + 1 + 1, _, _, by omega, rfl, rfl, by go_num, by rw [HX.out.2.2.1, ← Bool.or_assoc, ← HX.out.1]; rfl, by rw [HX.out.2.2.2, ← HX.out.2.1]; rfl, HS.out.grow (below_n (Below.refl _ _) _)⟩
          case measure => simp [intOf]; omega
    · obtain rfl : j = n2 := by omega
      have HX : Hid (x = (t0 || decide (r ∈ T2)) ∧ y = T2.all (fun z => z.lat)) := by
        rw [List.take_of_length_le (by rw [HTl.out.2]; omega)] at hX hY
        exact ⟨hX, hY⟩
      clear hX hY
      go_wp2_with fail
      exact HExit.out _ _ _ _ _ _ _ _ _ _ _ _ _ _ _ _ _ _ _ _ _ _ _ _ _ _ _ _ _ _ _ _ _ _ _ _ _ _ _ _ _ _ _ _ _ _ HX.out.1 HX.out.2 HS.out
end Sq
end Go.Proofs.Ytlhapipgmadbeaa
