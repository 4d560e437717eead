/- The walk of ArbiterWay. -/
import Derived.Test.YtgpgdmebojmobaaArbiterAwake
import Derived.BigQuiet
import Derived.Deep.DeepCutAuto
namespace Go.Proofs.Ytgpgdmebojmobaa
namespace Aw
open Go.RowKit Lk Zk

/-- What the walk knows: the holders behind each frame. -/
structure Wy (w W : World) (G : Option Addr) (n : Nat) (H : Nat → Int) : Prop where
  old : Below w.heap.size w W
  hs : ∀ m, m < n → ∃ g, G = some ⟨g, 0, none⟩ ∧ g < W.heap.size ∧ W.cell? ⟨g, m, none⟩ = some (.int .i64 (H m))
theorem Wy.grow {w W W' : World} {G : Option Addr} {n : Nat} {H : Nat → Int} (x : Wy w W G n H) (hb : Below W.heap.size W W') : Wy w W' G n H :=
  ⟨x.old.trans (hb.mono x.old.size), fun m hm => by
    obtain ⟨g, e, hg, hc⟩ := x.hs m hm
    exact ⟨g, e, Nat.lt_of_lt_of_le hg hb.size, (hb.cell (p := ⟨g, m, none⟩) hg).trans hc⟩⟩
theorem Wy.at_ {w W : World} {g n : Nat} {H : Nat → Int} (x : Wy w W (some ⟨g, 0, none⟩) n H) {m : Nat} (hm : m < n) {u : Int} (hu : H m = u) : W.cell? ⟨g, m, none⟩ = some (.int .i64 u) := by
  obtain ⟨g', e, _, hc⟩ := x.hs m hm
  cases e
  rw [← hu]; exact hc
theorem wy_of {w W W2 : World} (hW : Below w.heap.size w W) {v : Value} {h : Int} {L : List (Bool × Bool)} {R : List Bool} {n : Nat} (hz : Zs W2 W.heap.size v (Av.way h L R n)) (hb : Below W.heap.size W W2) : ∃ G c, v = .slice G n c ∧ Wy w W2 G n (fun m => Av.hold h L R (m + 1)) := by
  obtain ⟨G, c, e, _, hel⟩ := Rw.form (f := fz) (sz := 1) fz_len hz
  rw [Av.way_len] at e
  refine ⟨G, c, e, hW.trans (hb.mono hW.size), fun m hm => ?_⟩
  obtain ⟨g, e2, _, hg, h3⟩ := hel m _ (Av.way_at h L R hm)
  refine ⟨g, e2, hg, ?_⟩
  have := h3 0 _ rfl
  simpa using this
/-- How a holder follows upon another one. -/
theorem ways {q u : Int} {a b r : Bool} (hu : Av.nx q a b r = u) :
    (q = 0 ∧ a = false ∧ ¬ u = 0) ∨ (q = 0 ∧ a = true ∧ r = false ∧ u = 0) ∨ (q = 0 ∧ a = true ∧ r = true ∧ u = 2) ∨
    (q = 1 ∧ b = false ∧ ¬ u = 1) ∨ (q = 1 ∧ b = true ∧ r = false ∧ u = 1) ∨ (q = 1 ∧ b = true ∧ r = true ∧ u = 2) ∨
    ((q == 0) = false ∧ (q == 1) = false ∧ ¬ q = 0 ∧ ¬ q = 1 ∧ (q != 0) = true ∧ (q != 1) = true ∧ u = q) ∨ ((q == 0) = false ∧ (q == 1) = false ∧ ¬ q = 0 ∧ ¬ q = 1 ∧ (q != 0) = true ∧ (q != 1) = true ∧ (¬ u = q) ∧ (u != q) = true ∧ r = true) ∨ ((q == 0) = false ∧ (q == 1) = false ∧ ¬ q = 0 ∧ ¬ q = 1 ∧ (q != 0) = true ∧ (q != 1) = true ∧ (¬ u = q) ∧ (u != q) = true ∧ r = false) := by
  subst hu
  by_cases h0 : q = 0
  · subst h0
    cases a <;> cases b <;> cases r <;> decide
  by_cases h1 : q = 1
  · subst h1
    cases a <;> cases b <;> cases r <;> decide
  have k0 : (q == 0) = false := by simpa using h0
  have k1 : (q == 1) = false := by simpa using h1
  have j0 : (q != 0) = true := by simpa using h0
  have j1 : (q != 1) = true := by simpa using h1
  by_cases e : Av.nx q a b r = q
  · exact .inr (.inr (.inr (.inr (.inr (.inr (.inl ⟨k0, k1, h0, h1, j0, j1, e⟩))))))
  have je : (Av.nx q a b r != q) = true := by simpa using e
  cases r
  · exact .inr (.inr (.inr (.inr (.inr (.inr (.inr (.inr ⟨k0, k1, h0, h1, j0, j1, e, je, rfl⟩)))))))
  · exact .inr (.inr (.inr (.inr (.inr (.inr (.inr (.inl ⟨k0, k1, h0, h1, j0, j1, e, je, rfl⟩)))))))

set_option maxRecDepth 100000 in
set_option maxHeartbeats 8000000 in
theorem way_go (h : Int) (A B : Option Addr) (n cp nr cq : Nat) (L : List (Bool × Bool)) (R : List Bool) (hn : L.length = n) (hr : R.length = nr) (w : World) (hA : Prs w A L) (hB : Bls w B R) :
    Calls Try.prog 5 #[.int .i64 h, .slice A n cp, .slice B nr cq] w fun e w' => e = .returned (.bool true) ∧ Below w.heap.size w w' := by
  have AW := Lib.hid (fun W => awake_c W)
  have HB := Lib.hid (Below.refl w.heap.size w)
  by_cases h200 : n ≤ 200
  · have k2 : decide ((200 : Int) < n) = false := decide_eq_false (by omega)
    have CW : Hid (∀ W, Below w.heap.size w W → Calls Try.prog 11 #[.int .i64 h, .slice A n cp, .slice B nr cq] W fun e w' => ∃ v, e = .returned v ∧ Zs w' W.heap.size v (Av.way h L R n) ∧ Below W.heap.size W w') := Lib.hid (fun W hW => way_c h A B n cp nr cq L R hn hr (by omega) W (hA.below hW) (hB.below hW))
    have HA := Lib.hid hA
    have HBl := Lib.hid hB
    have HN := Lib.hid hn
    have HNr := Lib.hid hr
    clear hA hB hn hr
    go_enter Try.func5, Try.ntmps5
    go_wp2_with (first
      | (go_at_call 7; (with_reducible refine (AW.out _).mono ?_); rintro e W ⟨rfl, hb⟩; replace HB := Lib.hid (HB.out.trans (hb.mono HB.out.size)); clear hb)
      | fail)
    refine (CW.out _ HB.out).mono ?_
    rintro e W2 ⟨v, rfl, hz, hb⟩
    obtain ⟨G, c, rfl, hw⟩ := wy_of HB.out hz hb
    have HW := Lib.hid hw
    clear hz hb hw HB CW AW
    go_wp2_with fail
    go_loopw [9, 10] (fun q i wr => ∃ m : Nat, m ≤ n ∧ i = .int .i64 m ∧ q = .int .i64 (Av.hold h L R m) ∧ Wy w wr G n (fun m => Av.hold h L R (m + 1))) (fun _ i _ => n - (intOf i).toNat)
    case atStart => exact ⟨0, Nat.zero_le _, rfl, rfl, HW.out⟩
    case round =>
      clear HW
      obtain ⟨m, hm, rfl, rfl, hw⟩ := hrel
      have HW := Lib.hid hw
      clear hw
      by_cases hlt : m < n
      · have hlt2 : (m : Int) < n := by omega
        obtain ⟨⟨a, b⟩, hp⟩ : ∃ p, L[m]? = some p := ⟨L[m]'(by rw [HN.out]; exact hlt), List.getElem?_eq_getElem _⟩
        obtain ⟨g, rfl, -, -⟩ := HW.out.hs m hlt
        obtain ⟨rv, hrv⟩ : ∃ rv, R.getD m false = rv := ⟨_, rfl⟩
        obtain ⟨q, hq⟩ : ∃ q, Av.hold h L R m = q := ⟨_, rfl⟩
        obtain ⟨u, hu⟩ : ∃ u, Av.nx q a b rv = u := ⟨_, rfl⟩
        have HU : Hid ((fun m => Av.hold h L R (m + 1)) m = u) := by
          have e1 : L.getD m (false, false) = (a, b) := by rw [List.getD_eq_getElem?_getD, hp]; rfl
          refine Lib.hid ?_
          show Av.hold h L R (m + 1) = u
          rw [Av.hold, e1, hrv, hq]; exact hu
        have cg := HW.out.at_ hlt HU.out
        obtain ⟨g1, o1, rfl, hg1, hr1⟩ := HA.out m (a, b) hp
        obtain ⟨ca, cb⟩ := prs_cells hr1
        have ca' : ∀ W', Below w.heap.size w W' → W'.cell? ⟨g1, o1 + m * 2, none⟩ = some (.bool a) := fun W' hW => (hW.cell (p := ⟨g1, o1 + m * 2, none⟩) hg1).trans ca
        have cb' : ∀ W', Below w.heap.size w W' → W'.cell? ⟨g1, o1 + m * 2 + 1, none⟩ = some (.bool b) := fun W' hW => (hW.cell (p := ⟨g1, o1 + m * 2 + 1, none⟩) hg1).trans cb
        replace ca := ca' _ HW.out.old
        replace cb := cb' _ HW.out.old
        have WY := Lib.hid (ways hu)
        have CM := Lib.hid (fun W => may_c hu u W)
        rw [hq]
        clear ca' cb' hr1 hp hu hq
        by_cases hmr : m < nr
        · have hmr2 : (m : Int) < nr := by omega
          obtain ⟨x, hx⟩ : ∃ x, R[m]? = some x := ⟨R[m]'(by rw [HNr.out]; exact hmr), List.getElem?_eq_getElem _⟩
          obtain rfl : x = rv := by rw [← hrv, List.getD_eq_getElem?_getD, hx]; rfl
          obtain ⟨g2, o2, rfl, hg2, hx2⟩ := HBl.out m x hx
          have cr : wr.cell? ⟨g2, o2 + m, none⟩ = some (.bool x) := (HW.out.old.cell (p := ⟨g2, o2 + m, none⟩) hg2).trans hx2
          clear hx hx2 hrv
          go_upto_region 16 with (first
            | go_big_skip
            | (go_at_call 10; (with_reducible refine (CM.out _).mono ?_); rintro e W3 ⟨rfl, hb⟩; replace HW := Lib.hid (HW.out.grow hb); clear hb; have cg := HW.out.at_ hlt HU.out)
            | fail)
          rcases WY.out with ⟨rfl, rfl, k5⟩ | ⟨rfl, rfl, rfl, rfl⟩ | ⟨rfl, rfl, rfl, rfl⟩ | ⟨rfl, rfl, k5⟩ | ⟨rfl, rfl, rfl, rfl⟩ | ⟨rfl, rfl, rfl, rfl⟩ | ⟨k3, k4, k7, k8, k9, k10, rfl⟩ | ⟨k3, k4, k7, k8, k9, k10, k5, k11, rfl⟩ | ⟨k3, k4, k7, k8, k9, k10, k5, k11, rfl⟩
          all_goals
            clear WY
            go_wp2_with (first | go_big_skip | fail)
            go_roundw
            case rel => exact ⟨m + 1, by omega, by go_num, by rw [HU.out], HW.out⟩
            case measure => simp only [intOf, Int.toNat_natCast]; omega
        · have hmr2 : decide ((m : Int) < nr) = false := decide_eq_false (by omega)
          obtain rfl : false = rv := by rw [← hrv, List.getD_eq_getElem?_getD, List.getElem?_eq_none (by rw [HNr.out]; omega)]; rfl
          clear hrv
          go_upto_region 16 with (first
            | go_big_skip
            | (go_at_call 10; (with_reducible refine (CM.out _).mono ?_); rintro e W3 ⟨rfl, hb⟩; replace HW := Lib.hid (HW.out.grow hb); clear hb; have cg := HW.out.at_ hlt HU.out)
            | fail)
          rcases WY.out with ⟨rfl, rfl, k5⟩ | ⟨rfl, rfl, _, rfl⟩ | ⟨_, _, k6, _⟩ | ⟨rfl, rfl, k5⟩ | ⟨rfl, rfl, _, rfl⟩ | ⟨_, _, k6, _⟩ | ⟨k3, k4, k7, k8, k9, k10, rfl⟩ | ⟨_, _, _, _, _, _, _, _, k6⟩ | ⟨k3, k4, k7, k8, k9, k10, k5, k11, _⟩
          all_goals try cases k6
          all_goals
            clear WY
            go_wp2_with (first | go_big_skip | fail)
            go_roundw
            case rel => exact ⟨m + 1, by omega, by go_num, by rw [HU.out], HW.out⟩
            case measure => simp only [intOf, Int.toNat_natCast]; omega
      · obtain rfl : m = n := by omega
        go_wp2_with fail
        go_ret
        exact ⟨rfl, HW.out.old⟩
  · have k2 : decide ((200 : Int) < n) = true := decide_eq_true (by omega)
    clear hA hB hn hr h200
    go_enter Try.func5, Try.ntmps5
    go_wp2_with (first
      | (go_at_call 7; (with_reducible refine (AW.out _).mono ?_); rintro e W ⟨rfl, hb⟩; replace HB := Lib.hid (HB.out.trans (hb.mono HB.out.size)); clear hb)
      | fail)
    go_ret
    exact ⟨rfl, HB.out⟩

theorem ArbiterWay_walk (h : Int) (A : Option Addr) (L : List (Bool × Bool)) (c : Nat) (B : Option Addr) (R : List Bool) (d : Nat) (w : World) (hA : Prs w A L) (hB : Bls w B R) :
    Calls Try.prog 5 #[.int .i64 h, .slice A L.length c, .slice B R.length d] w fun e w' => e = .returned (.bool true) ∧ Below w.heap.size w w' := way_go h A B _ c _ d L R rfl rfl w hA hB
end Aw
end Go.Proofs.Ytgpgdmebojmobaa
