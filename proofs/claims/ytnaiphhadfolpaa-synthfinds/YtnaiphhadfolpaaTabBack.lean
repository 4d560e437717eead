/- Contracts of table.Back's closure, and of sort.Search over it. -/
import Derived.Test.YtnaiphhadfolpaaTabAt
import Derived.Deep.RegionHeld3
namespace Go.Proofs.Ytnaiphhadfolpaa
namespace TabC
open Go.RowKit Go.Shelf

/-- What is asked at the i-th place of a step. -/
def askB (f t a b y i : Int) : Bool := decide (y ≤ a + (f + i - f) * (b - a) / (t - f))

theorem keepS {w W w2 : World} {Bx By : Nat} {f t a b y : Int} (lS : Bx < w.heap.size) (lY : By < w.heap.size)
    (h : (W.cell? ⟨Bx, 0, none⟩ = some (.int .i64 f) ∧ W.cell? ⟨Bx, 1, none⟩ = some (.int .i64 t) ∧ W.cell? ⟨Bx, 2, none⟩ = some (.int .i64 a) ∧ W.cell? ⟨Bx, 3, none⟩ = some (.int .i64 b)) ∧ W.cell? ⟨By, 0, none⟩ = some (.int .i64 y) ∧ Below w.heap.size w W) (hb : Below W.heap.size W w2) :
    (w2.cell? ⟨Bx, 0, none⟩ = some (.int .i64 f) ∧ w2.cell? ⟨Bx, 1, none⟩ = some (.int .i64 t) ∧ w2.cell? ⟨Bx, 2, none⟩ = some (.int .i64 a) ∧ w2.cell? ⟨Bx, 3, none⟩ = some (.int .i64 b)) ∧ w2.cell? ⟨By, 0, none⟩ = some (.int .i64 y) ∧ Below w.heap.size w w2 := by
  obtain ⟨⟨h0, h1, h2, h3⟩, h4, h5⟩ := h
  have hs := h5.size
  have k := hb.mono hs
  exact ⟨⟨(k.cell (p := ⟨Bx, 0, none⟩) lS).trans h0, (k.cell (p := ⟨Bx, 1, none⟩) lS).trans h1, (k.cell (p := ⟨Bx, 2, none⟩) lS).trans h2, (k.cell (p := ⟨Bx, 3, none⟩) lS).trans h3⟩, (k.cell (p := ⟨By, 0, none⟩) lY).trans h4, h5.trans k⟩

set_option maxHeartbeats 4000000 in
theorem back1_c (f t a b y i : Int) (Bx By : Nat) (w : World) (hf0 : 0 ≤ f) (hf1 : f ≤ 1048576) (ht0 : 0 ≤ t) (ht1 : t ≤ 1048576) (ha0 : 0 ≤ a) (ha1 : a ≤ 1048576) (hb0 : 0 ≤ b) (hb1 : b ≤ 1048576) (hft : f < t) (hi0 : 0 ≤ i) (hi1 : f + i ≤ t)
    (hS : Lk.BoxV w Bx 63 #[.int .i64 f, .int .i64 t, .int .i64 a, .int .i64 b]) (hY : Lk.BoxV w By 3 #[.int .i64 y]) :
    Calls Try.prog 44 #[.int .i64 i, .pointer (some ⟨Bx, 0, none⟩), .pointer (some ⟨By, 0, none⟩)] w fun e w' => e = .returned (.bool (askB f t a b y i)) ∧ Below w.heap.size w w' := by
  have s0 := hS.cell 0
  have s1 := hS.cell 1
  have s2 := hS.cell 2
  have s3 := hS.cell 3
  have y0 := hY.cell 0
  simp only [List.getElem?_toArray, List.getElem?_cons_zero, List.getElem?_cons_succ] at s0 s1 s2 s3 y0
  have HS := Lib.hid hS
  have HY := Lib.hid hY
  have lS := hS.lt
  have lY := hY.lt
  have e1 : IntKind.i64.wrap (f + i) = f + i := IntWalk.i64_in _ (by omega)
  have ac : ∀ W, Calls Try.prog 41 #[.agg #[.int .i64 f, .int .i64 t, .int .i64 a, .int .i64 b], .int .i64 (f + i)] W fun e w' => e = .returned (.int .i64 (a + (f + i - f) * (b - a) / (t - f))) ∧ Below W.heap.size W w' :=
    fun W => at_c f t a b (f + i) W hf0 hf1 ht0 ht1 ha0 ha1 hb0 hb1 hft (by omega) (by omega)
  have AC := Lib.hid ac
  have EA : Hid (askB f t a b y i = decide (y ≤ a + (f + i - f) * (b - a) / (t - f))) := rfl
  generalize a + (f + i - f) * (b - a) / (t - f) = v at AC EA
  clear ac hS hY
  go_enter Try.func44, Try.ntmps44
  go_wp2_with fail
  go_region_held3 (fun w' => (w'.cell? ⟨Bx, 0, none⟩ = some (.int .i64 f) ∧ w'.cell? ⟨Bx, 1, none⟩ = some (.int .i64 t) ∧ w'.cell? ⟨Bx, 2, none⟩ = some (.int .i64 a) ∧ w'.cell? ⟨Bx, 3, none⟩ = some (.int .i64 b)) ∧ w'.cell? ⟨By, 0, none⟩ = some (.int .i64 y) ∧ Below w.heap.size w w')
    (first | exact ⟨⟨s0, s1, s2, s3⟩, y0, (Below.refl _ _).drew⟩ | exact ⟨⟨s0, s1, s2, s3⟩, y0, (Below.refl _ _)⟩ | exact keepS lS lY (by assumption) (by assumption) | go_keep)
    (first | (go_at_call 41; refine (AC.out _).mono ?_; rintro e w2 ⟨rfl, hb3⟩))
  all_goals
    have hb4 : Below w.heap.size w w2 := (Below.refl w.heap.size w).drew.trans hb3
    go_wp2_with fail
    go_ret
    exact ⟨ret_bool EA.out.symm, hb4⟩

def Found (p : Int → Bool) (n r : Int) : Prop := 0 ≤ r ∧ r ≤ n ∧ (0 < r → p (r - 1) = false) ∧ (r < n → p r = true)
def FoundAt (p : Int → Bool) (n : Int) (w : World) (e : Ending) (w' : World) : Prop := ∃ r, Found p n r ∧ e = .returned (.int .i64 r) ∧ Below w.heap.size w w'
structure Halves (p : Int → Bool) (n i j : Int) : Prop where
  lo : 0 ≤ i
  le : i ≤ j
  hi : j ≤ n
  no : 0 < i → p (i - 1) = false
  yes : j < n → p j = true

set_option maxHeartbeats 4000000 in
theorem search_c (f t a b y : Int) (Bx By : Nat) (w : World) (hf0 : 0 ≤ f) (hf1 : f ≤ 1048576) (ht0 : 0 ≤ t) (ht1 : t ≤ 1048576) (ha0 : 0 ≤ a) (ha1 : a ≤ 1048576) (hb0 : 0 ≤ b) (hb1 : b ≤ 1048576) (hft : f < t)
    (hS : Lk.BoxV w Bx 63 #[.int .i64 f, .int .i64 t, .int .i64 a, .int .i64 b]) (hY : Lk.BoxV w By 3 #[.int .i64 y]) :
    Calls Try.prog 43 #[.int .i64 (t - f), .func (.func 44) #[] #[.pointer (some ⟨Bx, 0, none⟩), .pointer (some ⟨By, 0, none⟩)]] w (FoundAt (askB f t a b y) (t - f) w) := by
  have HC : Hid (∀ W i, Below w.heap.size w W → 0 ≤ i → f + i ≤ t → Calls Try.prog 44 #[.int .i64 i, .pointer (some ⟨Bx, 0, none⟩), .pointer (some ⟨By, 0, none⟩)] W fun e w' => e = .returned (.bool (askB f t a b y i)) ∧ Below W.heap.size W w') :=
    fun W i hW h0 h1 => back1_c f t a b y i Bx By W hf0 hf1 ht0 ht1 ha0 ha1 hb0 hb1 hft h0 h1 (hS.below hW hS.lt) (hY.below hW hY.lt)
  clear hS hY ha0 ha1 hb0 hb1
  obtain ⟨n, hn⟩ : ∃ n, t - f = n := ⟨_, rfl⟩
  have hn0 : 0 ≤ n := by omega
  have hn1 : n ≤ 1048576 := by omega
  have HN : Hid (∀ i, i ≤ n → f + i ≤ t) := fun i hi => by omega
  rw [hn]
  clear hn hft ht0 ht1 hf0 hf1
  go_enter Try.func43, Try.ntmps43
  go_wp2_with fail
  go_loopw [5, 6] (fun x z wr => ∃ i j, Halves (askB f t a b y) n i j ∧ x = .int .i64 i ∧ z = .int .i64 j ∧ Below w.heap.size w wr) (fun x z _ => (intOf z - intOf x).toNat)
  case atStart => exact ⟨0, n, ⟨Int.le_refl _, hn0, Int.le_refl _, fun h => by omega, fun h => by omega⟩, rfl, rfl, Below.refl _ _⟩
  case round =>
    obtain ⟨i, j, hH, rfl, rfl, hB⟩ := hrel
    have i0 := hH.lo
    have ij := hH.le
    have jn := hH.hi
    have HH := Lib.hid hH
    clear hH
    by_cases hlt : i < j
    · have h0 : 0 ≤ i + j := by omega
      have h1 : i + j ≤ 2097152 := by omega
      go_wp2_with fail
      refine (HC.out wr ((i + j) / 2) hB (by omega) (HN.out _ (by omega))).mono ?_
      rintro e w2 ⟨rfl, hb3⟩
      have hB2 : Below w.heap.size w w2 := hB.trans (hb3.mono hB.size)
      obtain ⟨h, hh⟩ : ∃ h, (i + j) / 2 = h := ⟨_, rfl⟩
      have hh0 : i ≤ h := by omega
      have hh1 : h < j := by omega
      rw [hh]
      clear hh hb3 hB
      cases hv : askB f t a b y h with
      | true =>
        have HV := Lib.hid hv
        clear hv
        go_wp2_with fail
        go_roundw
        case rel => exact ⟨i, h, ⟨i0, hh0, by omega, HH.out.no, fun _ => HV.out⟩, rfl, rfl, hB2⟩
        case measure => simp [intOf]; omega
      | false =>
        have HV := Lib.hid hv
        clear hv
        go_wp2_with fail
        go_roundw
        case rel => exact ⟨h + 1, j, ⟨by omega, by omega, jn, fun _ => by rw [show h + 1 - 1 = h from by omega]; exact HV.out, HH.out.yes⟩, rfl, rfl, hB2⟩
        case measure => simp [intOf]; omega
    · go_wp2_with fail
      go_ret
      obtain rfl : i = j := by omega
      exact ⟨i, ⟨HH.out.lo, HH.out.hi, HH.out.no, HH.out.yes⟩, rfl, hB⟩

end TabC
end Go.Proofs.Ytnaiphhadfolpaa
