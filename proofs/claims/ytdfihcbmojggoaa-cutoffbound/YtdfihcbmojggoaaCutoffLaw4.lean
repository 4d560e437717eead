/- The walk of CutoffBound. -/
import Derived.Test.YtdfihcbmojggoaaCutoffAwake
import Derived.BigQuiet
namespace Go.Proofs.Ytdfihcbmojggoaa
namespace Ow
open Go.RowKit Lk

/-- What the walk knows: the cutoff in its block. -/
structure Bn (w W : World) (M : Nat) (q : Int) (s : Bool) : Prop where
  old : Below w.heap.size w W
  cur : W.heap[M]? = some (co q s)
  ge : w.heap.size ≤ M
namespace Bn
variable {w W W' : World} {M : Nat} {q p : Int} {s u : Bool}
theorem grow (h : Bn w W M q s) (hb : Below W.heap.size W W') : Bn w W' M q s :=
  ⟨h.old.trans (hb.mono h.old.size), (hb.block M (Array.getElem?_eq_some_iff.1 h.cur).1).trans h.cur, h.ge⟩
theorem turn (h : Bn w W M q s) (ho : Off M W W') (hc : W'.heap[M]? = some (co p u)) : Bn w W' M p u := ⟨h.old.trans (ho.below h.ge), hc, h.ge⟩
theorem shut (h : Bn w W M q s) : W.cell? ⟨M, 1, none⟩ = some (.bool s) := (Joins.cell_of_block h.cur 1).trans rfl
end Bn

set_option maxRecDepth 100000 in
set_option maxHeartbeats 8000000 in
theorem bound_go (t k r mx : Int) (ht : 1 ≤ t) (ht2 : t ≤ 65536) (hk : 1 ≤ k) (hk2 : k ≤ 256) (hr : 0 ≤ r) (hr2 : r ≤ 255) (hmx : t - 1 + k * r = mx) (A B : Option Addr) (n cp n2 cp2 : Nat) (l l2 : List Int) (hn : l.length = n) (hn2 : l2.length = n2) (v : Bool) (w : World) (hA : Lk.IntsAt w .i64 A l) (hB : Lk.IntsAt w .i64 B l2) :
    Calls Try.prog 5 #[.int .u16 (t - 1), .int .u8 (k - 1), .int .u8 r, .slice A n cp, .slice B n2 cp2, .bool v] w fun e w' => e = .returned (.bool true) ∧ Below w.heap.size w w' := by
  have AW := Lib.hid (fun W => awake_c W)
  have HB := Lib.hid (Below.refl w.heap.size w)
  have mx2 : mx ≤ 131071 := by
    have : k * r ≤ 256 * 255 := Int.mul_le_mul hk2 hr2 hr (by decide)
    omega
  have CM := Lib.hid (fun W => most_v (t := t) (k := k) (r := r) (n := mx) (by rw [← hmx]; exact Cu.mo_is (by omega) ht2 (by omega) (by omega) hr (by omega)) W)
  have HX : Hid (∀ a q s, Cu.Keeps t k r a q s → 0 ≤ a ∧ a ≤ mx) := Lib.hid (fun a q s h => ⟨h.n0, hmx ▸ h.nm⟩)
  have HZ : Hid (∀ a q z p s x y, Cu.Keeps t k r a q s → z ≤ r → (s = true → t ≤ a → z ≤ 0) → p = max (a + z) 0 → (x = p ∨ y = p) → Cu.Keeps t k r p (Cu.cq t q x y) (Cu.cs t k q s x y false)) := Lib.hid (fun a q z p s x y h h1 h2 h3 h4 => h.step hk (by omega) hr h1 h2 h3 ht h4)
  have HS := Lib.hid (Cu.Keeps.start ht hk hr)
  have HA := Lib.hid hA
  have HBB := Lib.hid hB
  have HN := Lib.hid hn
  have HN2 := Lib.hid hn2
  clear hA hB hn hn2 hmx
  go_enter Try.func5, Try.ntmps5
  go_upto_region 4 with (first
    | (go_at_call 8; (with_reducible refine (AW.out _).mono ?_); rintro e W ⟨rfl, hb⟩; replace HB := Lib.hid (HB.out.trans (hb.mono HB.out.size)); clear hb)
    | fail)
  try simp only [Int.sub_add_cancel]
  go_upto_region 5 with (first
    | (go_at_call 11; (with_reducible refine (CM.out _).mono ?_); rintro e W1 ⟨rfl, rfl⟩)
    | fail)
  have HR : Hid (Bn w (W.alloc (co 0 false)) W.heap.size 0 false) := Lib.hid ⟨HB.out.alloc HB.out.size _, heap_alloc_last W _, HB.out.size⟩
  clear HB AW CM
  go_upto_region 6 with fail
  generalize W.heap.size = M at *
  go_wp2_with fail
  go_loopw [18, 19, 20, 21] (fun a i _ _ wr => ∃ (m : Nat) (x q : Int) (s : Bool), m ≤ n ∧ m ≤ 200 ∧ i = .int .i64 m ∧ a = .int .i64 x ∧ Cu.Keeps t k r x q s ∧ Bn w wr M q s) (fun _ i _ _ _ => n - (intOf i).toNat)
  case atStart => exact ⟨0, 0, 0, false, Nat.zero_le _, Nat.zero_le _, rfl, rfl, HS.out, HR.out⟩
  case round =>
    clear HR HS
    obtain ⟨m, a, q, s, hm, hm2, rfl, rfl, hkp, hw⟩ := hrel
    have HR := Lib.hid hw
    have KP := Lib.hid hkp
    obtain ⟨a0, a1⟩ := HX.out a q s hkp
    clear hw hkp
    by_cases hlt : m < n
    · have hlt2 : (m : Int) < n := by omega
      by_cases h200 : m < 200
      · have h2 : (m : Int) < 200 := by omega
        obtain ⟨c, hc⟩ : ∃ c, l.getD m 0 = c := ⟨_, rfl⟩
        obtain ⟨ga, oa, rfl, ca⟩ := (HA.out.below HR.out.old) m (by rw [HN.out]; exact hlt)
        rw [hc] at ca
        obtain ⟨x, hx⟩ : ∃ x, (if c < -1048576 then -1048576 else c) = x := ⟨_, rfl⟩
        have x0 : -1048576 ≤ x := by omega
        obtain ⟨y, hy⟩ : ∃ y, (if r < x then r else x) = y := ⟨_, rfl⟩
        have y0 : -1048576 ≤ y ∧ y ≤ r := by omega
        clear hc
        have WZ : ∃ z, -1048576 ≤ z ∧ z ≤ r ∧ (s = true → t ≤ a → z ≤ 0) ∧ ((s = false ∧ y = z) ∨ (s = true ∧ decide (t ≤ a) = false ∧ y = z) ∨ (s = true ∧ decide (t ≤ a) = true ∧ (if 0 < y then 0 else y) = z)) := by
          cases s with
          | false => exact ⟨y, y0.1, y0.2, fun h => (by cases h), .inl ⟨rfl, rfl⟩⟩
          | true =>
            by_cases hta : t ≤ a
            · exact ⟨if 0 < y then 0 else y, by omega, by omega, fun _ _ => (by omega), .inr (.inr ⟨rfl, decide_eq_true hta, rfl⟩)⟩
            · exact ⟨y, y0.1, y0.2, fun _ h => absurd h hta, .inr (.inl ⟨rfl, decide_eq_false hta, rfl⟩)⟩
        obtain ⟨z, z0, z1, z2, WZ⟩ := WZ
        obtain ⟨p, hp⟩ : ∃ p, (if a + z < 0 then 0 else a + z) = p := ⟨_, rfl⟩
        obtain ⟨o, ho⟩ : ∃ o, l2.getD m 0 = o := ⟨_, rfl⟩
        have HP : Hid (p = max (a + z) 0) := by show p = _; omega
        have K1 := Lib.hid (fun b => HZ.out a q z p s p b KP.out z1 z2 HP.out (.inl rfl))
        have K2 := Lib.hid (fun b => HZ.out a q z p s b p KP.out z1 z2 HP.out (.inr rfl))
        have pm : p ≤ mx := (HX.out _ _ _ (K1.out 0)).2
        have pd : decide (mx < p) = false := decide_eq_false (by omega)
        have C : Hid (∀ c d W, Calls Try.prog 12 #[.int .i64 t, .int .i64 k, .agg (cc q s), .int .i64 c, .int .i64 d, .bool false] W fun e w' => e = .returned (.agg (cc (Cu.cq t q c d) (Cu.cs t k q s c d false))) ∧ Below W.heap.size W w') := Lib.hid (fun c d W => step_c t k q s c d false W)
        have cs := HR.out.shut
        clear z2 HP KP y0 pm
        have WO : (∃ gb ob, B = some ⟨gb, ob, none⟩ ∧ (m : Int) < n2 ∧ wr.cell? ⟨gb, ob + m, none⟩ = some (.int .i64 o)) ∨ (decide ((m : Int) < n2) = false ∧ ¬ m < n2) := by
          by_cases h : m < n2
          · obtain ⟨gb, ob, e, cb⟩ := (HBB.out.below HR.out.old) m (by rw [HN2.out]; exact h)
            rw [ho] at cb
            exact .inl ⟨gb, ob, e, by omega, cb⟩
          · exact .inr ⟨decide_eq_false (by omega), h⟩
        clear ho
        have HWZ := Lib.hid WZ
        clear WZ
        rcases WO with ⟨gb, ob, rfl, o1, cb⟩ | ⟨o1, o2⟩
        all_goals
          rcases HWZ.out with ⟨rfl, rfl⟩ | ⟨rfl, ta, rfl⟩ | ⟨rfl, ta, e3⟩
          all_goals
            clear HWZ
            cases v
            all_goals
              go_wp2_with (first
                | go_big_skip
                | (refine ldc rfl _ rfl M _ _ rfl HR.out.cur ?_)
                | (go_at_call 12; (with_reducible refine (C.out _ _ _).mono ?_); rintro e W2 ⟨rfl, hb⟩; replace HR := Lib.hid (HR.out.grow hb); clear hb cs)
                | (refine stc rfl _ _ rfl rfl M q _ _ _ rfl rfl HR.out.cur ?_; intro W3 hP hO; replace HR := Lib.hid (HR.out.turn hO hP); clear hP hO)
                | fail)
              go_roundw
              case rel => exact ⟨m + 1, p, _, _, by omega, by omega, by go_num, rfl, by first | exact K1.out _ | exact K2.out _, HR.out⟩
              case measure => simp only [intOf, Int.toNat_natCast]; omega
      · have h2 : decide ((m : Int) < 200) = false := decide_eq_false (by omega)
        go_wp2_with fail
        go_ret
        exact ⟨rfl, HR.out.old⟩
    · have h2 : decide ((m : Int) < n) = false := decide_eq_false (by omega)
      go_wp2_with fail
      go_ret
      exact ⟨rfl, HR.out.old⟩

theorem CutoffBound_walk (t : Nat) (ht : t < 65536) (k : Nat) (hk : k < 256) (r : Nat) (hr : r < 256) (A : Option Addr) (l : List Int) (c : Nat) (_ : l.length ≤ 9223372036854775807) (B : Option Addr) (l2 : List Int) (c2 : Nat) (_ : l2.length ≤ 9223372036854775807) (v : Bool) (w : World) (hA : Lk.IntsAt w .i64 A l) (hB : Lk.IntsAt w .i64 B l2) :
    Calls Try.prog 5 #[.int .u16 t, .int .u8 k, .int .u8 r, .slice A l.length c, .slice B l2.length c2, .bool v] w fun e w' => e = .returned (.bool true) ∧ Below w.heap.size w w' := by
  have h := bound_go ((t : Int) + 1) ((k : Int) + 1) r _ (by omega) (by omega) (by omega) (by omega) (by omega) (by omega) rfl A B _ c _ c2 l l2 rfl rfl v w hA hB
  rwa [Int.add_sub_cancel, Int.add_sub_cancel] at h
end Ow
end Go.Proofs.Ytdfihcbmojggoaa
