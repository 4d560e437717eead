/- The program's store: the place that is let go of. -/
import Derived.Test.YtlhapipgmadbeaaStoreP6
namespace Go.Proofs.Ytlhapipgmadbeaa
namespace Sq
open Go.RowKit Nv Nw Sp Lk

/-- What the walk of tooMuch carries behind its range: the first one of those met, if any. -/
structure Tm (w W : World) (F B r n P : Nat) (l : Nat → Pl) (h met : Nat → Bool) (x : Bool) (j : Nat) : Prop where
  rg : Rg W B r n P l h met
  old : Below w.heap.size w W
  lF : w.heap.size ≤ F
  ltF : F < W.heap.size
  neF : F ≠ r
  neB : F ≠ B
  lr : w.heap.size ≤ r
  lB : B < w.heap.size
  blk : W.heap[F]? = some (if x = true then pob j (l j) else pob 0 zero)
  non : x = false → ∀ i, h i = true → met i = false
  hj : x = true → h j = true
  hm : x = true → ∀ i, h i = true → met i = true → i = j ∨ soonB j (l j) i (l i) = true
namespace Tm
variable {w W W' : World} {F B r n P : Nat} {l : Nat → Pl} {h met : Nat → Bool} {x : Bool} {j : Nat}
theorem grow (t : Tm w W F B r n P l h met x j) (hb : Below W.heap.size W W') : Tm w W' F B r n P l h met x j :=
  ⟨t.rg.grow hb, t.old.trans (hb.mono t.old.size), t.lF, Nat.lt_of_lt_of_le t.ltF hb.size, t.neF, t.neB, t.lr, t.lB, (hb.block F t.ltF).trans t.blk, t.non, t.hj, t.hm⟩
end Tm
/-- The step of the range, of which the new place is known. -/
structure Ts (w W : World) (F B r n P : Nat) (l : Nat → Pl) (h met : Nat → Bool) (x : Bool) (j i : Nat) : Prop where
  tm : Rg W B r n P l h (fun q => met q || decide (q = i))
  old : Below w.heap.size w W
  lF : w.heap.size ≤ F
  ltF : F < W.heap.size
  neF : F ≠ r
  neB : F ≠ B
  lr : w.heap.size ≤ r
  lB : B < w.heap.size
  blk : W.heap[F]? = some (if x = true then pob j (l j) else pob 0 zero)
  non : x = false → ∀ i, h i = true → met i = false
  hj : x = true → h j = true
  hm : x = true → ∀ i, h i = true → met i = true → i = j ∨ soonB j (l j) i (l i) = true
  hi : h i = true
namespace Ts
variable {w W W' : World} {F B r n P : Nat} {l : Nat → Pl} {h met : Nat → Bool} {x : Bool} {j i : Nat}
theorem of_tm (t : Tm w W F B r n P l h met x j) (hi : h i = true) (hr : Rg W' B r n P l h (fun q => met q || decide (q = i))) (ho : Off r W W') : Ts w W' F B r n P l h met x j i :=
  ⟨hr, t.old.trans (ho.below t.lr), t.lF, by rw [ho.size]; exact t.ltF, t.neF, t.neB, t.lr, t.lB, (ho.block F t.neF).trans t.blk, t.non, t.hj, t.hm, hi⟩
theorem grow (t : Ts w W F B r n P l h met x j i) (hb : Below W.heap.size W W') : Ts w W' F B r n P l h met x j i :=
  ⟨t.tm.grow hb, t.old.trans (hb.mono t.old.size), t.lF, Nat.lt_of_lt_of_le t.ltF hb.size, t.neF, t.neB, t.lr, t.lB, (hb.block F t.ltF).trans t.blk, t.non, t.hj, t.hm, t.hi⟩
/-- The new one takes the first one's place. -/
theorem take (t : Ts w W F B r n P l h met x j i) (hb : W'.heap[F]? = some (pob i (l i))) (ho : Off F W W') (hx : x = true → soonB i (l i) j (l j) = true) (htr : ∀ q : Nat, soonB i (l i) j (l j) = true → soonB j (l j) q (l q) = true → soonB i (l i) q (l q) = true) :
    Tm w W' F B r n P l h (fun q => met q || decide (q = i)) true i := by
  have hB : B ≠ F := Ne.symm t.neB
  have hr : r ≠ F := Ne.symm t.neF
  refine ⟨t.tm.of_blocks (ho.block B hB) (ho.block r hr), t.old.trans (ho.below t.lF), t.lF, by rw [ho.size]; exact t.ltF, t.neF, t.neB, t.lr, t.lB, by rw [if_pos rfl]; exact hb, fun h => (by cases h), fun _ => t.hi, fun _ q hq hmq => ?_⟩
  simp only [Bool.or_eq_true, decide_eq_true_eq] at hmq
  rcases hmq with hmq | rfl
  · cases x with
    | false => rw [t.non rfl q hq] at hmq; cases hmq
    | true =>
      rcases t.hm rfl q hq hmq with rfl | e
      · exact .inr (hx rfl)
      · exact .inr (htr q (hx rfl) e)
  · exact .inl rfl
/-- The first one stays. -/
theorem stay (t : Ts w W F B r n P l h met true j i) (hx : soonB i (l i) j (l j) = false) (htot : i ≠ j → soonB i (l i) j (l j) = false → soonB j (l j) i (l i) = true) : Tm w W F B r n P l h (fun q => met q || decide (q = i)) true j := by
  refine ⟨t.tm, t.old, t.lF, t.ltF, t.neF, t.neB, t.lr, t.lB, t.blk, fun h => (by cases h), t.hj, fun _ q hq hmq => ?_⟩
  simp only [Bool.or_eq_true, decide_eq_true_eq] at hmq
  rcases hmq with hmq | rfl
  · exact t.hm rfl q hq hmq
  · by_cases e : q = j
    · exact .inl e
    · exact .inr (htot e hx)
end Ts
theorem soon_iff {i j : Int} {p q : Pl} : soonB i p j q = true ↔ (p.lat = false ∧ q.lat = true) ∨ (p.lat = q.lat ∧ (p.num < q.num ∨ (p.num = q.num ∧ i < j))) := by
  unfold soonB
  by_cases e : p.lat = q.lat
  · rw [if_pos e]
    by_cases e2 : p.num = q.num
    · rw [if_pos e2, decide_eq_true_eq]
      constructor
      · intro h; exact .inr ⟨e, .inr ⟨e2, h⟩⟩
      · rintro (⟨h1, h2⟩ | ⟨_, h | ⟨_, h⟩⟩)
        · rw [e, h2] at h1; cases h1
        · omega
        · exact h
    · rw [if_neg e2, decide_eq_true_eq]
      constructor
      · intro h; exact .inr ⟨e, .inl h⟩
      · rintro (⟨h1, h2⟩ | ⟨_, h | ⟨h, _⟩⟩)
        · rw [e, h2] at h1; cases h1
        · exact h
        · exact absurd h e2
  · rw [if_neg e]
    constructor
    · intro h
      refine .inl ⟨?_, h⟩
      cases hp : p.lat with
      | false => rfl
      | true => exact absurd (hp.trans h.symm) e
    · rintro (⟨_, h⟩ | ⟨h, _⟩)
      · exact h
      · exact absurd h e
theorem soon_trans {i j q : Int} {a b c : Pl} (h1 : soonB i a j b = true) (h2 : soonB j b q c = true) : soonB i a q c = true := by
  rw [soon_iff] at *
  rcases h1 with ⟨a1, a2⟩ | ⟨a1, a2⟩ <;> rcases h2 with ⟨b1, b2⟩ | ⟨b1, b2⟩
  · exact .inl ⟨a1, b2⟩
  · exact .inl ⟨a1, b1 ▸ a2⟩
  · exact .inl ⟨a1.trans b1, b2⟩
  · exact .inr ⟨a1.trans b1, by omega⟩
theorem soon_total {i j : Int} {a b : Pl} (hij : i ≠ j) (h : soonB i a j b = false) : soonB j b i a = true := by
  have h' : ¬ soonB i a j b = true := by rw [h]; simp
  rw [soon_iff] at *
  cases ha : a.lat <;> cases hb : b.lat <;> simp only [ha, hb, Bool.false_eq_true, Bool.true_eq_false, and_true, true_and, and_false, false_and, or_false, false_or, not_true, not_false_eq_true] at h' ⊢ <;> first | omega | trivial

set_option maxRecDepth 100000 in
set_option maxHeartbeats 4000000 in
theorem tooMuch_c (B n P : Nat) (l : Nat → Pl) (h : Nat → Bool) (w : World) (hM : Mh w B n P l h) (he : ∃ i, h i = true) :
    Calls Try.prog 50 #[.map (some B)] w fun e w' => ∃ j, h j = true ∧ dropAt P l h = j ∧ e = .returned (.int .i64 (l j).code) ∧ Below w.heap.size w w' := by
  have HE := Lib.hid he
  have HU := Lib.hid (fun i (hi : h i = true) => (hM.ok hi).1)
  have HM := Lib.hid (hM.grow ((Below.refl _ _).alloc (Nat.le_refl _) (.cells #[.int .i64 0, .int .u32 0, .int .i64 0, .int .i64 0, .bool false] 94)))
  have HB := Lib.hid hM.lt
  have HC := Lib.hid (heap_alloc_last w (.cells #[.int .i64 0, .int .u32 0, .int .i64 0, .int .i64 0, .bool false] 94))
  have HW : Hid (Below w.heap.size w (w.alloc (.cells #[.int .i64 0, .int .u32 0, .int .i64 0, .int .i64 0, .bool false] 94))) := (Below.refl _ _).alloc (Nat.le_refl _) _
  clear he hM
  go_enter Try.func50, Try.ntmps50
  go_wp2_with (first
    | (at_range; refine rangeM rfl _ rfl B n P l h rfl HM.out ?_; intro W1 h1 h2 h3; have HT : Hid (Tm w W1 w.heap.size B (w.heap.size + 1) n P l h (fun _ => false) false 0) := ⟨(by rw [World.size_alloc] at h1; exact h1), HW.out.trans (h2.mono (by simp)), Nat.le_refl _, by rw [World.size_alloc] at h3; omega, by omega, by have := HB.out; omega, by omega, HB.out, (h2.block _ (by simp)).trans HC.out, fun _ _ _ => rfl, fun h => (by cases h), fun h => (by cases h)⟩; clear h1 h2 h3 HM HW HC HB)
    | fail)
  go_frame
  simp only [World.size_alloc]
  generalize w.heap.size + 1 = r at *
  obtain ⟨F, hF⟩ : ∃ F, w.heap.size = F := ⟨_, rfl⟩
  have HF := Lib.hid hF
  rw [hF] at HT ⊢
  clear hF
  go_loopw [4] (fun t wr => ∃ met x j, t = .bool x ∧ Tm w wr F B r n P l h met x j) (fun _ wr => wr.rangeLeft B r)
  case atStart => exact ⟨_, false, 0, rfl, HT.out⟩
  case round =>
    clear HT
    obtain ⟨met, x, j, rfl, hT⟩ := hrel
    have HT := Lib.hid hT
    clear hT
    go_wp2_with (first
      | (at_next; refine nextM rfl _ rfl B r n P l h met rfl HT.out.rg ?_ ?_)
      | fail)
    · intro hd
      have HD := Lib.hid hd
      clear hd
      have hx : x = true := by
        cases x with
        | true => rfl
        | false =>
          obtain ⟨i, hi⟩ := HE.out
          have h1 := HD.out i hi
          rw [HT.out.non rfl i hi] at h1
          cases h1
      subst hx
      have hb := HT.out.blk
      rw [if_pos rfl] at hb
      have z2 := Joins.cell_of_block hb 2
      simp only [List.getElem?_toArray, List.getElem?_cons_zero, List.getElem?_cons_succ] at z2
      have HZ : Hid (h j = true ∧ dropAt P l h = j) := ⟨HT.out.hj rfl, drop_is HU.out (HT.out.hj rfl) fun i hi => HT.out.hm rfl i hi (HD.out i hi)⟩
      clear hb HD HE HU
      go_wp2_with fail
      go_ret
      exact ⟨j, HZ.out.1, HZ.out.2, rfl, HT.out.old⟩
    · intro i W2 hi hmi hrg hlt ho hen
      have HS : Hid (Ts w W2 F B r n P l h met x j i) := Ts.of_tm HT.out hi hrg ho
      have HL : Hid (W2.rangeLeft B r < wr.rangeLeft B r) := hlt
      have HR2 : Hid (B < W2.heap.size ∧ r < W2.heap.size) := ⟨hrg.owns.lt, hrg.lt⟩
      have HR3 := HR2
      clear hi hmi hrg hlt ho HT
      replace HS := Lib.hid (HS.out.grow ((Below.refl _ _).alloc (Nat.le_refl _) (pob i (l i))))
      have HB1 := Lib.hid (heap_alloc_last W2 (pob i (l i)))
      have HL2 : Hid (∀ W' : World, W'.heap[B]? = (W2.alloc (pob i (l i))).heap[B]? → W'.heap[r]? = (W2.alloc (pob i (l i))).heap[r]? → W'.rangeLeft B r < wr.rangeLeft B r) := fun W' e1 e2 => by
        rw [left_of e1 e2, left_of (Below.heap_alloc _ _ _ HR2.out.1) (Below.heap_alloc _ _ _ HR2.out.2)]
        exact HL.out
      clear HL HR2
      cases x with
      | false =>
        have HB2 : Hid ((W2.alloc (pob i (l i))).heap[F]? = some (pob 0 zero)) := by have := HS.out.blk; rwa [if_neg (by simp)] at this
        go_wp2_with (first
          | (refine stp rfl _ _ rfl rfl F 0 i zero (l i) rfl rfl HB2.out ?_; intro W3 hp ho; have HO := Lib.hid (And.intro hp ho); clear hp ho)
          | fail)
        go_roundw
        case rel => exact ⟨_, true, i, rfl, HS.out.take HO.out.1 HO.out.2 (fun h => by cases h) (fun q => soon_trans)⟩
        case measure => exact HL2.out _ (HO.out.2.block B (Ne.symm HS.out.neB)) (HO.out.2.block r (Ne.symm HS.out.neF))
      | true =>
        have HB2 : Hid ((W2.alloc (pob i (l i))).heap[F]? = some (pob j (l j))) := by have := HS.out.blk; rwa [if_pos rfl] at this
        have HC := Lib.hid (fun W => sooner_c i j (l i) (l j) W)
        obtain ⟨y, hy⟩ : ∃ y, soonB i (l i) j (l j) = y := ⟨_, rfl⟩
        have HY := Lib.hid hy
        rw [hy] at HC
        clear hy
        cases y with
        | false =>
          go_wp2_with (first
            | (refine ldp rfl _ rfl W2.heap.size i (l i) rfl HB1.out ?_)
            | (refine ldp rfl _ rfl F j (l j) rfl HB2.out ?_)
            | (go_at_call 56; refine (HC.out _).mono ?_; rintro e W3 ⟨rfl, hb⟩; replace HS := Lib.hid (HS.out.grow hb); replace HB1 := Lib.hid ((hb.block _ (by simp)).trans HB1.out); have HL3 := Lib.hid (And.intro (hb.block B (by rw [World.size_alloc]; have := HR3.out.1; omega)) (hb.block r (by rw [World.size_alloc]; have := HR3.out.2; omega))); have HB3 : Hid (W3.heap[F]? = some (pob j (l j))) := (by have := HS.out.blk; rwa [if_pos rfl] at this); clear hb)
            | fail)
          go_roundw
          case rel => exact ⟨_, true, j, rfl, HS.out.stay HY.out (fun hij => soon_total (by omega))⟩
          case measure => exact HL2.out _ HL3.out.1 HL3.out.2
        | true =>
          go_wp2_with (first
            | (refine ldp rfl _ rfl W2.heap.size i (l i) rfl HB1.out ?_)
            | (refine ldp rfl _ rfl F j (l j) rfl HB2.out ?_)
            | (go_at_call 56; refine (HC.out _).mono ?_; rintro e W3 ⟨rfl, hb⟩; replace HS := Lib.hid (HS.out.grow hb); replace HB1 := Lib.hid ((hb.block _ (by simp)).trans HB1.out); have HL3 := Lib.hid (And.intro (hb.block B (by rw [World.size_alloc]; have := HR3.out.1; omega)) (hb.block r (by rw [World.size_alloc]; have := HR3.out.2; omega))); have HB3 : Hid (W3.heap[F]? = some (pob j (l j))) := (by have := HS.out.blk; rwa [if_pos rfl] at this); clear hb)
            | (refine stp rfl _ _ rfl rfl F j i (l j) (l i) rfl rfl HB3.out ?_; intro W4 hp ho; have HO := Lib.hid (And.intro hp ho); clear hp ho)
            | fail)
          go_roundw
          case rel => exact ⟨_, true, i, rfl, HS.out.take HO.out.1 HO.out.2 (fun _ => HY.out) (fun q => soon_trans)⟩
          case measure => exact HL2.out _ ((HO.out.2.block B (Ne.symm HS.out.neB)).trans HL3.out.1) ((HO.out.2.block r (Ne.symm HS.out.neF)).trans HL3.out.2)
end Sq
end Go.Proofs.Ytlhapipgmadbeaa
