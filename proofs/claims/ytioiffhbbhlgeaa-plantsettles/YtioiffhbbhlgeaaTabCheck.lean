/- Contract of table.Check. -/
import Derived.Test.YtioiffhbbhlgeaaTabSteps
import Derived.Test.YtioiffhbbhlgeaaRangeKit
namespace Go.Proofs.Ytioiffhbbhlgeaa
namespace TabC
open Go.RowKit Go.Shelf

attribute [local go_sem] Oper.semAt_some

/-- A table that came in. -/
structure TabIn (W : World) (A B : Option Addr) (xs ys : List Int) : Prop where
  xl : xs.length ≤ 9223372036854775807
  yl : ys.length ≤ 9223372036854775807
  xa : Lk.IntsAt W .i64 A xs
  ya : Lk.IntsAt W .i64 B ys
theorem TabIn.below {W W' : World} {A B : Option Addr} {xs ys : List Int} (h : TabIn W A B xs ys) (hb : Below W.heap.size W W') : TabIn W' A B xs ys := ⟨h.xl, h.yl, h.xa.below hb, h.ya.below hb⟩
theorem TabIn.box {w W : World} {A B : Option Addr} {xs ys : List Int} (h : TabIn w A B xs ys) (hb : Below w.heap.size w W) {Bs ca cb : Nat} (hB : Lk.BoxV W Bs 24 #[.slice A xs.length ca, .slice B ys.length cb]) : TabBox w.heap.size Bs W A B ca cb xs ys := by
  refine ⟨hB, fun i hi => ?_, fun i hi => ?_⟩
  · obtain ⟨b, off, e, hc⟩ := cellG h.xa hi
    have := World.block_lt_of_cell? _ _ hc
    exact ⟨b, off, e, this, (hb.cell this).trans hc⟩
  · obtain ⟨b, off, e, hc⟩ := cellG h.ya hi
    have := World.block_lt_of_cell? _ _ hc
    exact ⟨b, off, e, this, (hb.cell this).trans hc⟩
def tabV (A B : Option Addr) (ca cb : Nat) (xs ys : List Int) : Value := .agg #[.slice A xs.length ca, .slice B ys.length cb]

theorem err_20 {xs ys : List Int} (h : ¬ Tb.Ok xs ys) : Tb.err xs ys = 20 := by rw [Tb.err, if_neg]; rw [Tb.ok_iff]; exact h
theorem err_0 {xs ys : List Int} (h : Tb.Ok xs ys) : Tb.err xs ys = 0 := by rw [Tb.err, if_pos]; rw [Tb.ok_iff]; exact h

set_option maxRecDepth 100000 in
set_option maxHeartbeats 4000000 in
/-- The lists do not fit. -/
theorem check_len (A B : Option Addr) (ca cb : Nat) (xs ys : List Int) (w : World) (h : xs.length < 2 ∨ 16 < xs.length ∨ ys.length ≠ xs.length) :
    Calls Try.prog 49 #[.agg #[.slice A xs.length ca, .slice B ys.length cb]] w fun e w' => e = .returned (.int .i64 (Tb.err xs ys)) ∧ Below w.heap.size w w' := by
  have E := Lib.hid (err_20 (xs := xs) (ys := ys) (fun k => by have := k.two; have := k.most; have := k.same; omega))
  refine (callsIn_wide (n := 9)).1 ?_
  by_cases h1 : xs.length < 2
  · clear h
    refine callsIn_of_wp_marks Try.func49 rfl trivial ?_ rfl
    simp only [Try.ntmps49, List.size_toArray, List.length_cons, List.length_nil, Nat.reduceAdd, Nat.reduceSub, Array.replicate_succ, Array.replicate_zero, List.push_toArray, List.append_toArray, List.nil_append, List.cons_append]
    gi_wp2
    exact ⟨.int .i64 20, by simp [results, Try.f49, go_sem], ret_int E.out.symm, ((Below.refl _ _).alloc (Nat.le_refl _) _).alloc (by simp) _⟩
  · by_cases h2 : 16 < xs.length
    · clear h
      have d1 : decide ((xs.length : Int) < 2) = false := by simp; omega
      refine callsIn_of_wp_marks Try.func49 rfl trivial ?_ rfl
      simp only [Try.ntmps49, List.size_toArray, List.length_cons, List.length_nil, Nat.reduceAdd, Nat.reduceSub, Array.replicate_succ, Array.replicate_zero, List.push_toArray, List.append_toArray, List.nil_append, List.cons_append]
      gi_wp2
      exact ⟨.int .i64 20, by simp [results, Try.f49, go_sem], ret_int E.out.symm, ((Below.refl _ _).alloc (Nat.le_refl _) _).alloc (by simp) _⟩
    · have h3 : ((ys.length : Int) != (xs.length : Int)) = true := by simp; omega
      clear h
      refine callsIn_of_wp_marks Try.func49 rfl trivial ?_ rfl
      simp only [Try.ntmps49, List.size_toArray, List.length_cons, List.length_nil, Nat.reduceAdd, Nat.reduceSub, Array.replicate_succ, Array.replicate_zero, List.push_toArray, List.append_toArray, List.nil_append, List.cons_append]
      gi_wp2
      exact ⟨.int .i64 20, by simp [results, Try.f49, go_sem], ret_int E.out.symm, ((Below.refl _ _).alloc (Nat.le_refl _) _).alloc (by simp) _⟩

set_option maxRecDepth 100000 in
set_option maxHeartbeats 4000000 in
/-- A number is outside. -/
theorem check_out (A B : Option Addr) (ca cb : Nat) (xs ys : List Int) (w : World) (hT : TabIn w A B xs ys) (h2 : 2 ≤ xs.length) (h16 : xs.length ≤ 16) (hs : ys.length = xs.length) (h : xs.any Tb.out = true ∨ ys.any Tb.out = true) :
    Calls Try.prog 49 #[.agg #[.slice A xs.length ca, .slice B ys.length cb]] w fun e w' => e = .returned (.int .i64 (Tb.err xs ys)) ∧ Below w.heap.size w w' := by
  have E := Lib.hid (err_20 (xs := xs) (ys := ys) (fun k => by
    rcases h with h | h
    · rw [(Tb.any_out xs).2 k.xb] at h; cases h
    · rw [(Tb.any_out ys).2 (by rw [k.same]; exact k.yb)] at h; cases h))
  have HT := Lib.hid hT
  have hB0 : ∀ o1 o2, Below w.heap.size w ((w.alloc o1).alloc o2) := fun o1 o2 => ((Below.refl _ _).alloc (Nat.le_refl _) _).alloc (by simp) _
  have HB := Lib.hid hB0
  have d1 : decide ((xs.length : Int) < 2) = false := by simp; omega
  have d2 : decide (16 < (xs.length : Int)) = false := by simp; omega
  have hn3 : ((ys.length : Int) != (xs.length : Int)) = false := by simp [hs]
  have hfn : ∀ f, Fence.wide.fn f := fun _ => trivial
  clear hT hs hB0
  refine (callsIn_wide (n := 9)).1 ?_
  cases hx : xs.any Tb.out with
  | true =>
    have c1 : ∀ o1 o2, Calls Try.prog 67 #[.slice A xs.length ca, .func (.func 68) #[] #[]] ((w.alloc o1).alloc o2) fun e w' => e = .returned (.bool true) ∧ (w.alloc o1).alloc o2 = w' := by
      intro o1 o2
      have := containsFunc_c A ca xs ((w.alloc o1).alloc o2) HT.out.xl (HT.out.xa.below (HB.out o1 o2))
      rwa [hx] at this
    have C1 := Lib.hid c1
    clear c1 hx h
    refine callsIn_of_wp_marks Try.func49 rfl trivial ?_ rfl
    simp only [Try.ntmps49, List.size_toArray, List.length_cons, List.length_nil, Nat.reduceAdd, Nat.reduceSub, Array.replicate_succ, Array.replicate_zero, List.push_toArray, List.append_toArray, List.nil_append, List.cons_append]
    gi_wp2_with (gi_at_call 67; refine (callsIn_wide.2 (C1.out _ _)).mono ?_; rintro e w' ⟨rfl, rfl⟩)
    exact ⟨.int .i64 20, by simp [results, Try.f49, go_sem], ret_int E.out.symm, HB.out _ _⟩
  | false =>
    have hy : ys.any Tb.out = true := h.resolve_left (by rw [hx]; simp)
    have c1 : ∀ o1 o2, Calls Try.prog 67 #[.slice A xs.length ca, .func (.func 68) #[] #[]] ((w.alloc o1).alloc o2) fun e w' => e = .returned (.bool false) ∧ (w.alloc o1).alloc o2 = w' := by
      intro o1 o2
      have := containsFunc_c A ca xs ((w.alloc o1).alloc o2) HT.out.xl (HT.out.xa.below (HB.out o1 o2))
      rwa [hx] at this
    have c2 : ∀ o1 o2, Calls Try.prog 67 #[.slice B ys.length cb, .func (.func 68) #[] #[]] ((w.alloc o1).alloc o2) fun e w' => e = .returned (.bool true) ∧ (w.alloc o1).alloc o2 = w' := by
      intro o1 o2
      have := containsFunc_c B cb ys ((w.alloc o1).alloc o2) HT.out.yl (HT.out.ya.below (HB.out o1 o2))
      rwa [hy] at this
    have C1 := Lib.hid c1
    have C2 := Lib.hid c2
    clear c1 c2 hx hy h
    refine callsIn_of_wp_marks Try.func49 rfl trivial ?_ rfl
    simp only [Try.ntmps49, List.size_toArray, List.length_cons, List.length_nil, Nat.reduceAdd, Nat.reduceSub, Array.replicate_succ, Array.replicate_zero, List.push_toArray, List.append_toArray, List.nil_append, List.cons_append]
    gi_wp2_with fail
    refine (callsIn_wide.2 (C1.out _ _)).mono ?_
    rintro e w' ⟨rfl, rfl⟩
    gi_wp2_with fail
    refine (callsIn_wide.2 (C2.out _ _)).mono ?_
    rintro e w' ⟨rfl, rfl⟩
    gi_wp2_with fail
    exact ⟨.int .i64 20, by simp [results, Try.f49, go_sem], ret_int E.out.symm, HB.out _ _⟩

def UpTo (xs : List Int) (pre : List (Idx xs)) : Prop := ∀ k ∈ pre, Tb.g xs k.1 < Tb.g xs (k.1 + 1)
def NotUp (xs : List Int) (pre : List (Idx xs)) : Prop := ∃ k ∈ pre, ¬ Tb.g xs k.1 < Tb.g xs (k.1 + 1)

set_option maxRecDepth 100000 in
set_option maxHeartbeats 4000000 in
/-- The places are gone through. -/
theorem check_up (A B : Option Addr) (ca cb : Nat) (xs ys : List Int) (w : World) (hT : TabIn w A B xs ys) (h2 : 2 ≤ xs.length) (h16 : xs.length ≤ 16) (hs : ys.length = xs.length) (hx : xs.any Tb.out = false) (hy : ys.any Tb.out = false) :
    Calls Try.prog 49 #[.agg #[.slice A xs.length ca, .slice B ys.length cb]] w fun e w' => e = .returned (.int .i64 (Tb.err xs ys)) ∧ Below w.heap.size w w' := by
  have E1 : Hid ((∃ k, k + 1 < xs.length ∧ ¬ Tb.g xs k < Tb.g xs (k + 1)) → Tb.err xs ys = 20) := fun ⟨k, hk, h⟩ => err_20 (fun o => h (o.up k hk))
  have E2 : Hid ((∀ k, k + 1 < xs.length → Tb.g xs k < Tb.g xs (k + 1)) → Tb.err xs ys = 0) := fun h => err_0 ⟨h2, h16, hs, (Tb.any_out xs).1 hx, by rw [← hs]; exact (Tb.any_out ys).1 hy, h⟩
  have HT := Lib.hid hT
  have HSM := Lib.hid hs
  have hB0 : ∀ o1 o2, Below w.heap.size w ((w.alloc o1).alloc o2) := fun o1 o2 => ((Below.refl _ _).alloc (Nat.le_refl _) _).alloc (by simp) _
  have HB := Lib.hid hB0
  have d1 : decide ((xs.length : Int) < 2) = false := by simp; omega
  have d2 : decide (16 < (xs.length : Int)) = false := by simp; omega
  have hn3 : ((ys.length : Int) != (xs.length : Int)) = false := by simp [hs]
  have hfn : ∀ f, Fence.wide.fn f := fun _ => trivial
  clear hT hs hB0
  refine (callsIn_wide (n := 9)).1 ?_
  have c1 : ∀ o1 o2, Calls Try.prog 67 #[.slice A xs.length ca, .func (.func 68) #[] #[]] ((w.alloc o1).alloc o2) fun e w' => e = .returned (.bool false) ∧ (w.alloc o1).alloc o2 = w' := by
    intro o1 o2
    have := containsFunc_c A ca xs ((w.alloc o1).alloc o2) HT.out.xl (HT.out.xa.below (HB.out o1 o2))
    rwa [hx] at this
  have c2 : ∀ o1 o2, Calls Try.prog 67 #[.slice B ys.length cb, .func (.func 68) #[] #[]] ((w.alloc o1).alloc o2) fun e w' => e = .returned (.bool false) ∧ (w.alloc o1).alloc o2 = w' := by
    intro o1 o2
    have := containsFunc_c B cb ys ((w.alloc o1).alloc o2) HT.out.yl (HT.out.ya.below (HB.out o1 o2))
    rwa [hy] at this
  have C1 := Lib.hid c1
  have C2 := Lib.hid c2
  clear c1 c2 hx hy
  refine callsIn_of_wp_marks Try.func49 rfl trivial ?_ rfl
  simp only [Try.ntmps49, List.size_toArray, List.length_cons, List.length_nil, Nat.reduceAdd, Nat.reduceSub, Array.replicate_succ, Array.replicate_zero, List.push_toArray, List.append_toArray, List.nil_append, List.cons_append]
  gi_wp2_with fail
  refine (callsIn_wide.2 (C1.out _ _)).mono ?_
  rintro e w' ⟨rfl, rfl⟩
  gi_wp2_with fail
  refine (callsIn_wide.2 (C2.out _ _)).mono ?_
  rintro e w' ⟨rfl, rfl⟩
  gi_wp2_with fail
  refine (callsIn_wide.2 (steps_c _ _ _ _ _ _ _)).mono ?_
  rintro e w' ⟨rfl, rfl⟩
  gi_wp2_with fail
  have bR := (Lk.BoxV.new (w.alloc (.cells #[.slice A xs.length ca, .slice B ys.length cb] 24)) 40 #[.int .i64 0]).alloc (.cells #[.slice A xs.length ca, .slice B ys.length cb] 24)
  have bT := Lk.BoxV.new ((w.alloc (.cells #[.slice A xs.length ca, .slice B ys.length cb] 24)).alloc (.cells #[.int .i64 0] 40)) 24 #[.slice A xs.length ca, .slice B ys.length cb]
  simp only [World.size_alloc] at bR bT
  have hB0 := (HB.out (.cells #[.slice A xs.length ca, .slice B ys.length cb] 24) (.cells #[.int .i64 0] 40)).alloc (by simp; omega) (.cells #[.slice A xs.length ca, .slice B ys.length cb] 24)
  have hsz : (((w.alloc (.cells #[.slice A xs.length ca, .slice B ys.length cb] 24)).alloc (.cells #[.int .i64 0] 40)).alloc (.cells #[.slice A xs.length ca, .slice B ys.length cb] 24)).heap.size = w.heap.size + 3 := by simp
  generalize ((w.alloc (.cells #[.slice A xs.length ca, .slice B ys.length cb] 24)).alloc (.cells #[.int .i64 0] 40)).alloc (.cells #[.slice A xs.length ca, .slice B ys.length cb] 24) = W0 at bR bT hB0 hsz ⊢
  refine Lk.rangeH (by omega) (gf := 69) (lb := #[.pointer (some ⟨w.heap.size + 1 + 1, 0, none⟩)]) rfl (enters_of Try.func69 (by kernel_rfl) rfl)
    (steps_stops 8 w.heap.size (w.heap.size + 1 + 1) A B ca cb xs ys h2 (by omega) HSM.out W0 (by omega) (by omega) (HT.out.box hB0 bT)) KpT.trans (kpT_b (by omega) (by omega)) (fun _ => rfl)
    (fun pre W => (UpTo xs pre ∧ Lk.BoxV W (w.heap.size + 1) 40 #[.int .i64 0]) ∧ Below w.heap.size w W ∧ w.heap.size + 3 ≤ W.heap.size)
    (fun c pre W => ((c = .ret ∧ NotUp xs pre) ∧ Lk.BoxV W (w.heap.size + 1) 40 #[.int .i64 20]) ∧ Below w.heap.size w W)
    (OwnFrom.and (OwnFrom.and (Lk.ownFrom_pure _ _) (Own.from (Lk.boxV_own _ _ _) _)) (OwnFrom.and (ownFrom_below (Nat.le_refl _) (by omega)) (Lk.ownFrom_size _ _)))
    (fun c => OwnFrom.and (OwnFrom.and (Lk.ownFrom_pure _ _) (Own.from (Lk.boxV_own _ _ _) _)) (ownFrom_below (Nat.le_refl _) (by omega)))
    ⟨⟨(fun k hk => by cases hk), bR⟩, hB0, by omega⟩
    (w.heap.size + 3) 76 31 4 (fun k => stepOf xs ys k.1) (fun k => #[.int .i64 (Tb.g xs k.1), .int .i64 (Tb.g xs (k.1 + 1)), .int .i64 (Tb.g ys k.1), .int .i64 (Tb.g ys (k.1 + 1))]) ?assign ?body ?done ?stop
  case assign =>
    rintro l pre x W K ⟨⟨hp, bR1⟩, hB1, hsW⟩ hK
    have HK := Lib.hid hK
    have HP := Lib.hid hp
    clear hK hp
    simp only [encS, stepOf]
    gi_wp2
    exact HK.out _ _ ((KeepsOthers.alloc _ _).from _) ⟨(Below.refl _ W).alloc hB1.size _, Below.heap_alloc _ _ _ (by omega)⟩ ⟨⟨HP.out, bR1.alloc _⟩, hB1.alloc hB1.size _, by simp; omega⟩ ⟨W.heap.size, hsW, Lk.BoxV.new W _ _, rfl⟩
  case body =>
    rintro l pre x Bx W hBx bX ⟨⟨hp, bR1⟩, hB1, hsW⟩ hlt
    have HP := Lib.hid hp
    clear hp
    have f0 := bX.cell 0
    have f1 := bX.cell 1
    simp only [List.getElem?_toArray, List.getElem?_cons_zero, List.getElem?_cons_succ] at f0 f1
    have r0 := bR1.cell 0
    simp only [List.getElem?_toArray, List.getElem?_cons_zero] at r0
    have r1 := bR1.frozen 0
    simp only [stepOf, List.setIfInBounds_toArray, List.set_cons_succ, List.set_cons_zero]
    by_cases hc : Tb.g xs x.1 < Tb.g xs (x.1 + 1)
    · gi_wp2
      exact ⟨KeepsFrom.refl _ _, KpT.refl _ _ _, ⟨⟨fun k hk => (List.mem_append.1 hk).elim (HP.out k) (fun e => by rw [List.mem_singleton.1 e]; exact hc), bR1⟩, hB1, hsW⟩⟩
    · gi_wp2
      exact ⟨(KeepsOthers.setCell _ _ _).from _, ⟨⟨rfl, x, List.mem_append.2 (.inr (by simp)), (by omega)⟩, bR1.set _⟩, hB1.setCell (p := ⟨w.heap.size + 1, 0, none⟩) (by simp) _⟩
  case done =>
    rintro D zs W hD rfl ⟨⟨hp, bR1⟩, hB1, hsW⟩ hK
    have E : Hid (Tb.err xs ys = 0) := E2.out (fun k hk => hp ⟨k, hk⟩ ((mem_ups (by omega)).2 (by simp; omega)))
    clear hp
    have r0 := bR1.cell 0
    simp only [List.getElem?_toArray, List.getElem?_cons_zero] at r0
    have r1 := bR1.frozen 0
    gi_wp2
    have hK' := (KeepsOthers.setCell W ⟨w.heap.size + 1, 0, none⟩ (.int .i64 0)).same D _ hK rfl
    refine ⟨by simp, .inl ⟨_, _, rfl, run_takeDeferred hK', ?_⟩⟩
    have c5 := ((bR1.set (.int .i64 0)).put (.deferred none) hK' rfl).cell 0
    simp only [List.getElem?_toArray, List.getElem?_cons_zero] at c5
    refine ⟨.int .i64 0, ?_, ret_int E.out.symm, (hB1.setCell (p := ⟨w.heap.size + 1, 0, none⟩) (by simp) _).trans (belowK_b (w := w) (Nat.le_refl _) _ D _ _ (by omega) hK' rfl rfl)⟩
    simp [results, Try.f49, go_sem, c5]
  case stop =>
    rintro D c pre W hD ⟨k, hk, rfl⟩ ⟨⟨⟨rfl, hp⟩, bR1⟩, hB1⟩ hK
    have E : Hid (Tb.err xs ys = 20) := by
      obtain ⟨j, _, hj⟩ := hp
      exact E1.out ⟨j.1, j.2, by simpa using hj⟩
    clear hp
    gi_wp2
    refine ⟨by simp, .inl ⟨_, _, rfl, run_takeDeferred hK, ?_⟩⟩
    have c5 := (bR1.put (.deferred none) hK rfl).cell 0
    simp only [List.getElem?_toArray, List.getElem?_cons_zero] at c5
    refine ⟨.int .i64 20, ?_, ret_int E.out.symm, hB1.trans (belowK_b (w := w) (Nat.le_refl _) W D _ _ (by omega) hK rfl rfl)⟩
    simp [results, Try.f49, go_sem, c5]

/-- **Check**, of any two lists. -/
theorem check_c (A B : Option Addr) (ca cb : Nat) (xs ys : List Int) (w : World) (hT : TabIn w A B xs ys) :
    Calls Try.prog 49 #[.agg #[.slice A xs.length ca, .slice B ys.length cb]] w fun e w' => e = .returned (.int .i64 (Tb.err xs ys)) ∧ Below w.heap.size w w' := by
  by_cases h1 : xs.length < 2 ∨ 16 < xs.length ∨ ys.length ≠ xs.length
  · exact check_len A B ca cb xs ys w h1
  · by_cases h2 : xs.any Tb.out = true ∨ ys.any Tb.out = true
    · exact check_out A B ca cb xs ys w hT (by omega) (by omega) (by omega) h2
    · exact check_up A B ca cb xs ys w hT (by omega) (by omega) (by omega) (by cases h : xs.any Tb.out <;> simp_all) (by cases h : ys.any Tb.out <;> simp_all)

end TabC
end Go.Proofs.Ytioiffhbbhlgeaa
