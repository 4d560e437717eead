/- Contracts of table.Rising, table.Peak, table.At. -/
import Derived.Test.YtioiffhbbhlgeaaTabCheck
namespace Go.Proofs.Ytioiffhbbhlgeaa
namespace TabC
open Go.RowKit Go.Shelf

attribute [local go_sem] Oper.semAt_some

theorem err_eq (xs ys : List Int) : (Tb.okB xs ys = true ∧ Tb.Ok xs ys ∧ Tb.err xs ys = 0) ∨ (Tb.okB xs ys = false ∧ Tb.err xs ys = 20) := by
  cases h : Tb.okB xs ys with
  | true => exact .inl ⟨rfl, (Tb.ok_iff xs ys).1 h, by simp [Tb.err, h]⟩
  | false => exact .inr ⟨rfl, by simp [Tb.err, h]⟩

/-- Check, at a table that may be. -/
theorem check_ok (A B : Option Addr) (ca cb : Nat) (xs ys : List Int) (w : World) (hT : TabIn w A B xs ys) (h : Tb.okB xs ys = true) :
    Calls Try.prog 49 #[.agg #[.slice A xs.length ca, .slice B ys.length cb]] w fun e w' => e = .returned (.int .i64 0) ∧ Below w.heap.size w w' := by
  have := check_c A B ca cb xs ys w hT
  rwa [show Tb.err xs ys = 0 from by simp [Tb.err, h]] at this
/-- Check, at one that may not. -/
theorem check_no (A B : Option Addr) (ca cb : Nat) (xs ys : List Int) (w : World) (hT : TabIn w A B xs ys) (h : Tb.okB xs ys = false) :
    Calls Try.prog 49 #[.agg #[.slice A xs.length ca, .slice B ys.length cb]] w fun e w' => e = .returned (.int .i64 20) ∧ Below w.heap.size w w' := by
  have := check_c A B ca cb xs ys w hT
  rwa [show Tb.err xs ys = 20 from by simp [Tb.err, h]] at this

theorem TabIn.alloc {w : World} {A B : Option Addr} {xs ys : List Int} (h : TabIn w A B xs ys) (o : Obj) : TabIn (w.alloc o) A B xs ys := h.below ((Below.refl _ _).alloc (Nat.le_refl _) _)

set_option maxHeartbeats 1000000 in
theorem rising_c (A B : Option Addr) (ca cb : Nat) (xs ys : List Int) (w : World) (hT : TabIn w A B xs ys) :
    Calls Try.prog 66 #[.agg #[.slice A xs.length ca, .slice B ys.length cb]] w fun e w' => e = .returned (.bool (Tb.rsB xs ys)) ∧ Below w.heap.size w w' := by
  have HT := Lib.hid hT
  clear hT
  cases h : Tb.okB xs ys with
  | false =>
    have E : Hid (Tb.rsB xs ys = false) := by show _ = _; simp [Tb.rsB, h]
    have HO := Lib.hid h
    clear h
    go_enter Try.func66, Try.ntmps66
    go_wp2_with fail
    refine (check_no A B ca cb xs ys _ (HT.out.alloc _) HO.out).mono ?_
    rintro e w1 ⟨rfl, hb⟩
    have hb2 : Below w.heap.size w w1 := ((Below.refl _ _).alloc (Nat.le_refl _) _).trans (hb.mono (by simp))
    go_wp2_with fail
    go_ret
    exact ⟨ret_bool E.out.symm, hb2⟩
  | true =>
    have HO := Lib.hid h
    have hok := (Tb.ok_iff xs ys).1 h
    have E : Hid (Tb.rsB xs ys = Tb.riB ys) := by show _ = _; simp [Tb.rsB, h]
    have h2 : 0 < ys.length := by have := hok.two; have := hok.same; omega
    clear h hok
    go_enter Try.func66, Try.ntmps66
    go_wp2_with fail
    refine (check_ok A B ca cb xs ys _ (HT.out.alloc _) HO.out).mono ?_
    rintro e w1 ⟨rfl, hb⟩
    have hb2 : Below w.heap.size w w1 := ((Below.refl _ _).alloc (Nat.le_refl _) _).trans (hb.mono (by simp))
    have bx := (Lk.BoxV.new w 24 #[.slice A xs.length ca, .slice B ys.length cb]).below hb (by simp)
    have c1 := bx.cell 1
    simp only [List.getElem?_toArray, List.getElem?_cons_zero, List.getElem?_cons_succ] at c1
    have HB2 := Lib.hid hb2
    clear hb hb2 bx
    go_wp2_with fail
    refine (isSorted_c B cb ys _ HT.out.yl h2 (HT.out.ya.below HB2.out)).mono ?_
    rintro e w2 ⟨rfl, hb3⟩
    have hb4 : Below w.heap.size w w2 := HB2.out.trans (hb3.mono HB2.out.size)
    generalize hv : Tb.riB ys = v at E ⊢
    clear hv hb3
    cases v with
    | true =>
      go_wp2_with fail
      go_ret
      exact ⟨ret_bool E.out.symm, hb4⟩
    | false =>
      go_wp2_with fail
      go_ret
      exact ⟨ret_bool E.out.symm, hb4⟩

set_option maxHeartbeats 1000000 in
theorem peak_c (A B : Option Addr) (ca cb : Nat) (xs ys : List Int) (w : World) (hT : TabIn w A B xs ys) :
    Calls Try.prog 25 #[.agg #[.slice A xs.length ca, .slice B ys.length cb]] w fun e w' => e = .returned (.int .i64 (Tb.pk xs ys)) ∧ Below w.heap.size w w' := by
  have HT := Lib.hid hT
  clear hT
  cases h : Tb.okB xs ys with
  | false =>
    have E : Hid (Tb.pk xs ys = 0) := by show _ = _; simp [Tb.pk, h]
    have HO := Lib.hid h
    clear h
    go_enter Try.func25, Try.ntmps25
    go_wp2_with fail
    refine (check_no A B ca cb xs ys _ (HT.out.alloc _) HO.out).mono ?_
    rintro e w1 ⟨rfl, hb⟩
    have hb2 : Below w.heap.size w w1 := ((Below.refl _ _).alloc (Nat.le_refl _) _).trans (hb.mono (by simp))
    go_wp2_with fail
    go_ret
    exact ⟨ret_int E.out.symm, hb2⟩
  | true =>
    have HO := Lib.hid h
    have hok := (Tb.ok_iff xs ys).1 h
    have E : Hid (Tb.pk xs ys = Tb.mx ys) := by show _ = _; simp [Tb.pk, h]
    have h2 : 0 < ys.length := by have := hok.two; have := hok.same; omega
    have H0 := Lib.hid (hok.yb 0 (by have := hok.two; omega)).1
    clear h hok
    go_enter Try.func25, Try.ntmps25
    go_wp2_with fail
    refine (check_ok A B ca cb xs ys _ (HT.out.alloc _) HO.out).mono ?_
    rintro e w1 ⟨rfl, hb⟩
    have hb2 : Below w.heap.size w w1 := ((Below.refl _ _).alloc (Nat.le_refl _) _).trans (hb.mono (by simp))
    have bx := (Lk.BoxV.new w 24 #[.slice A xs.length ca, .slice B ys.length cb]).below hb (by simp)
    have c1 := bx.cell 1
    simp only [List.getElem?_toArray, List.getElem?_cons_zero, List.getElem?_cons_succ] at c1
    have HB2 := Lib.hid hb2
    clear hb hb2 bx
    go_wp2_with fail
    refine (max_c B cb ys _ HT.out.yl h2 H0.out (HT.out.ya.below HB2.out)).mono ?_
    rintro e w2 ⟨rfl, rfl⟩
    go_wp2_with fail
    go_ret
    exact ⟨ret_int E.out.symm, HB2.out⟩

def AtPre (xs : List Int) (x : Int) (pre : List (Idx xs)) : Prop := ∀ k ∈ pre, Tb.g xs (k.1 + 1) ≤ x
def AtLast (xs ys : List Int) (x : Int) (pre : List (Idx xs)) (v : Int) : Prop := ∃ ini last, pre = ini ++ [last] ∧ AtPre xs x ini ∧ x < Tb.g xs (last.1 + 1) ∧ v = Tb.seg xs ys last.1 (max x (Tb.g xs last.1))
theorem AtPre.snoc {xs : List Int} {x : Int} {pre : List (Idx xs)} (h : AtPre xs x pre) {k : Idx xs} (hk : Tb.g xs (k.1 + 1) ≤ x) : AtPre xs x (pre ++ [k]) :=
  fun j hj => (List.mem_append.1 hj).elim (h j) (fun e => by rw [List.mem_singleton.1 e]; exact hk)
/-- All steps are behind. -/
theorem at_all {xs ys : List Int} {x : Int} (h2 : 2 ≤ xs.length) (h : AtPre xs x (ups xs (xs.length - 1))) : Tb.atO xs ys x = Tb.g ys (xs.length - 1) := by
  unfold Tb.atO
  rw [if_pos]
  exact Tb.loc_unique xs x (Nat.le_refl _) (fun j hj => h ⟨j, by omega⟩ ((mem_ups (by omega)).2 hj)) (fun hh => by omega)
theorem at_some {xs ys : List Int} {x v : Int} {k : Nat} (hk : k + 1 < xs.length) (h : AtLast xs ys x (ups xs (k + 1)) v) : Tb.atO xs ys x = v := by
  obtain ⟨ini, last, e, h1, h2, rfl⟩ := h
  rw [ups_succ hk] at e
  obtain ⟨rfl, e2⟩ := List.append_inj' e rfl
  obtain rfl : (⟨k, hk⟩ : Idx xs) = last := by simpa using e2
  have hl : Tb.loc xs x = k := Tb.loc_unique xs x (by omega) (fun j hj => h1 ⟨j, by omega⟩ ((mem_ups (by omega)).2 hj)) (fun _ => h2)
  unfold Tb.atO
  rw [hl, if_neg (by omega)]

end TabC
end Go.Proofs.Ytioiffhbbhlgeaa
