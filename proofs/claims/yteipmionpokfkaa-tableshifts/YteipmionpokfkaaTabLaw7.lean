/- The walk of TableShifts. -/
import Derived.Test.YteipmionpokfkaaTabShift
import Derived.Deep.RegionHeld3
namespace Go.Proofs.Yteipmionpokfkaa
namespace TabC
open Go.RowKit

set_option maxRecDepth 100000 in
set_option maxHeartbeats 8000000 in
theorem shifts_few (A B : Option Addr) (ca cb : Nat) (xs ys : List Int) (x more far : Int) (w : World) (hT : TabIn w A B xs ys) (hf : 40 < xs.length ∨ 40 < ys.length) :
    Calls Try.prog 9 #[.agg #[.slice A xs.length ca, .slice B ys.length cb], .int .i64 x, .int .u8 more, .int .u8 far] w fun e w' => e = .returned (.bool true) ∧ Below w.heap.size w w' := by
  have HH := Lib.hid (Held.new (ca := ca) (cb := cb) hT)
  clear hT
  go_enter Try.func9, Try.ntmps9
  go_wp2_with (first
      | (go_at_call 11; refine (awake_c _).mono ?_; rintro e w9 ⟨rfl, hb⟩; replace HH := Lib.hid (HH.out.below hb); replace c0 := HH.out.c0; replace c1 := HH.out.c1; clear hb)
      | (go_at_call 12; refine (few_no A B ca cb xs ys _ hf).mono ?_; rintro e w9 ⟨rfl, hb⟩; replace HH := Lib.hid (HH.out.below hb); replace c0 := HH.out.c0; replace c1 := HH.out.c1; clear hb)
      | (go_at_call 13; refine (check_ok A B ca cb xs ys _ HH.out.tab HO.out).mono ?_; rintro e w9 ⟨rfl, hb⟩; replace HH := Lib.hid (HH.out.below hb); replace c0 := HH.out.c0; replace c1 := HH.out.c1; clear hb))
  go_ret
  exact ⟨rfl, HH.out.old⟩

set_option maxRecDepth 100000 in
set_option maxHeartbeats 8000000 in
theorem shifts_no (A B : Option Addr) (ca cb : Nat) (xs ys : List Int) (x more far : Int) (w : World) (hT : TabIn w A B xs ys) (hf1 : xs.length ≤ 40) (hf2 : ys.length ≤ 40) (hO : Tb.okB xs ys = false) :
    Calls Try.prog 9 #[.agg #[.slice A xs.length ca, .slice B ys.length cb], .int .i64 x, .int .u8 more, .int .u8 far] w fun e w' => e = .returned (.bool true) ∧ Below w.heap.size w w' := by
  have HH := Lib.hid (Held.new (ca := ca) (cb := cb) hT)
  clear hT
  have HO := Lib.hid hO
  clear hO
  go_enter Try.func9, Try.ntmps9
  go_wp2_with (first
      | (go_at_call 11; refine (awake_c _).mono ?_; rintro e w9 ⟨rfl, hb⟩; replace HH := Lib.hid (HH.out.below hb); replace c0 := HH.out.c0; replace c1 := HH.out.c1; clear hb)
      | (go_at_call 12; refine (few_yes A B ca cb xs ys _ hf1 hf2).mono ?_; rintro e w9 ⟨rfl, hb⟩; replace HH := Lib.hid (HH.out.below hb); replace c0 := HH.out.c0; replace c1 := HH.out.c1; clear hb)
      | (go_at_call 13; refine (check_no A B ca cb xs ys _ HH.out.tab HO.out).mono ?_; rintro e w9 ⟨rfl, hb⟩; replace HH := Lib.hid (HH.out.below hb); replace c0 := HH.out.c0; replace c1 := HH.out.c1; clear hb))
  go_ret
  exact ⟨rfl, HH.out.old⟩

set_option maxRecDepth 100000 in
set_option maxHeartbeats 8000000 in
theorem shifts_out (A B : Option Addr) (ca cb : Nat) (xs ys : List Int) (x more far : Int) (w : World) (hT : TabIn w A B xs ys) (hf1 : xs.length ≤ 40) (hf2 : ys.length ≤ 40) (hO : Tb.okB xs ys = true) (hx : 1099511627776 < x ∨ x < -1099511627776) :
    Calls Try.prog 9 #[.agg #[.slice A xs.length ca, .slice B ys.length cb], .int .i64 x, .int .u8 more, .int .u8 far] w fun e w' => e = .returned (.bool true) ∧ Below w.heap.size w w' := by
  have HH := Lib.hid (Held.new (ca := ca) (cb := cb) hT)
  clear hT
  have HO := Lib.hid hO
  clear hO
  by_cases h1 : 1099511627776 < x
  · clear hx
    go_enter Try.func9, Try.ntmps9
    go_wp2_with (first
      | (go_at_call 11; refine (awake_c _).mono ?_; rintro e w9 ⟨rfl, hb⟩; replace HH := Lib.hid (HH.out.below hb); replace c0 := HH.out.c0; replace c1 := HH.out.c1; clear hb)
      | (go_at_call 12; refine (few_yes A B ca cb xs ys _ hf1 hf2).mono ?_; rintro e w9 ⟨rfl, hb⟩; replace HH := Lib.hid (HH.out.below hb); replace c0 := HH.out.c0; replace c1 := HH.out.c1; clear hb)
      | (go_at_call 13; refine (check_ok A B ca cb xs ys _ HH.out.tab HO.out).mono ?_; rintro e w9 ⟨rfl, hb⟩; replace HH := Lib.hid (HH.out.below hb); replace c0 := HH.out.c0; replace c1 := HH.out.c1; clear hb))
    go_ret
    exact ⟨rfl, HH.out.old⟩
  · have h3 : x < -1099511627776 := by omega
    clear hx
    go_enter Try.func9, Try.ntmps9
    go_wp2_with (first
      | (go_at_call 11; refine (awake_c _).mono ?_; rintro e w9 ⟨rfl, hb⟩; replace HH := Lib.hid (HH.out.below hb); replace c0 := HH.out.c0; replace c1 := HH.out.c1; clear hb)
      | (go_at_call 12; refine (few_yes A B ca cb xs ys _ hf1 hf2).mono ?_; rintro e w9 ⟨rfl, hb⟩; replace HH := Lib.hid (HH.out.below hb); replace c0 := HH.out.c0; replace c1 := HH.out.c1; clear hb)
      | (go_at_call 13; refine (check_ok A B ca cb xs ys _ HH.out.tab HO.out).mono ?_; rintro e w9 ⟨rfl, hb⟩; replace HH := Lib.hid (HH.out.below hb); replace c0 := HH.out.c0; replace c1 := HH.out.c1; clear hb))
    go_ret
    exact ⟨rfl, HH.out.old⟩

/-- The table that came in, and the one that was made. -/
structure Two (n m : Nat) (A B : Option Addr) (ca cb : Nat) (xs ys : List Int) (w : World) (G G' : Option Addr) (c c' : Nat) (us ws : List Int) (W : World) : Prop where
  one : Held n A B ca cb xs ys w W
  tab : TabIn W G G' us ws
  box : Lk.BoxV W m 25 #[.slice G us.length c, .slice G' ws.length c']
theorem Two.below {n m : Nat} {A B : Option Addr} {ca cb : Nat} {xs ys : List Int} {w : World} {G G' : Option Addr} {c c' : Nat} {us ws : List Int} {W W' : World} (h : Two n m A B ca cb xs ys w G G' c c' us ws W) (hb : Below W.heap.size W W') : Two n m A B ca cb xs ys w G G' c c' us ws W' :=
  ⟨h.one.below hb, h.tab.below hb, h.box.below hb h.box.lt⟩
theorem Two.keep {n m : Nat} {A B : Option Addr} {ca cb : Nat} {xs ys : List Int} {w : World} {G G' : Option Addr} {c c' : Nat} {us ws : List Int} {W : World} (h : Two n m A B ca cb xs ys w G G' c c' us ws W) :
    Two n m A B ca cb xs ys w G G' c c' us ws W ∧ W.cell? ⟨n, 0, none⟩ = some (.slice A xs.length ca) ∧ W.cell? ⟨n, 1, none⟩ = some (.slice B ys.length cb) ∧ W.cell? ⟨m, 0, none⟩ = some (.slice G us.length c) ∧ W.cell? ⟨m, 1, none⟩ = some (.slice G' ws.length c') :=
  ⟨h, h.one.c0, h.one.c1, by rw [h.box.cell]; rfl, by rw [h.box.cell]; rfl⟩

set_option maxRecDepth 100000 in
set_option maxHeartbeats 8000000 in
theorem shifts_ok (b1 o1 b3 o3 ca cb : Nat) (xs ys : List Int) (x more far : Int) (w : World) (hT : TabIn w (some ⟨b1, o1, none⟩) (some ⟨b3, o3, none⟩) xs ys) (hO : Tb.okB xs ys = true) (L : Lies w (some ⟨b1, o1, none⟩) (some ⟨b3, o3, none⟩) xs ys b1 o1 b3 o3) (hx1 : ¬ 1099511627776 < x) (hx2 : ¬ x < -1099511627776) (hm0 : 0 ≤ more) (hm1 : more ≤ 255) (hf0 : 0 ≤ far) (hf3 : far ≤ 255) :
    Calls Try.prog 9 #[.agg #[.slice (some ⟨b1, o1, none⟩) xs.length ca, .slice (some ⟨b3, o3, none⟩) ys.length cb], .int .i64 x, .int .u8 more, .int .u8 far] w fun e w' => e = .returned (.bool true) ∧ Below w.heap.size w w' := by
  have HT := Lib.hid hT
  have HH := Lib.hid (Held.new (ca := ca) (cb := cb) hT)
  have HO := Lib.hid hO
  have HK := Lib.hid ((Tb.ok_iff xs ys).1 hO)
  have h2 := HK.out.two
  have h16 := HK.out.most
  have HSM := Lib.hid HK.out.same
  have hf1 : xs.length ≤ 40 := by omega
  have hf2 : ys.length ≤ 40 := by rw [HSM.out]; omega
  have HL := Lib.hid L
  obtain ⟨i0, hi, hz0, hz1, hz2⟩ := info_parts info_int
  have v3 : IntKind.i64.wrap more = more := IntWalk.i64_in _ (by omega)
  have v4 : IntKind.i64.wrap far = far := IntWalk.i64_in _ (by omega)
  have HI := Lib.hid hi
  clear hT hO L hi
  go_enter Try.func9, Try.ntmps9
  go_wp2_with (first
      | (go_at_call 11; refine (awake_c _).mono ?_; rintro e w9 ⟨rfl, hb⟩; replace HH := Lib.hid (HH.out.below hb); replace c0 := HH.out.c0; replace c1 := HH.out.c1; clear hb)
      | (go_at_call 12; refine (few_yes _ _ ca cb xs ys _ hf1 hf2).mono ?_; rintro e w9 ⟨rfl, hb⟩; replace HH := Lib.hid (HH.out.below hb); replace c0 := HH.out.c0; replace c1 := HH.out.c1; clear hb)
      | (go_at_call 13; refine (check_ok _ _ ca cb xs ys _ HH.out.tab HO.out).mono ?_; rintro e w9 ⟨rfl, hb⟩; replace HH := Lib.hid (HH.out.below hb); replace c0 := HH.out.c0; replace c1 := HH.out.c1; clear hb))
  have hsh := Sh.new w9
  have hm2 := HH.out.box.lt
  replace HH := Lib.hid (HH.out.alloc (.cells #[.slice none 0 0, .slice none 0 0] 25))
  clear c0 c1
  generalize hW : w9.alloc (.cells #[.slice none 0 0, .slice none 0 0] 25) = W0 at hsh HH ⊢
  clear hW
  generalize w9.heap.size = m at hsh hm2 ⊢
  go_loopw [11] (fun i wr => ∃ (k : Nat) (vX vY : Value), k ≤ xs.length ∧ i = .int .i64 k ∧ Held w.heap.size (some ⟨b1, o1, none⟩) (some ⟨b3, o3, none⟩) ca cb xs ys w wr ∧ Sh m wr vX vY (Tb.sh (xs.take k) far) (Tb.sh (ys.take k) more)) (fun i _ => xs.length - (intOf i).toNat)
  case atStart => exact ⟨0, _, _, Nat.zero_le _, rfl, HH.out, hsh⟩
  case round =>
    clear HH hsh
    obtain ⟨k, vX, vY, hk, rfl, hh, hsh⟩ := hrel
    have HH := Lib.hid hh
    have c0 := HH.out.c0
    have c1 := HH.out.c1
    have SS := Lib.hid hsh
    clear hh hsh
    by_cases hlt : k < xs.length
    · have hlt2 : k < ys.length := by rw [HSM.out]; exact hlt
      have ex := Lib.hid (Tb.sh_take xs far k hlt)
      have ey := Lib.hid (Tb.sh_take ys more k hlt2)
      have xb := HK.out.xb k hlt
      have yb := HK.out.yb k hlt
      have lx := HL.out.xc k hlt
      have ly := HL.out.yc k hlt
      have kx : (Tb.sh (xs.take k) far).length = k := by rw [Tb.sh_length, List.length_take]; omega
      have ky : (Tb.sh (ys.take k) more).length = k := by rw [Tb.sh_length, List.length_take]; omega
      have KX := Lib.hid kx
      have KY := Lib.hid ky
      generalize Tb.g xs k = V at lx ex xb
      generalize Tb.g ys k = U at ly ey yb
      have LX := Lib.hid lx
      have LY := Lib.hid ly
      clear kx ky lx ly
      have v1 : IntKind.i64.wrap (V + far) = V + far := IntWalk.i64_in _ (by omega)
      have v2 : IntKind.i64.wrap (U + more) = U + more := IntWalk.i64_in _ (by omega)
      have s0 := SS.out.c0
      have cv := HH.out.cell LX.out
      go_wp2_with fail
      refine wp_region_noPanic (Lk.wp_region_ord 10 (fun W' => W'.cell? ⟨m, 0, none⟩ = some vX ∧ W'.cell? ⟨w.heap.size, 0, none⟩ = some (.slice (some ⟨b1, o1, none⟩) xs.length ca) ∧ W'.cell? ⟨b1, o1 + k, none⟩ = some (.int .i64 V)) (by kernel_rfl) (by kernel_rfl) (fun _ _ _ _ _ h => h) ⟨s0, c0, cv⟩ ?_)
      simp only [List.take_succ_cons, List.take_zero, List.drop_succ_cons, List.drop_zero]
      refine Lk.wpHeldQ_step (.pointer (some ⟨m, 0, none⟩)) rfl (fun w' hS => by obtain ⟨h0, h1, h2⟩ := hS; go_simp) ?_
      simp only [Act.put, List.setIfInBounds_toArray, List.set_cons_succ, List.set_cons_zero]
      refine Lk.wpHeldQ_step (vX) rfl (fun w' hS => by obtain ⟨h0, h1, h2⟩ := hS; go_simp) ?_
      simp only [Act.put, List.setIfInBounds_toArray, List.set_cons_succ, List.set_cons_zero]
      refine Lk.wpHeldQ_step (.pointer (some ⟨w.heap.size, 0, none⟩)) rfl (fun w' hS => by obtain ⟨h0, h1, h2⟩ := hS; go_simp) ?_
      simp only [Act.put, List.setIfInBounds_toArray, List.set_cons_succ, List.set_cons_zero]
      refine Lk.wpHeldQ_step (.slice (some ⟨b1, o1, none⟩) xs.length ca) rfl (fun w' hS => by obtain ⟨h0, h1, h2⟩ := hS; go_simp) ?_
      simp only [Act.put, List.setIfInBounds_toArray, List.set_cons_succ, List.set_cons_zero]
      refine Lk.wpHeldQ_step (.int .i64 k) rfl (fun w' hS => by obtain ⟨h0, h1, h2⟩ := hS; go_simp) ?_
      simp only [Act.put, List.setIfInBounds_toArray, List.set_cons_succ, List.set_cons_zero]
      refine Lk.wpHeldQ_step (.pointer (some ⟨b1, o1 + k, none⟩)) rfl (fun w' hS => by obtain ⟨h0, h1, h2⟩ := hS; go_simp) ?_
      simp only [Act.put, List.setIfInBounds_toArray, List.set_cons_succ, List.set_cons_zero]
      refine Lk.wpHeldQ_step (.int .i64 V) rfl (fun w' hS => by obtain ⟨h0, h1, h2⟩ := hS; go_simp) ?_
      simp only [Act.put, List.setIfInBounds_toArray, List.set_cons_succ, List.set_cons_zero]
      refine Lk.wpHeldQ_step (.int .u8 far) rfl (fun w' hS => by obtain ⟨h0, h1, h2⟩ := hS; go_simp) ?_
      simp only [Act.put, List.setIfInBounds_toArray, List.set_cons_succ, List.set_cons_zero]
      refine Lk.wpHeldQ_step (.int .i64 far) rfl (fun w' hS => by obtain ⟨h0, h1, h2⟩ := hS; go_simp) ?_
      simp only [Act.put, List.setIfInBounds_toArray, List.set_cons_succ, List.set_cons_zero]
      refine Lk.wpHeldQ_step (.int .i64 (V + far)) rfl (fun w' hS => by obtain ⟨h0, h1, h2⟩ := hS; go_simp) ?_
      simp only [Act.put, List.setIfInBounds_toArray, List.set_cons_succ, List.set_cons_zero]
      show Lk.wpSeqQ _ _ _ _ _ _ _
      refine Lk.wpSeqQ_step rfl (fun K hK => ?_)
      have HKK := Lib.hid hK
      clear hK
      go_simp
      have b0 := SS.out.box.alloc (.cells #[.int .i64 (V + far)] 3)
      have bv := Lk.BoxV.new wr 3 #[.int .i64 (V + far)]
      have hh1 := HH.out.alloc (.cells #[.int .i64 (V + far)] 3)
      refine HKK.out _ _ (.inr ⟨by rw [b0.drew.cell]; rfl, hh1.drew.c0, hh1.drew.cell LX.out⟩) ?_
      clear HKK K
      refine Lk.wpSeqQ_step rfl (fun K hK => ?_)
      have HKK := Lib.hid hK
      clear hK
      refine wp_append_lies _ (.tmp 39) (.tmp 48) 23 rfl (m + 1) 3 i0 (.int .i64 0) 1 8 Try.underlying23 HI.out hz0 hz1 hz2 rfl (by decide) vX _ (vs (Tb.sh (xs.take k) far)) rfl ((SS.out.rx.alloc _).drew) ⟨wr.heap.size, 0, none⟩ 1 1 [.int .i64 (V + far)] rfl rfl (World.news_of_block bv) (by simp [Value.oneCell']) (by decide) (by rw [KX.out]; unfold maxLen; omega) (by rw [KX.out]; omega) (by have := SS.out.box.lt; simp; omega) (wr.heap.size + 1) (by simp) ?_
      intro g cap w1 hown hgrow hat hlt9
      have hne : some m ≠ vX.ownBlock := fun e => by have := (SS.out.rx.lt m e.symm).1; omega
      have b2 := box_grown SS.out.box hgrow hne
      have hsz := SS.out.box.lt
      have hbw : Below m wr w1 := (((Below.refl m wr).alloc (by omega) _).drew).grown hgrow (by simp; omega) (fun q e => by have := (SS.out.rx.lt q e).1; omega)
      have hh2 := held_mk HT.out HH.out hbw hm2 (Nat.le_of_lt hm2)
      have p0 := b2.cell 0
      simp only [List.getElem?_toArray, List.getElem?_cons_zero] at p0
      have p1 := b2.frozen 0
      refine HKK.out _ _ (.inr ⟨p0, hh2.c0, hh2.cell LX.out⟩) ?_
      clear HKK K
      simp only [Act.put, List.setIfInBounds_toArray, List.set_cons_succ, List.set_cons_zero]
      refine Lk.wpSeqQ_step rfl (fun K hK => ?_)
      have HKK := Lib.hid hK
      clear hK
      go_simp
      refine HKK.out _ _ (.inr ⟨p0, hh2.c0, hh2.cell LX.out⟩) ?_
      clear HKK K
      refine Lk.wpSeqQ_step rfl (fun K hK => ?_)
      have HKK := Lib.hid hK
      clear hK
      go_simp
      refine HKK.out _ _ (.inl rfl) ?_
      clear HKK K
      refine Lk.wpSeqQ_nil (NoPanic.normal ?_)
      obtain ⟨ss, hbm⟩ := SS.out.addX hown hgrow hat
      generalize w1.setCell ⟨m, 0, none⟩ (.slice (some ⟨g, 0, none⟩) ((Tb.sh (xs.take k) far).length + 1) cap) = wz at ss hbm ⊢
      replace HH := Lib.hid (held_mk HT.out HH.out hbm hm2 (Nat.le_of_lt hm2))
      replace SS := Lib.hid ss
      clear ss hbm hown hgrow hat hlt9 hne b2 hsz hbw hh2 p0 p1 b0 bv hh1 c0 c1 s0 cv
      replace c0 := HH.out.c0
      replace c1 := HH.out.c1
      have s1 := SS.out.c1
      have cv := HH.out.cell LY.out
      go_wp2_with fail
      refine wp_region_noPanic (Lk.wp_region_ord 10 (fun W' => W'.cell? ⟨m, 1, none⟩ = some vY ∧ W'.cell? ⟨w.heap.size, 1, none⟩ = some (.slice (some ⟨b3, o3, none⟩) ys.length cb) ∧ W'.cell? ⟨b3, o3 + k, none⟩ = some (.int .i64 U)) (by kernel_rfl) (by kernel_rfl) (fun _ _ _ _ _ h => h) ⟨s1, c1, cv⟩ ?_)
      simp only [List.take_succ_cons, List.take_zero, List.drop_succ_cons, List.drop_zero]
      refine Lk.wpHeldQ_step (.pointer (some ⟨m, 1, none⟩)) rfl (fun w' hS => by obtain ⟨h0, h1, h2⟩ := hS; go_simp) ?_
      simp only [Act.put, List.setIfInBounds_toArray, List.set_cons_succ, List.set_cons_zero]
      refine Lk.wpHeldQ_step (vY) rfl (fun w' hS => by obtain ⟨h0, h1, h2⟩ := hS; go_simp) ?_
      simp only [Act.put, List.setIfInBounds_toArray, List.set_cons_succ, List.set_cons_zero]
      refine Lk.wpHeldQ_step (.pointer (some ⟨w.heap.size, 1, none⟩)) rfl (fun w' hS => by obtain ⟨h0, h1, h2⟩ := hS; go_simp) ?_
      simp only [Act.put, List.setIfInBounds_toArray, List.set_cons_succ, List.set_cons_zero]
      refine Lk.wpHeldQ_step (.slice (some ⟨b3, o3, none⟩) ys.length cb) rfl (fun w' hS => by obtain ⟨h0, h1, h2⟩ := hS; go_simp) ?_
      simp only [Act.put, List.setIfInBounds_toArray, List.set_cons_succ, List.set_cons_zero]
      refine Lk.wpHeldQ_step (.int .i64 k) rfl (fun w' hS => by obtain ⟨h0, h1, h2⟩ := hS; go_simp) ?_
      simp only [Act.put, List.setIfInBounds_toArray, List.set_cons_succ, List.set_cons_zero]
      refine Lk.wpHeldQ_step (.pointer (some ⟨b3, o3 + k, none⟩)) rfl (fun w' hS => by obtain ⟨h0, h1, h2⟩ := hS; go_simp) ?_
      simp only [Act.put, List.setIfInBounds_toArray, List.set_cons_succ, List.set_cons_zero]
      refine Lk.wpHeldQ_step (.int .i64 U) rfl (fun w' hS => by obtain ⟨h0, h1, h2⟩ := hS; go_simp) ?_
      simp only [Act.put, List.setIfInBounds_toArray, List.set_cons_succ, List.set_cons_zero]
      refine Lk.wpHeldQ_step (.int .u8 more) rfl (fun w' hS => by obtain ⟨h0, h1, h2⟩ := hS; go_simp) ?_
      simp only [Act.put, List.setIfInBounds_toArray, List.set_cons_succ, List.set_cons_zero]
      refine Lk.wpHeldQ_step (.int .i64 more) rfl (fun w' hS => by obtain ⟨h0, h1, h2⟩ := hS; go_simp) ?_
      simp only [Act.put, List.setIfInBounds_toArray, List.set_cons_succ, List.set_cons_zero]
      refine Lk.wpHeldQ_step (.int .i64 (U + more)) rfl (fun w' hS => by obtain ⟨h0, h1, h2⟩ := hS; go_simp) ?_
      simp only [Act.put, List.setIfInBounds_toArray, List.set_cons_succ, List.set_cons_zero]
      show Lk.wpSeqQ _ _ _ _ _ _ _
      refine Lk.wpSeqQ_step rfl (fun K hK => ?_)
      have HKK := Lib.hid hK
      clear hK
      go_simp
      have b0 := SS.out.box.alloc (.cells #[.int .i64 (U + more)] 3)
      have bv := Lk.BoxV.new wz 3 #[.int .i64 (U + more)]
      have hh1 := HH.out.alloc (.cells #[.int .i64 (U + more)] 3)
      refine HKK.out _ _ (.inr ⟨by rw [b0.drew.cell]; rfl, hh1.drew.c1, hh1.drew.cell LY.out⟩) ?_
      clear HKK K
      refine Lk.wpSeqQ_step rfl (fun K hK => ?_)
      have HKK := Lib.hid hK
      clear hK
      refine wp_append_lies _ (.tmp 52) (.tmp 61) 23 rfl (m + 1) 3 i0 (.int .i64 0) 1 8 Try.underlying23 HI.out hz0 hz1 hz2 rfl (by decide) vY _ (vs (Tb.sh (ys.take k) more)) rfl ((SS.out.ry.alloc _).drew) ⟨wz.heap.size, 0, none⟩ 1 1 [.int .i64 (U + more)] rfl rfl (World.news_of_block bv) (by simp [Value.oneCell']) (by decide) (by rw [KY.out]; unfold maxLen; omega) (by rw [KY.out]; omega) (by have := SS.out.box.lt; simp; omega) (wz.heap.size + 1) (by simp) ?_
      intro g cap w1 hown hgrow hat hlt9
      have hne : some m ≠ vY.ownBlock := fun e => by have := (SS.out.ry.lt m e.symm).1; omega
      have b2 := box_grown SS.out.box hgrow hne
      have hsz := SS.out.box.lt
      have hbw : Below m wz w1 := (((Below.refl m wz).alloc (by omega) _).drew).grown hgrow (by simp; omega) (fun q e => by have := (SS.out.ry.lt q e).1; omega)
      have hh2 := held_mk HT.out HH.out hbw hm2 (Nat.le_of_lt hm2)
      have p0 := b2.cell 1
      simp only [List.getElem?_toArray, List.getElem?_cons_zero, List.getElem?_cons_succ] at p0
      have p1 := b2.frozen 1
      refine HKK.out _ _ (.inr ⟨p0, hh2.c1, hh2.cell LY.out⟩) ?_
      clear HKK K
      simp only [Act.put, List.setIfInBounds_toArray, List.set_cons_succ, List.set_cons_zero]
      refine Lk.wpSeqQ_step rfl (fun K hK => ?_)
      have HKK := Lib.hid hK
      clear hK
      go_simp
      refine HKK.out _ _ (.inr ⟨p0, hh2.c1, hh2.cell LY.out⟩) ?_
      clear HKK K
      refine Lk.wpSeqQ_step rfl (fun K hK => ?_)
      have HKK := Lib.hid hK
      clear hK
      go_simp
      refine HKK.out _ _ (.inl rfl) ?_
      clear HKK K
      refine Lk.wpSeqQ_nil (NoPanic.normal ?_)
      obtain ⟨ss, hbm⟩ := SS.out.addY hown hgrow hat
      generalize w1.setCell ⟨m, 1, none⟩ (.slice (some ⟨g, 0, none⟩) ((Tb.sh (ys.take k) more).length + 1) cap) = wy at ss hbm ⊢
      replace HH := Lib.hid (held_mk HT.out HH.out hbm hm2 (Nat.le_of_lt hm2))
      replace SS := Lib.hid ss
      clear ss hbm hown hgrow hat hlt9 hne b2 hsz hbw hh2 p0 p1 b0 bv hh1 c0 c1 s1 cv
      replace c0 := HH.out.c0
      replace c1 := HH.out.c1
      go_wp2_with fail
      go_roundw
      case rel => exact ⟨k + 1, _, _, by omega, by go_num, HH.out, by rw [ex.out, ey.out]; exact SS.out⟩
      case measure => simp [intOf]; omega
    · obtain rfl : k = xs.length := by omega
      have ss := SS.out
      rw [List.take_of_length_le (Nat.le_refl _), List.take_of_length_le (show ys.length ≤ xs.length by rw [HSM.out]; exact Nat.le_refl _)] at ss
      obtain ⟨g, c, g', c', rfl, rfl, hT2⟩ := ss.tab (n := xs.length) (Tb.sh_length _ _) (by rw [Tb.sh_length]; exact HSM.out) (by omega) (by omega)
      have tw : Two w.heap.size m (some ⟨b1, o1, none⟩) (some ⟨b3, o3, none⟩) ca cb xs ys w (some ⟨g, 0, none⟩) (some ⟨g', 0, none⟩) c c' (Tb.sh xs far) (Tb.sh ys more) wr := ⟨HH.out, hT2, ss.box⟩
      have TW := Lib.hid tw
      obtain ⟨_, _, _, s0, s1⟩ := TW.out.keep
      clear SS ss hT2 tw
      have hlt9 : ¬ xs.length < xs.length := by omega
      go_wp2_with fail
      cases hO2 : Tb.okB (Tb.sh xs far) (Tb.sh ys more) with
      | false =>
        refine (check_no (some ⟨g, 0, none⟩) (some ⟨g', 0, none⟩) c c' _ _ _ TW.out.tab hO2).mono ?_
        rintro e w8 ⟨rfl, hb⟩
        replace TW := Lib.hid (TW.out.below hb)
        clear hb s0 s1 c0 c1 HH hO2
        go_wp2_with fail
        go_ret
        exact ⟨rfl, TW.out.one.old⟩
      | true =>
        refine (check_ok (some ⟨g, 0, none⟩) (some ⟨g', 0, none⟩) c c' _ _ _ TW.out.tab hO2).mono ?_
        rintro e w8 ⟨rfl, hb⟩
        have hok2 := (Tb.ok_iff _ _).1 hO2
        have q1 : (Tb.atv (Tb.sh xs far) (Tb.sh ys more) (x + far) == Tb.atv xs ys x + more) = true := by rw [atv_ok hO2, atv_ok HO.out, Tb.at_sh HK.out hok2]; simp
        have q2 : (Tb.pk (Tb.sh xs far) (Tb.sh ys more) == Tb.pk xs ys + more) = true := by rw [pk_ok hO2, pk_ok HO.out, Tb.mx_sh HK.out hok2]; simp
        have q3 : (Tb.st (Tb.sh xs far) (Tb.sh ys more) == Tb.st xs ys) = true := by rw [st_ok hO2, st_ok HO.out, Tb.sh_length, Tb.stU_sh far more HSM.out _ (by omega)]; simp
        have bd := Tb.at_bd HK.out x
        rw [← atv_ok HO.out] at bd
        have bp := Tb.mx_bd HK.out
        rw [← pk_ok HO.out] at bp
        have v5 : IntKind.i64.wrap (x + far) = x + far := IntWalk.i64_in _ (by omega)
        have v6 : IntKind.i64.wrap (Tb.atv xs ys x + more) = Tb.atv xs ys x + more := IntWalk.i64_in _ (by omega)
        have v7 : IntKind.i64.wrap (Tb.pk xs ys + more) = Tb.pk xs ys + more := IntWalk.i64_in _ (by omega)
        replace TW := Lib.hid (TW.out.below hb)
        clear hb s0 s1 c0 c1 HH hok2 hO2 bd bp
        obtain ⟨_, c0, c1, s0, s1⟩ := TW.out.keep
        go_wp2_with fail
        go_region_held3 (fun W => Two w.heap.size m (some ⟨b1, o1, none⟩) (some ⟨b3, o3, none⟩) ca cb xs ys w (some ⟨g, 0, none⟩) (some ⟨g', 0, none⟩) c c' (Tb.sh xs far) (Tb.sh ys more) W ∧ W.cell? ⟨w.heap.size, 0, none⟩ = some (.slice (some ⟨b1, o1, none⟩) xs.length ca) ∧ W.cell? ⟨w.heap.size, 1, none⟩ = some (.slice (some ⟨b3, o3, none⟩) ys.length cb) ∧ W.cell? ⟨m, 0, none⟩ = some (.slice (some ⟨g, 0, none⟩) (Tb.sh xs far).length c) ∧ W.cell? ⟨m, 1, none⟩ = some (.slice (some ⟨g', 0, none⟩) (Tb.sh ys more).length c'))
          (first | exact Two.keep TW.out | exact Two.keep (TW.out.below (Below.refl _ _).drew) | exact Two.keep (Two.below (And.left (by assumption)) (by assumption)) | go_keep)
          (first
          | (go_at_call 17; ((with_reducible refine (atv_c (some ⟨g, 0, none⟩) (some ⟨g', 0, none⟩) c c' _ _ _ _ (Two.tab (And.left (by assumption)))).mono ?_)); rintro e w8 ⟨rfl, hb⟩)
          | (go_at_call 17; ((with_reducible refine (atv_c (some ⟨b1, o1, none⟩) (some ⟨b3, o3, none⟩) ca cb xs ys _ _ (Held.tab (Two.one (And.left (by assumption))))).mono ?_)); rintro e w8 ⟨rfl, hb⟩)
          | (go_at_call 19; ((with_reducible refine (peak_c (some ⟨g, 0, none⟩) (some ⟨g', 0, none⟩) c c' _ _ _ (Two.tab (And.left (by assumption)))).mono ?_)); rintro e w8 ⟨rfl, hb⟩)
          | (go_at_call 19; ((with_reducible refine (peak_c (some ⟨b1, o1, none⟩) (some ⟨b3, o3, none⟩) ca cb xs ys _ (Held.tab (Two.one (And.left (by assumption))))).mono ?_)); rintro e w8 ⟨rfl, hb⟩)
          | (go_at_call 21; ((with_reducible refine (st_c (some ⟨g, 0, none⟩) (some ⟨g', 0, none⟩) c c' _ _ _ (Two.tab (And.left (by assumption)))).mono ?_)); rintro e w8 ⟨rfl, hb⟩)
          | (go_at_call 21; ((with_reducible refine (st_c (some ⟨b1, o1, none⟩) (some ⟨b3, o3, none⟩) ca cb xs ys _ (Held.tab (Two.one (And.left (by assumption))))).mono ?_)); rintro e w8 ⟨rfl, hb⟩))
        all_goals
          have hk8 : Two w.heap.size m (some ⟨b1, o1, none⟩) (some ⟨b3, o3, none⟩) ca cb xs ys w (some ⟨g, 0, none⟩) (some ⟨g', 0, none⟩) c c' (Tb.sh xs far) (Tb.sh ys more) w8 := And.left (by assumption)
          go_wp2_with fail
          go_ret
          exact ⟨rfl, hk8.one.old⟩

theorem TableShifts_walk (A B : Option Addr) (ca cb : Nat) (xs ys : List Int) (x more far : Int) (hmw : (Lit.int .u8 more).wf = true) (hfw : (Lit.int .u8 far).wf = true) (w : World) (hT : TabIn w A B xs ys) :
    Calls Try.prog 9 #[.agg #[.slice A xs.length ca, .slice B ys.length cb], .int .i64 x, .int .u8 more, .int .u8 far] w fun e w' => e = .returned (.bool true) ∧ Below w.heap.size w w' := by
  have hm := bounds_u8 hmw
  have hr := bounds_u8 hfw
  by_cases hf : 40 < xs.length ∨ 40 < ys.length
  · exact shifts_few A B ca cb xs ys x more far w hT hf
  · have hf1 : xs.length ≤ 40 := by omega
    have hf2 : ys.length ≤ 40 := by omega
    cases hO : Tb.okB xs ys with
    | false => exact shifts_no A B ca cb xs ys x more far w hT hf1 hf2 hO
    | true =>
      by_cases hx : 1099511627776 < x ∨ x < -1099511627776
      · exact shifts_out A B ca cb xs ys x more far w hT hf1 hf2 hO hx
      · obtain ⟨b1, o1, b3, o3, L⟩ := lies_of hT ((Tb.ok_iff xs ys).1 hO)
        obtain rfl := L.ea
        obtain rfl := L.eb
        exact shifts_ok b1 o1 b3 o3 ca cb xs ys x more far w hT hO L (by omega) (by omega) hm.1 hm.2 hr.1 hr.2

end TabC
end Go.Proofs.Yteipmionpokfkaa
