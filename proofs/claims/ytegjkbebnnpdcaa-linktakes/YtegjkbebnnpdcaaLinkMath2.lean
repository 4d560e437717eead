/- What follows of where packets stand. -/
import Derived.Test.YtegjkbebnnpdcaaLinkMath
import Derived.Test.YtegjkbebnnpdcaaCrcTurn
namespace Go.Proofs.Ytegjkbebnnpdcaa
namespace Ln

theorem sl_at {a b r : List Nat} (hb : b.length = 32) : sl (a ++ (b ++ r)) a.length = b := by
  unfold sl
  rw [List.drop_left, ← hb, List.take_left]
theorem getD_left {a b : List Nat} {j : Nat} (h : j < a.length) : (a ++ b).getD j 0 = a.getD j 0 := by
  simp [List.getElem?_append_left h]
theorem getD_mem {a : List Nat} {j : Nat} (h : j < a.length) : a.getD j 0 ∈ a := by
  have : a.getD j 0 = a[j] := by simp [h]
  rw [this]
  exact List.getElem_mem h
/-- A packet behind bytes of which none is D5. -/
theorem res_ahead {a r : List Nat} {p : Pk} (ha : ∀ v ∈ a, v ≠ 213) (hp : Ok p) : Res (a ++ (enc p ++ r)) p (a.length + 32) 0 := by
  have e := sl_at (a := a) (r := r) (enc_len p)
  have h := Res.hit (l := a ++ (enc p ++ r)) a.length (by simp [enc_len]) (by rw [e]; exact good_enc hp) (fun j hj => not_good (by rw [getD_left hj]; exact ha _ (getD_mem hj)))
  rw [e, rd_enc hp] at h
  exact h
theorem res_nil : Res [] zero 0 50 := .none 0 (fun j hj => by simp at hj) (by simp) (by simp) (fun j _ h => absurd h (Nat.not_lt_zero _)) (fun h => absurd h (Nat.not_lt_zero _))
theorem res_three : Res [7, 213, 1] zero 1 50 := by
  refine .none 1 (fun j hj => by simp at hj) (by simp) (by simp) (fun j _ h => ?_) (fun _ => rfl)
  have : j = 0 := by omega
  subst this
  decide
/-- Of a part of such bytes that ends ahead of the packet's end none is taken, and no byte of the packet is gone. -/
theorem res_part {a : List Nat} {p : Pk} {k n : Nat} {q : Pk} {x : Int} (ha : ∀ v ∈ a, v ≠ 213) (hk : k < a.length + 32) (h : Res ((a ++ enc p).take k) q n x) : x = 50 ∧ n ≤ k ∧ n ≤ a.length := by
  have hl : ((a ++ enc p).take k).length = k := by simp [enc_len]; omega
  cases h with
  | hit i hi hg hb =>
    exfalso
    have hj : i < a.length := by omega
    have hd := good_head hg
    rw [sl_getD (by decide), Nat.add_zero] at hd
    have e : ((a ++ enc p).take k).getD i 0 = a.getD i 0 := by
      have h1 : i < k := by omega
      simp [h1, List.getElem?_append_left hj]
    rw [e] at hd
    exact ha _ (getD_mem hj) hd
  | none n' hb hn h31 hd ht =>
    refine ⟨rfl, by omega, ?_⟩
    by_cases c : k ≤ a.length
    · omega
    · rcases Nat.lt_or_ge a.length n with g | g
      · exfalso
        refine hd a.length (by omega) g ?_
        obtain ⟨u, v, e⟩ := enc_eq p
        have h1 : a.length < k := by omega
        have : ((a ++ enc p).take k).getD a.length 0 = (enc p).getD 0 0 := by simp [h1, List.getElem?_append_right (Nat.le_refl a.length)]
        rw [this, e]
        rfl
      · exact g
/-- With two bytes side by side changed it is a packet's no more. -/
theorem good_turn {p : Pk} {i x y : Nat} (hi : i + 1 < 32) (hx : x < 256) (hy : y < 256) (hp : Ok p) :
    good (((enc p).set i ((enc p).getD i 0 ^^^ x)).set (i + 1) ((enc p).getD (i + 1) 0 ^^^ y)) = true ↔ x = 0 ∧ y = 0 := by
  have hl : i + 1 < (enc p).length := by rw [enc_len]; exact hi
  have hb := enc_bytes p
  constructor
  · intro h
    have t := Cr.turn2 (p := (enc p).take i) (u := (enc p).getD i 0) (v := (enc p).getD (i + 1) 0) (x := x) (y := y) (Crc.take_bytes hb i) (Crc.getD_byte hb (by omega)) (Crc.getD_byte hb hl) hx hy ((enc p).drop (i + 1 + 1)) (Crc.drop_bytes hb _)
    rw [← Crc.split2 hl, ← Crc.set_split2 hl] at t
    exact t.1 (by rw [good_sum h, enc_sum])
  · rintro ⟨rfl, rfl⟩
    rw [Nat.xor_zero, Nat.xor_zero, Crc.set_split2 hl, ← Crc.split2 hl]
    exact good_enc hp
end Ln
end Go.Proofs.Ytegjkbebnnpdcaa
