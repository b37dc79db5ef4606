/-
  Contracts of the document's answer: so often multiplied (Twice) or divided (Half) by 2.
-/
import Derived.Test.YtdojbknkaoiioaaRefE
namespace Go.Proofs.Ytdojbknkaoiioaa
open Go.RowKit
set_option linter.unusedVariables false
set_option linter.unusedSimpArgs false

theorem rhalf_val (xs : List Int) (hd : Dg D16 xs) (q r : Nat) : val D16 (xs.drop q) / 2 ^ r = val D16 xs / 2 ^ (16 * q + r) := by
  have hp : (0 : Int) < D16 ^ q := Int.pow_pos D16_pos
  rw [val_drop D16_pos xs hd, Int.pow_add, Int.pow_mul]
  have e : D16 = 2 ^ 16 := rfl
  rw [e] at hp ⊢
  rw [Int.ediv_ediv_of_nonneg (by omega)]
theorem NumIn.drop {k : IntKind} {B : Int} {w : World} {b off len cap : Nat} {xs : List Int} (h : NumIn k B w (some ⟨b, off, none⟩) len cap xs) (q : Nat) (hq : q ≤ len) : NumIn k B w (some ⟨b, off + q, none⟩) (len - q) (cap - q) (xs.drop q) := by
  have hl := h.len
  refine ⟨⟨by simp [hl], ?_⟩, by have := h.lc; omega, by have := h.cm; omega, (fun h => by cases h), h.dg.drop q, by have := h.sm; omega⟩
  by_cases h0 : len - q = 0
  · exact .inl h0
  · right
    obtain ⟨b', off', e, hlt, hc⟩ := h.lies.at (by omega)
    injection e with e
    injection e with e1 e2
    subst e1 e2
    refine ⟨b, off + q, rfl, hlt, fun i hi => ?_⟩
    rw [getD_drop, Nat.add_assoc]
    exact hc (q + i) (by omega)
theorem pow2_16 (r : Nat) (hr : r < 16) : (1 : Int) ≤ 2 ^ r ∧ (2 : Int) ^ r ≤ 32768 := by
  have h : ∀ r : Fin 16, (1 : Int) ≤ 2 ^ r.val ∧ (2 : Int) ^ r.val ≤ 32768 := by decide
  exact h ⟨r, hr⟩


set_option maxHeartbeats 1000000 in
/-- the document's Half. -/
theorem rHalf_any (ao : Option Addr) (la ca : Nat) (xs : List Int) (q r : Nat) (t : Int) (w : World) (h : NumIn .i64 D16 w ao la ca xs) (ht : t = 16 * q + r) (hr : r < 16) (hla : la ≤ 1000) (htb : t < 4294967296) :
    Calls Try.prog 35 #[.slice ao la ca, .int .i64 t] w fun e w' => ∃ v, e = .returned v ∧ NumOut .i64 D16 w w' v (val D16 xs / 2 ^ (16 * q + r)) la := by
  have hl := h.len
  have ht0 : 0 ≤ t := by omega
  have hqq : t / 16 = (q : Int) := by omega
  have hrr : t % 16 = (r : Int) := by omega
  have hqb : q < 268435456 := by omega
  clear ht
  have HV := rhalf_val xs h.dg q r
  by_cases hge : la ≤ q
  · have HN : Hid (NumOut .i64 D16 w w (.slice none 0 0) (val D16 xs / 2 ^ (16 * q + r)) la) := by
      refine ⟨none, 0, 0, [], rfl, NumIn.nil, Canon.nil, ?_, Nat.zero_le _, Below.refl _ _⟩
      rw [← HV, List.drop_eq_nil_of_le (by omega)]
      simp [val]
    clear HV h
    go_enter Try.func35, Try.ntmps35
    go_wp2
    go_ret
    exact ⟨_, rfl, HN.out⟩
  · have HVH : Hid (val D16 (xs.drop q) / 2 ^ r = val D16 xs / 2 ^ (16 * q + r)) := HV
    obtain ⟨b, off, rfl, hblk, hcs⟩ := h.lies.at (by omega)
    have hp := pow2_16 r hr
    have hp1 := hp.1
    have hp2 := hp.2
    have hwr : IntKind.i64.wrap (2 ^ r) = 2 ^ r := IntWalk.i64_in _ (by omega)
    have hlc := h.lc
    have hcm := h.cm
    unfold maxLen at hcm
    have HX : Hid (NumIn .i64 D16 w (some ⟨b, off + q, none⟩) (la - q) (ca - q) (xs.drop q)) := h.drop q (by omega)
    have HSM := rSmall_any (2 ^ r) w (by omega) (by omega)
    obtain ⟨n, hn⟩ : ∃ n, la - q = n := ⟨_, rfl⟩
    have hN : (la : Int) - (q : Int) = (n : Int) := by omega
    clear HV hcs h hp
    go_enter Try.func35, Try.ntmps35
    go_wp2_with fail
    refine HSM.mono ?_
    rintro e w3 ⟨v, rfl, a_m, l_m, c_m, s_m, rfl, n_m, k_m, v_m, b_m, hb⟩
    have hlm : 0 < l_m := by
      by_cases h0 : l_m = 0
      · exfalso
        have h1 : s_m = [] := List.eq_nil_of_length_eq_zero (by rw [n_m.len]; exact h0)
        rw [h1] at v_m
        simp [val] at v_m
        omega
      · omega
    have HD := rDiv_any (some ⟨b, off + q, none⟩) a_m (la - q) (ca - q) l_m c_m (xs.drop q) s_m w3 (HX.out.old hb) n_m k_m hlm (by omega) (by omega)
    rw [v_m, HVH.out] at HD
    have HB : Hid (Below w.heap.size w w3) := hb
    clear n_m k_m v_m hb HSM HX hlm hn
    go_wp2_with fail
    refine HD.mono ?_
    rintro e w4 ⟨vq, vr, rfl, ⟨a, l, c, s, rfl, e1, e2, e3, e4, e5⟩, ⟨a', l', c', s', rfl, f1, f2, f3, f4, f5⟩⟩
    have HF : Hid (NumOut .i64 D16 w w4 (.slice a l c) (val D16 xs / 2 ^ (16 * q + r)) la) := ⟨a, l, c, s, rfl, e1, e2, e3, by omega, HB.out.trans (e5.mono HB.out.size)⟩
    clear e1 e2 e3 e4 e5 f1 f2 f3 f4 f5 HD
    go_wp2
    go_ret
    exact ⟨_, rfl, HF.out⟩
end Go.Proofs.Ytdojbknkaoiioaa
