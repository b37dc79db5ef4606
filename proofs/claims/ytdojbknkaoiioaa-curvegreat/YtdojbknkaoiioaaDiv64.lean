/-
  Contract of math/bits.Div64 where the divisor's greatest bit is set, and of nat.guessLimb there.
-/
import Derived.Test.YtdojbknkaoiioaaBytes
namespace Go.Proofs.Ytdojbknkaoiioaa
open Go.RowKit
set_option linter.unusedVariables false
set_option linter.unusedSimpArgs false

/-- A quotient's half, guessed: q y1 + r = H, and q is not below how often y1 2^32 + y0 is in H 2^32 + u. -/
def Gs (H u y1 y0 q r : Int) : Prop := q * y1 + r = H ∧ (H * 4294967296 + u) / (y1 * 4294967296 + y0) ≤ q ∧ 0 ≤ r ∧ 0 ≤ q ∧ q ≤ 4294967297
/-- .. and found. -/
def Fd (H u y1 y0 q : Int) : Prop := q = (H * 4294967296 + u) / (y1 * 4294967296 + y0)

/-- What is known of the halves. -/
structure Hv (H u y1 y0 : Int) : Prop where
  h0 : 0 ≤ H
  h1 : H < y1 * 4294967296 + y0
  u0 : 0 ≤ u
  u1 : u < 4294967296
  a0 : 2147483648 ≤ y1
  a1 : y1 < 4294967296
  b0 : 0 ≤ y0
  b1 : y0 < 4294967296
theorem Hv.qlt {H u y1 y0 : Int} (h : Hv H u y1 y0) : (H * 4294967296 + u) / (y1 * 4294967296 + y0) < 4294967296 := by
  obtain ⟨h0, h1, u0, u1, a0, a1, b0, b1⟩ := h
  apply Int.ediv_lt_of_lt_mul (by omega)
  have : (H + 1) * 4294967296 ≤ (y1 * 4294967296 + y0) * 4294967296 := by omega
  generalize y1 * 4294967296 + y0 = Y at *
  omega
theorem Hv.qge {H u y1 y0 : Int} (h : Hv H u y1 y0) : 0 ≤ (H * 4294967296 + u) / (y1 * 4294967296 + y0) := by
  obtain ⟨h0, h1, u0, u1, a0, a1, b0, b1⟩ := h
  exact Int.ediv_nonneg (by omega) (by omega)
theorem Hv.start {H u y1 y0 : Int} (h : Hv H u y1 y0) : Gs H u y1 y0 (H / y1) (H % y1) ∧ H % y1 < 4294967296 := by
  obtain ⟨h0, h1, u0, u1, a0, a1, b0, b1⟩ := h
  have e := Int.mul_ediv_add_emod H y1
  have r0 := Int.emod_nonneg H (show y1 ≠ 0 by omega)
  have r1 := Int.emod_lt_of_pos H (show 0 < y1 by omega)
  have q0 : 0 ≤ H / y1 := Int.ediv_nonneg h0 (by omega)
  have qle : H / y1 ≤ 4294967297 := by
    have : H / y1 < 4294967298 := by
      apply Int.ediv_lt_of_lt_mul (by omega)
      omega
    omega
  refine ⟨⟨by rw [Int.mul_comm]; exact e, ?_, r0, q0, qle⟩, by omega⟩
  have : (H * 4294967296 + u) / (y1 * 4294967296 + y0) < H / y1 + 1 := by
    apply Int.ediv_lt_of_lt_mul (by omega)
    generalize H / y1 = q at *
    generalize H % y1 = r at *
    have e2 : (q + 1) * (y1 * 4294967296 + y0) = (y1 * q) * 4294967296 + y1 * 4294967296 + q * y0 + y0 := by grind
    have e3 : 0 ≤ q * y0 := Int.mul_nonneg q0 b0
    rw [e2, ← e]
    generalize y1 * q = P at *
    generalize q * y0 = R at *
    omega
  omega
/-- One round: the guess was too great. -/
theorem Gs.step {H u y1 y0 q r : Int} (hv : Hv H u y1 y0) (h : Gs H u y1 y0 q r) (hr : r < 4294967296) (hc : 4294967296 ≤ q ∨ 4294967296 * r + u < q * y0) :
    Gs H u y1 y0 (q - 1) (r + y1) ∧ 1 ≤ q ∧ q - 1 ≤ 4294967296 := by
  have hq := hv.qlt
  have hqg := hv.qge
  obtain ⟨h0, h1, u0, u1, a0, a1, b0, b1⟩ := hv
  obtain ⟨g1, g2, g3, g4, g5⟩ := h
  have key : (H * 4294967296 + u) / (y1 * 4294967296 + y0) ≤ q - 1 := by
    rcases hc with hc | hc
    · omega
    · have : (H * 4294967296 + u) / (y1 * 4294967296 + y0) < q := by
        apply Int.ediv_lt_of_lt_mul (by omega)
        have e2 : q * (y1 * 4294967296 + y0) = (q * y1) * 4294967296 + q * y0 := by grind
        rw [e2, ← g1]
        generalize q * y1 = P at *
        generalize q * y0 = R at *
        omega
      omega
  refine ⟨⟨?_, key, by omega, by omega, by omega⟩, by omega, by omega⟩
  rw [← g1]; grind
/-- The guess is right. -/
theorem Gs.found {H u y1 y0 q r : Int} (hv : Hv H u y1 y0) (h : Gs H u y1 y0 q r) (hc : q * y0 ≤ 4294967296 * r + u) : Fd H u y1 y0 q := by
  obtain ⟨h0, h1, u0, u1, a0, a1, b0, b1⟩ := hv
  obtain ⟨g1, g2, g3, g4, g5⟩ := h
  unfold Fd
  have : q ≤ (H * 4294967296 + u) / (y1 * 4294967296 + y0) := by
    apply (Int.le_ediv_iff_mul_le (by omega)).2
    have e2 : q * (y1 * 4294967296 + y0) = (q * y1) * 4294967296 + q * y0 := by grind
    rw [e2, ← g1]
    generalize q * y1 = P at *
    generalize q * y0 = R at *
    omega
  omega
/-- .. as what is left is a half too great. -/
theorem Gs.over {H u y1 y0 q r : Int} (hv : Hv H u y1 y0) (h : Gs H u y1 y0 q r) (hq : q ≤ 4294967296) (hr : 4294967296 ≤ r) : Fd H u y1 y0 q := by
  refine h.found hv ?_
  obtain ⟨h0, h1, u0, u1, a0, a1, b0, b1⟩ := hv
  obtain ⟨g1, g2, g3, g4, g5⟩ := h
  have : q * y0 ≤ 4294967296 * 4294967295 := Int.mul_le_mul hq (by omega) b0 (by omega)
  omega
theorem Fd.lt {H u y1 y0 q : Int} (hv : Hv H u y1 y0) (h : Fd H u y1 y0 q) : 0 ≤ q ∧ q < 4294967296 := by
  unfold Fd at h
  have := hv.qlt
  have := hv.qge
  omega
/-- What is left, modulo 2^64, is what is left. -/
theorem Fd.rest {H u y1 y0 q : Int} (hv : Hv H u y1 y0) (h : Fd H u y1 y0 q) : (H * 4294967296 + u - q * (y1 * 4294967296 + y0)) % 18446744073709551616 = (H * 4294967296 + u) % (y1 * 4294967296 + y0) := by
  unfold Fd at h
  obtain ⟨h0, h1, u0, u1, a0, a1, b0, b1⟩ := hv
  have e : H * 4294967296 + u - q * (y1 * 4294967296 + y0) = (H * 4294967296 + u) % (y1 * 4294967296 + y0) := by
    rw [Int.emod_def, h, Int.mul_comm (y1 * 4294967296 + y0)]
  rw [e]
  have r0 := Int.emod_nonneg (H * 4294967296 + u) (show y1 * 4294967296 + y0 ≠ 0 by omega)
  have r1 := Int.emod_lt_of_pos (H * 4294967296 + u) (show 0 < y1 * 4294967296 + y0 by omega)
  exact Int.emod_eq_of_lt r0 (by omega)
/-- Both halves. -/
theorem two_halves (hi u1 u0 Y q1 q0 : Int) (hY : 0 < Y) (h1 : q1 = (hi * 4294967296 + u1) / Y) (h0 : q0 = ((hi * 4294967296 + u1) % Y * 4294967296 + u0) / Y) :
    q1 * 4294967296 + q0 = (hi * 18446744073709551616 + (u1 * 4294967296 + u0)) / Y := by
  have e := Int.mul_ediv_add_emod (hi * 4294967296 + u1) Y
  rw [← h1] at e
  generalize (hi * 4294967296 + u1) % Y = R at *
  have e2 : hi * 18446744073709551616 + (u1 * 4294967296 + u0) = (R * 4294967296 + u0) + Y * (q1 * 4294967296) := by
    have : hi * 18446744073709551616 + (u1 * 4294967296 + u0) = (hi * 4294967296 + u1) * 4294967296 + u0 := by omega
    rw [this, ← e]
    grind
  rw [e2, Int.add_mul_ediv_left _ _ (by omega), ← h0]
  omega

theorem wrap_prod (q b : Int) (h0 : 0 ≤ q) (h1 : q < 4294967296) (b0 : 0 ≤ b) (b1 : b < 4294967296) : IntKind.u64.wrap (q * b) = q * b := by
  rw [IntKind.wrap_u64]
  have a : 0 ≤ q * b := Int.mul_nonneg h0 b0
  have c : q * b ≤ 4294967295 * 4294967295 := Int.mul_le_mul (by omega) (by omega) b0 (by omega)
  exact Int.emod_eq_of_lt a (by omega)
theorem wrap_quot (R a : Int) (h0 : 0 ≤ R / a) (h1 : R / a ≤ 4294967297) : IntKind.u64.wrap (R / a) = R / a := by
  rw [IntKind.wrap_u64]
  exact Int.emod_eq_of_lt h0 (by omega)
theorem wrap_back (R a : Int) {u b : Int} (h0 : 0 ≤ R) (hv : Hv R u a b) : IntKind.u64.wrap (R / a * a) = R - R % a := by
  have e := Int.mul_ediv_add_emod R a
  have r0 := Int.emod_nonneg R (show a ≠ 0 by have := hv.a0; omega)
  have x := hv.h1
  have y := hv.a1
  have z := hv.b1
  rw [IntKind.wrap_u64, Int.mul_comm, show a * (R / a) = R - R % a by omega]
  have q0 : 0 ≤ a * (R / a) := Int.mul_nonneg (by have := hv.a0; omega) (Int.ediv_nonneg h0 (by have := hv.a0; omega))
  exact Int.emod_eq_of_lt (by omega) (by omega)
theorem back_nonneg (R a : Int) (h0 : 0 ≤ R) (ha : 0 < a) : 0 ≤ R - R % a := by
  have e := Int.mul_ediv_add_emod R a
  have : 0 ≤ a * (R / a) := Int.mul_nonneg (by omega) (Int.ediv_nonneg h0 (by omega))
  omega
theorem wrap_chain (hi u1 q y : Int) : IntKind.u64.wrap (IntKind.u64.wrap (IntKind.u64.wrap (hi * 4294967296) + u1) - IntKind.u64.wrap (q * y)) = (hi * 4294967296 + u1 - q * y) % 18446744073709551616 := by
  simp only [IntKind.wrap_u64]
  generalize q * y = Z
  omega

set_option maxHeartbeats 8000000 in
set_option maxRecDepth 100000 in
/-- math/bits.Div64, the divisor's greatest bit set, the high limb not 0. -/
theorem div64_hi (hi lo y : Int) (w : World) (h0 : 1 ≤ hi) (h1 : hi < y) (l0 : 0 ≤ lo) (l1 : lo < 18446744073709551616) (y0 : 9223372036854775808 ≤ y) (y1 : y < 18446744073709551616) :
    Calls Try.prog 100 #[.int .u64 hi, .int .u64 lo, .int .u64 y] w fun e w' => ∃ r, e = .returned (.tuple #[.int .u64 ((hi * 18446744073709551616 + lo) / y), .int .u64 r]) ∧ w' = w := by
  have HL := lead_any y w (by omega) y1
  have e64 : 64 - blen y.toNat = 0 := by rw [blen_eq y.toNat 63 (by omega) (by omega)]
  rw [e64] at HL
  clear e64
  obtain ⟨a, ea⟩ : ∃ a, y / 4294967296 = a := ⟨_, rfl⟩
  obtain ⟨b, eb⟩ : ∃ b, bits .and .u64 y 4294967295 = b := ⟨_, rfl⟩
  obtain ⟨u1, eu1⟩ : ∃ u1, lo / 4294967296 = u1 := ⟨_, rfl⟩
  obtain ⟨u0, eu0⟩ : ∃ u0, bits .and .u64 lo 4294967295 = u0 := ⟨_, rfl⟩
  have mask : ∀ z : Int, 0 ≤ z → z < 18446744073709551616 → bits .and .u64 z 4294967295 = z % 4294967296 := fun z z0 z1 => by
    obtain ⟨z, rfl⟩ := Int.eq_ofNat_of_zero_le z0
    rw [low_half z (by omega)]; omega
  have hbm : b = y % 4294967296 := by rw [← eb]; exact mask y (by omega) y1
  have hum : u0 = lo % 4294967296 := by rw [← eu0]; exact mask lo l0 l1
  have eo : bits .or .u64 hi (lo / 18446744073709551616) = hi := by
    rw [Int.ediv_eq_zero_of_lt l0 l1]
    obtain ⟨z, rfl⟩ := Int.eq_ofNat_of_zero_le (show 0 ≤ hi by omega)
    have := bits_or_u64_nat z 0 (by omega) (by omega)
    simpa using this
  have a0 : 2147483648 ≤ a := by omega
  have a1 : a < 4294967296 := by omega
  have b0 : 0 ≤ b := by omega
  have b1 : b < 4294967296 := by omega
  have u10 : 0 ≤ u1 := by omega
  have u11 : u1 < 4294967296 := by omega
  have u00 : 0 ≤ u0 := by omega
  have u01 : u0 < 4294967296 := by omega
  have hY : a * 4294967296 + b = y := by omega
  have elo : lo = u1 * 4294967296 + u0 := by omega
  have hv : Hv hi u1 a b := ⟨by omega, by omega, u10, u11, a0, a1, b0, b1⟩
  have HV : Hid (Hv hi u1 a b) := hv
  have hs := hv.start
  obtain ⟨qq, eqq⟩ : ∃ q2, hi / a = q2 := ⟨_, rfl⟩
  obtain ⟨PP, ePP⟩ : ∃ P2, IntKind.u64.wrap (qq * a) = P2 := ⟨_, rfl⟩
  have hqqe : qq = hi / a := eqq.symm
  have hPPe : PP = hi - hi % a := by rw [← ePP, hqqe]; exact wrap_back hi a (by omega) hv
  obtain ⟨rr, err⟩ : ∃ r2, hi - PP = r2 := ⟨_, rfl⟩
  have hrre : rr = hi % a := by omega
  have hst0 : Gs hi u1 a b qq rr ∧ rr < 4294967296 := by rw [hqqe, hrre]; exact hs
  have HST0 : Hid _ := hst0
  have hrr0 := hst0.1.2.2.1
  have hrr1 := hst0.2
  have hPP0 : 0 ≤ PP ∧ PP ≤ hi := by have := back_nonneg hi a (by omega) (by omega); omega
  have HY : Hid _ := hY
  have HLO : Hid _ := elo
  clear hst0 hv hs hqqe hPPe hrre mask hbm hum hY elo
  go_enter Try.func100, Try.ntmps100
  go_wp2_with (go_at_call 96; refine HL.mono ?_; rintro e w' ⟨rfl, rfl⟩)
  go_loop [15, 16] (fun vq vr => ∃ q r : Int, vq = .int .u64 q ∧ vr = .int .u64 r ∧ Gs hi u1 a b q r ∧ r < 4294967296) (fun vq _ => (intOf vq).toNat)
  case atStart => exact ⟨_, _, rfl, rfl, by rw [eqq]; exact HST0.out.1, HST0.out.2⟩
  case round =>
    obtain ⟨q, r, rfl, rfl, hg, hr⟩ := hrel
    have hr0 := hg.2.2.1
    have hq0 := hg.2.2.2.1
    have hqm := hg.2.2.2.2
    obtain ⟨M, hM⟩ : ∃ M, IntKind.u64.wrap (q * b) = M := ⟨_, rfl⟩
    by_cases hA : 4294967296 ≤ q
    · have hst := hg.step HV.out hr (.inl hA)
      obtain ⟨q', e1⟩ : ∃ q', q - 1 = q' := ⟨_, rfl⟩
      obtain ⟨r', e2⟩ : ∃ r', r + a = r' := ⟨_, rfl⟩
      rw [e1, e2] at hst
      have HG : Hid (Gs _ _ _ _ _ _) := hst.1
      have hq1 : 1 ≤ q := hst.2.1
      have hq2 : q' ≤ 4294967296 := hst.2.2
      have HD : Hid (q'.toNat < q.toNat) := by unfold Hid; omega
      by_cases hC : 4294967296 ≤ r'
      · have hF : Fd hi u1 a b q' := HG.out.over HV.out hq2 hC
        clear hst hg HG HD 
        have hY := HY.out
        have elo := HLO.out
        have hq1b := hF.lt HV.out
        obtain ⟨W1, w1⟩ : ∃ W1, IntKind.u64.wrap (hi * 4294967296) = W1 := ⟨_, rfl⟩
        obtain ⟨W2, w2⟩ : ∃ W2, IntKind.u64.wrap (W1 + u1) = W2 := ⟨_, rfl⟩
        obtain ⟨W3, w3⟩ : ∃ W3, IntKind.u64.wrap (q' * y) = W3 := ⟨_, rfl⟩
        obtain ⟨R, w4⟩ : ∃ R, IntKind.u64.wrap (W2 - W3) = R := ⟨_, rfl⟩
        have eR : R = (hi * 4294967296 + u1) % y := by rw [← w4, ← w3, ← w2, ← w1, wrap_chain]; have := hF.rest HV.out; rw [hY] at this; exact this
        have hv2 : Hv R u0 a b := by
          have x0 := Int.emod_nonneg (hi * 4294967296 + u1) (show y ≠ 0 by omega)
          have x1 := Int.emod_lt_of_pos (hi * 4294967296 + u1) (show 0 < y by omega)
          exact ⟨by omega, by omega, u00, u01, a0, a1, b0, b1⟩
        have hR0 := hv2.h0
        have HFIN : Hid (∀ p, Fd R u0 a b p → q' * 4294967296 + p = (hi * 18446744073709551616 + lo) / y) := fun p hp => by
          unfold Fd at hp hF
          rw [hY] at hp hF
          rw [elo]
          exact two_halves hi u1 u0 y q' p (by omega) hF (by rw [← eR]; exact hp)
        have hs2 := hv2.start
        obtain ⟨q2, eq2⟩ : ∃ q2, R / a = q2 := ⟨_, rfl⟩
        obtain ⟨P2, eP2⟩ : ∃ P2, IntKind.u64.wrap (q2 * a) = P2 := ⟨_, rfl⟩
        have hq2e : q2 = R / a := eq2.symm
        have hP2e : P2 = R - R % a := by rw [← eP2, hq2e]; exact wrap_back R a hR0 hv2 
        obtain ⟨r2, er2⟩ : ∃ r2, R - P2 = r2 := ⟨_, rfl⟩
        have hr2e : r2 = R % a := by omega
        have hst2 : Gs R u0 a b q2 r2 ∧ r2 < 4294967296 := by rw [hq2e, hr2e]; exact hs2
        have hr20 := hst2.1.2.2.1
        have hr21 := hst2.2
        have hP20 : 0 ≤ P2 ∧ P2 ≤ R := by have := back_nonneg R a hR0 (by omega); omega
        have hRb : R < 18446744073709551616 := by have := hv2.h1; omega
        have HST : Hid _ := hst2
        have HV1 : Hid _ := HV
        clear HV
        have HV : Hid (Hv R u0 a b) := hv2
        clear hs2 hv2 eR hq2e hP2e hr2e hst2 hF HV1 hY elo
        go_wp2
        go_loop [18, 16] (fun vq vr => ∃ q r : Int, vq = .int .u64 q ∧ vr = .int .u64 r ∧ Gs R u0 a b q r ∧ r < 4294967296) (fun vq _ => (intOf vq).toNat)
        case atStart => exact ⟨_, _, rfl, rfl, HST.out.1, HST.out.2⟩
        case round =>
          obtain ⟨q, r, rfl, rfl, hg, hr⟩ := hrel
          have hr0 := hg.2.2.1
          have hq0 := hg.2.2.2.1
          have hqm := hg.2.2.2.2
          obtain ⟨M, hM⟩ : ∃ M, IntKind.u64.wrap (q * b) = M := ⟨_, rfl⟩
          by_cases hA : 4294967296 ≤ q
          · have hst := hg.step HV.out hr (.inl hA)
            obtain ⟨q', e1⟩ : ∃ q', q - 1 = q' := ⟨_, rfl⟩
            obtain ⟨r', e2⟩ : ∃ r', r + a = r' := ⟨_, rfl⟩
            rw [e1, e2] at hst
            have HG : Hid (Gs _ _ _ _ _ _) := hst.1
            have hq1 : 1 ≤ q := hst.2.1
            have hq2 : q' ≤ 4294967296 := hst.2.2
            have HD : Hid (q'.toNat < q.toNat) := by unfold Hid; omega
            by_cases hC : 4294967296 ≤ r'
            · have hF : Fd R u0 a b q' := HG.out.over HV.out hq2 hC
              clear hst hg HG HD 
              have HQ := HFIN.out q' hF
              have hpb := hF.lt HV.out
              clear hF
              have HQH : Hid _ := HQ
              clear HQ
              go_wp2
              go_ret2
              exact ⟨⟨_, ret_two HQH.out rfl⟩, rfl⟩
            · have hC' : r' < 4294967296 := by omega
              clear hst hg 
              go_wp2
              go_round
              case rel => exact ⟨q', r', rfl, rfl, HG.out, hC'⟩
              case measure => simp only [intOf]; exact HD.out
          · have hlt : q < 4294967296 := by omega
            have eM : M = q * b := by rw [← hM]; exact wrap_prod q b hq0 hlt b0 b1
            by_cases hB : 4294967296 * r + u0 < M
            · have hst := hg.step HV.out hr (.inr (by rw [← eM]; exact hB))
              obtain ⟨q', e1⟩ : ∃ q', q - 1 = q' := ⟨_, rfl⟩
              obtain ⟨r', e2⟩ : ∃ r', r + a = r' := ⟨_, rfl⟩
              rw [e1, e2] at hst
              have HG : Hid (Gs _ _ _ _ _ _) := hst.1
              have hq1 : 1 ≤ q := hst.2.1
              have hq2 : q' ≤ 4294967296 := hst.2.2
              have HD : Hid (q'.toNat < q.toNat) := by unfold Hid; omega
              by_cases hC : 4294967296 ≤ r'
              · have hF : Fd R u0 a b q' := HG.out.over HV.out hq2 hC
                clear hst hg HG HD eM
                have HQ := HFIN.out q' hF
                have hpb := hF.lt HV.out
                clear hF
                have HQH : Hid _ := HQ
                clear HQ
                go_wp2
                go_ret2
                exact ⟨⟨_, ret_two HQH.out rfl⟩, rfl⟩
              · have hC' : r' < 4294967296 := by omega
                clear hst hg eM
                go_wp2
                go_round
                case rel => exact ⟨q', r', rfl, rfl, HG.out, hC'⟩
                case measure => simp only [intOf]; exact HD.out
            · have hF : Fd R u0 a b q := hg.found HV.out (by rw [← eM]; omega)
              clear hg eM
              have HQ := HFIN.out q hF
              have hpb := hF.lt HV.out
              clear hF
              have HQH : Hid _ := HQ
              clear HQ
              go_wp2
              go_ret2
              exact ⟨⟨_, ret_two HQH.out rfl⟩, rfl⟩
      · have hC' : r' < 4294967296 := by omega
        clear hst hg 
        go_wp2
        go_round
        case rel => exact ⟨q', r', rfl, rfl, HG.out, hC'⟩
        case measure => simp only [intOf]; exact HD.out
    · have hlt : q < 4294967296 := by omega
      have eM : M = q * b := by rw [← hM]; exact wrap_prod q b hq0 hlt b0 b1
      by_cases hB : 4294967296 * r + u1 < M
      · have hst := hg.step HV.out hr (.inr (by rw [← eM]; exact hB))
        obtain ⟨q', e1⟩ : ∃ q', q - 1 = q' := ⟨_, rfl⟩
        obtain ⟨r', e2⟩ : ∃ r', r + a = r' := ⟨_, rfl⟩
        rw [e1, e2] at hst
        have HG : Hid (Gs _ _ _ _ _ _) := hst.1
        have hq1 : 1 ≤ q := hst.2.1
        have hq2 : q' ≤ 4294967296 := hst.2.2
        have HD : Hid (q'.toNat < q.toNat) := by unfold Hid; omega
        by_cases hC : 4294967296 ≤ r'
        · have hF : Fd hi u1 a b q' := HG.out.over HV.out hq2 hC
          clear hst hg HG HD eM
          have hY := HY.out
          have elo := HLO.out
          have hq1b := hF.lt HV.out
          obtain ⟨W1, w1⟩ : ∃ W1, IntKind.u64.wrap (hi * 4294967296) = W1 := ⟨_, rfl⟩
          obtain ⟨W2, w2⟩ : ∃ W2, IntKind.u64.wrap (W1 + u1) = W2 := ⟨_, rfl⟩
          obtain ⟨W3, w3⟩ : ∃ W3, IntKind.u64.wrap (q' * y) = W3 := ⟨_, rfl⟩
          obtain ⟨R, w4⟩ : ∃ R, IntKind.u64.wrap (W2 - W3) = R := ⟨_, rfl⟩
          have eR : R = (hi * 4294967296 + u1) % y := by rw [← w4, ← w3, ← w2, ← w1, wrap_chain]; have := hF.rest HV.out; rw [hY] at this; exact this
          have hv2 : Hv R u0 a b := by
            have x0 := Int.emod_nonneg (hi * 4294967296 + u1) (show y ≠ 0 by omega)
            have x1 := Int.emod_lt_of_pos (hi * 4294967296 + u1) (show 0 < y by omega)
            exact ⟨by omega, by omega, u00, u01, a0, a1, b0, b1⟩
          have hR0 := hv2.h0
          have HFIN : Hid (∀ p, Fd R u0 a b p → q' * 4294967296 + p = (hi * 18446744073709551616 + lo) / y) := fun p hp => by
            unfold Fd at hp hF
            rw [hY] at hp hF
            rw [elo]
            exact two_halves hi u1 u0 y q' p (by omega) hF (by rw [← eR]; exact hp)
          have hs2 := hv2.start
          obtain ⟨q2, eq2⟩ : ∃ q2, R / a = q2 := ⟨_, rfl⟩
          obtain ⟨P2, eP2⟩ : ∃ P2, IntKind.u64.wrap (q2 * a) = P2 := ⟨_, rfl⟩
          have hq2e : q2 = R / a := eq2.symm
          have hP2e : P2 = R - R % a := by rw [← eP2, hq2e]; exact wrap_back R a hR0 hv2 
          obtain ⟨r2, er2⟩ : ∃ r2, R - P2 = r2 := ⟨_, rfl⟩
          have hr2e : r2 = R % a := by omega
          have hst2 : Gs R u0 a b q2 r2 ∧ r2 < 4294967296 := by rw [hq2e, hr2e]; exact hs2
          have hr20 := hst2.1.2.2.1
          have hr21 := hst2.2
          have hP20 : 0 ≤ P2 ∧ P2 ≤ R := by have := back_nonneg R a hR0 (by omega); omega
          have hRb : R < 18446744073709551616 := by have := hv2.h1; omega
          have HST : Hid _ := hst2
          have HV1 : Hid _ := HV
          clear HV
          have HV : Hid (Hv R u0 a b) := hv2
          clear hs2 hv2 eR hq2e hP2e hr2e hst2 hF HV1 hY elo
          go_wp2
          go_loop [18, 16] (fun vq vr => ∃ q r : Int, vq = .int .u64 q ∧ vr = .int .u64 r ∧ Gs R u0 a b q r ∧ r < 4294967296) (fun vq _ => (intOf vq).toNat)
          case atStart => exact ⟨_, _, rfl, rfl, HST.out.1, HST.out.2⟩
          case round =>
            obtain ⟨q, r, rfl, rfl, hg, hr⟩ := hrel
            have hr0 := hg.2.2.1
            have hq0 := hg.2.2.2.1
            have hqm := hg.2.2.2.2
            obtain ⟨M, hM⟩ : ∃ M, IntKind.u64.wrap (q * b) = M := ⟨_, rfl⟩
            by_cases hA : 4294967296 ≤ q
            · have hst := hg.step HV.out hr (.inl hA)
              obtain ⟨q', e1⟩ : ∃ q', q - 1 = q' := ⟨_, rfl⟩
              obtain ⟨r', e2⟩ : ∃ r', r + a = r' := ⟨_, rfl⟩
              rw [e1, e2] at hst
              have HG : Hid (Gs _ _ _ _ _ _) := hst.1
              have hq1 : 1 ≤ q := hst.2.1
              have hq2 : q' ≤ 4294967296 := hst.2.2
              have HD : Hid (q'.toNat < q.toNat) := by unfold Hid; omega
              by_cases hC : 4294967296 ≤ r'
              · have hF : Fd R u0 a b q' := HG.out.over HV.out hq2 hC
                clear hst hg HG HD 
                have HQ := HFIN.out q' hF
                have hpb := hF.lt HV.out
                clear hF
                have HQH : Hid _ := HQ
                clear HQ
                go_wp2
                go_ret2
                exact ⟨⟨_, ret_two HQH.out rfl⟩, rfl⟩
              · have hC' : r' < 4294967296 := by omega
                clear hst hg 
                go_wp2
                go_round
                case rel => exact ⟨q', r', rfl, rfl, HG.out, hC'⟩
                case measure => simp only [intOf]; exact HD.out
            · have hlt : q < 4294967296 := by omega
              have eM : M = q * b := by rw [← hM]; exact wrap_prod q b hq0 hlt b0 b1
              by_cases hB : 4294967296 * r + u0 < M
              · have hst := hg.step HV.out hr (.inr (by rw [← eM]; exact hB))
                obtain ⟨q', e1⟩ : ∃ q', q - 1 = q' := ⟨_, rfl⟩
                obtain ⟨r', e2⟩ : ∃ r', r + a = r' := ⟨_, rfl⟩
                rw [e1, e2] at hst
                have HG : Hid (Gs _ _ _ _ _ _) := hst.1
                have hq1 : 1 ≤ q := hst.2.1
                have hq2 : q' ≤ 4294967296 := hst.2.2
                have HD : Hid (q'.toNat < q.toNat) := by unfold Hid; omega
                by_cases hC : 4294967296 ≤ r'
                · have hF : Fd R u0 a b q' := HG.out.over HV.out hq2 hC
                  clear hst hg HG HD eM
                  have HQ := HFIN.out q' hF
                  have hpb := hF.lt HV.out
                  clear hF
                  have HQH : Hid _ := HQ
                  clear HQ
                  go_wp2
                  go_ret2
                  exact ⟨⟨_, ret_two HQH.out rfl⟩, rfl⟩
                · have hC' : r' < 4294967296 := by omega
                  clear hst hg eM
                  go_wp2
                  go_round
                  case rel => exact ⟨q', r', rfl, rfl, HG.out, hC'⟩
                  case measure => simp only [intOf]; exact HD.out
              · have hF : Fd R u0 a b q := hg.found HV.out (by rw [← eM]; omega)
                clear hg eM
                have HQ := HFIN.out q hF
                have hpb := hF.lt HV.out
                clear hF
                have HQH : Hid _ := HQ
                clear HQ
                go_wp2
                go_ret2
                exact ⟨⟨_, ret_two HQH.out rfl⟩, rfl⟩
        · have hC' : r' < 4294967296 := by omega
          clear hst hg eM
          go_wp2
          go_round
          case rel => exact ⟨q', r', rfl, rfl, HG.out, hC'⟩
          case measure => simp only [intOf]; exact HD.out
      · have hF : Fd hi u1 a b q := hg.found HV.out (by rw [← eM]; omega)
        clear hg eM
        have hY := HY.out
        have elo := HLO.out
        have hq1b := hF.lt HV.out
        obtain ⟨W1, w1⟩ : ∃ W1, IntKind.u64.wrap (hi * 4294967296) = W1 := ⟨_, rfl⟩
        obtain ⟨W2, w2⟩ : ∃ W2, IntKind.u64.wrap (W1 + u1) = W2 := ⟨_, rfl⟩
        obtain ⟨W3, w3⟩ : ∃ W3, IntKind.u64.wrap (q * y) = W3 := ⟨_, rfl⟩
        obtain ⟨R, w4⟩ : ∃ R, IntKind.u64.wrap (W2 - W3) = R := ⟨_, rfl⟩
        have eR : R = (hi * 4294967296 + u1) % y := by rw [← w4, ← w3, ← w2, ← w1, wrap_chain]; have := hF.rest HV.out; rw [hY] at this; exact this
        have hv2 : Hv R u0 a b := by
          have x0 := Int.emod_nonneg (hi * 4294967296 + u1) (show y ≠ 0 by omega)
          have x1 := Int.emod_lt_of_pos (hi * 4294967296 + u1) (show 0 < y by omega)
          exact ⟨by omega, by omega, u00, u01, a0, a1, b0, b1⟩
        have hR0 := hv2.h0
        have HFIN : Hid (∀ p, Fd R u0 a b p → q * 4294967296 + p = (hi * 18446744073709551616 + lo) / y) := fun p hp => by
          unfold Fd at hp hF
          rw [hY] at hp hF
          rw [elo]
          exact two_halves hi u1 u0 y q p (by omega) hF (by rw [← eR]; exact hp)
        have hs2 := hv2.start
        obtain ⟨q2, eq2⟩ : ∃ q2, R / a = q2 := ⟨_, rfl⟩
        obtain ⟨P2, eP2⟩ : ∃ P2, IntKind.u64.wrap (q2 * a) = P2 := ⟨_, rfl⟩
        have hq2e : q2 = R / a := eq2.symm
        have hP2e : P2 = R - R % a := by rw [← eP2, hq2e]; exact wrap_back R a hR0 hv2 
        obtain ⟨r2, er2⟩ : ∃ r2, R - P2 = r2 := ⟨_, rfl⟩
        have hr2e : r2 = R % a := by omega
        have hst2 : Gs R u0 a b q2 r2 ∧ r2 < 4294967296 := by rw [hq2e, hr2e]; exact hs2
        have hr20 := hst2.1.2.2.1
        have hr21 := hst2.2
        have hP20 : 0 ≤ P2 ∧ P2 ≤ R := by have := back_nonneg R a hR0 (by omega); omega
        have hRb : R < 18446744073709551616 := by have := hv2.h1; omega
        have HST : Hid _ := hst2
        have HV1 : Hid _ := HV
        clear HV
        have HV : Hid (Hv R u0 a b) := hv2
        clear hs2 hv2 eR hq2e hP2e hr2e hst2 hF HV1 hY elo
        go_wp2
        go_loop [18, 16] (fun vq vr => ∃ q r : Int, vq = .int .u64 q ∧ vr = .int .u64 r ∧ Gs R u0 a b q r ∧ r < 4294967296) (fun vq _ => (intOf vq).toNat)
        case atStart => exact ⟨_, _, rfl, rfl, HST.out.1, HST.out.2⟩
        case round =>
          obtain ⟨q, r, rfl, rfl, hg, hr⟩ := hrel
          have hr0 := hg.2.2.1
          have hq0 := hg.2.2.2.1
          have hqm := hg.2.2.2.2
          obtain ⟨M, hM⟩ : ∃ M, IntKind.u64.wrap (q * b) = M := ⟨_, rfl⟩
          by_cases hA : 4294967296 ≤ q
          · have hst := hg.step HV.out hr (.inl hA)
            obtain ⟨q', e1⟩ : ∃ q', q - 1 = q' := ⟨_, rfl⟩
            obtain ⟨r', e2⟩ : ∃ r', r + a = r' := ⟨_, rfl⟩
            rw [e1, e2] at hst
            have HG : Hid (Gs _ _ _ _ _ _) := hst.1
            have hq1 : 1 ≤ q := hst.2.1
            have hq2 : q' ≤ 4294967296 := hst.2.2
            have HD : Hid (q'.toNat < q.toNat) := by unfold Hid; omega
            by_cases hC : 4294967296 ≤ r'
            · have hF : Fd R u0 a b q' := HG.out.over HV.out hq2 hC
              clear hst hg HG HD 
              have HQ := HFIN.out q' hF
              have hpb := hF.lt HV.out
              clear hF
              have HQH : Hid _ := HQ
              clear HQ
              go_wp2
              go_ret2
              exact ⟨⟨_, ret_two HQH.out rfl⟩, rfl⟩
            · have hC' : r' < 4294967296 := by omega
              clear hst hg 
              go_wp2
              go_round
              case rel => exact ⟨q', r', rfl, rfl, HG.out, hC'⟩
              case measure => simp only [intOf]; exact HD.out
          · have hlt : q < 4294967296 := by omega
            have eM : M = q * b := by rw [← hM]; exact wrap_prod q b hq0 hlt b0 b1
            by_cases hB : 4294967296 * r + u0 < M
            · have hst := hg.step HV.out hr (.inr (by rw [← eM]; exact hB))
              obtain ⟨q', e1⟩ : ∃ q', q - 1 = q' := ⟨_, rfl⟩
              obtain ⟨r', e2⟩ : ∃ r', r + a = r' := ⟨_, rfl⟩
              rw [e1, e2] at hst
              have HG : Hid (Gs _ _ _ _ _ _) := hst.1
              have hq1 : 1 ≤ q := hst.2.1
              have hq2 : q' ≤ 4294967296 := hst.2.2
              have HD : Hid (q'.toNat < q.toNat) := by unfold Hid; omega
              by_cases hC : 4294967296 ≤ r'
              · have hF : Fd R u0 a b q' := HG.out.over HV.out hq2 hC
                clear hst hg HG HD eM
                have HQ := HFIN.out q' hF
                have hpb := hF.lt HV.out
                clear hF
                have HQH : Hid _ := HQ
                clear HQ
                go_wp2
                go_ret2
                exact ⟨⟨_, ret_two HQH.out rfl⟩, rfl⟩
              · have hC' : r' < 4294967296 := by omega
                clear hst hg eM
                go_wp2
                go_round
                case rel => exact ⟨q', r', rfl, rfl, HG.out, hC'⟩
                case measure => simp only [intOf]; exact HD.out
            · have hF : Fd R u0 a b q := hg.found HV.out (by rw [← eM]; omega)
              clear hg eM
              have HQ := HFIN.out q hF
              have hpb := hF.lt HV.out
              clear hF
              have HQH : Hid _ := HQ
              clear HQ
              go_wp2
              go_ret2
              exact ⟨⟨_, ret_two HQH.out rfl⟩, rfl⟩
end Go.Proofs.Ytdojbknkaoiioaa
