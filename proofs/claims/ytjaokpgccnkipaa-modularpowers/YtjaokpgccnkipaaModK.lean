/-
  Contracts of the laws' own functions that reckon below the captured modulus.
-/
import Derived.Test.YtjaokpgccnkipaaModW
namespace Go.Proofs.Ytjaokpgccnkipaa
open Go.RowKit
set_option linter.unusedVariables false
set_option linter.unusedSimpArgs false




set_option maxHeartbeats 400000 in
/-- latchkeylaw02.ModularPowers$2. -/
theorem pwMul_any (g : Nat) (ao bo mo : Option Addr) (la ca lb cb lm cm : Nat) (xs ys ms : List Int) (w : World) (hk : Kc w g (.slice mo lm cm)) (h : NumIn .u64 B64 w ao la ca xs) (hb : NumIn .u64 B64 w bo lb cb ys) (h' : NumIn .u64 B64 w mo lm cm ms) (h0 : val B64 ms ≠ 0) (hsm : la + lb + lm < 100000000) :
    Calls Try.prog 37 #[.slice ao la ca, .slice bo lb cb, .pointer (some ⟨g, 0, none⟩)] w fun e w' => ∃ v, e = .returned v ∧ NumOut .u64 B64 w w' v ((val B64 xs * val B64 ys) % val B64 ms) lm := by
  have HC := mMul_any ao bo mo la ca lb cb lm cm xs ys ms w h hb h' h0 (by omega)
  have kc := hk.1
  clear hk h hb h' h0
  go_enter Try.func37, Try.ntmps37
  go_wp2_with fail
  refine HC.mono ?_
  rintro e w1 ⟨v, rfl, a1, l1, c1, zs, rfl, n1, n2, n3, n4, n5⟩
  have HF : Hid (NumOut .u64 B64 w w1 (.slice a1 l1 c1) ((val B64 xs * val B64 ys) % val B64 ms) lm) := ⟨a1, l1, c1, zs, rfl, n1, n2, n3, n4, n5⟩
  clear n1 n2 n3 n4 n5 HC kc
  go_wp2
  go_ret
  exact ⟨_, rfl, HF.out⟩

set_option maxHeartbeats 1000000 in
/-- latchkeylaw02.ModularPowers$1. -/
theorem pwPow_any (g : Nat) (ao mo : Option Addr) (la ca lm cm : Nat) (n : Int) (xs ms : List Int) (w : World) (hk : Kc w g (.slice mo lm cm)) (h : NumIn .u64 B64 w ao la ca xs) (h' : NumIn .u64 B64 w mo lm cm ms) (h0 : val B64 ms ≠ 0) (hn0 : 0 ≤ n) (hn1 : n < 18446744073709551616) (hsm : la + lm < 100000000) :
    Calls Try.prog 35 #[.slice ao la ca, .int .u64 n, .pointer (some ⟨g, 0, none⟩)] w fun e w' => ∃ v, e = .returned v ∧ NumOut .u64 B64 w w' v (val B64 xs ^ n.toNat % val B64 ms) lm := by
  have kc := hk.1
  have HK : Hid (Kc w g (.slice mo lm cm)) := hk
  have HX : Hid (NumIn .u64 B64 w ao la ca xs) := h
  have HM : Hid (NumIn .u64 B64 w mo lm cm ms) := h'
  have HZ : Hid (val B64 ms ≠ 0) := h0
  have bD : Hid (Below w.heap.size w w.drew) := (Below.refl _ _).drew
  clear hk h h' h0
  go_enter Try.func35, Try.ntmps35
  go_wp2
  go_region_with (first
    | (go_at_call 36; refine (Of_any n _ hn0 hn1).mono ?_; rintro e w4 ⟨v4, rfl, a4, l4, c4, x4, rfl, o1, o2, o3, o4, o5⟩
       have B4 : Hid (Below w.heap.size w w4) := bD.out.trans (o5.mono (Nat.le_refl _))
       have c4m := (HK.out.old B4.out).1
       have O1 : Hid (NumIn .u64 B64 w4 a4 l4 c4 x4 ∧ val B64 x4 = n ∧ l4 ≤ 1) := ⟨o1, o3, o4⟩
       clear o1 o2 o3 o4 o5)
    | (go_at_call 25; refine (mPow_any ao a4 mo la ca l4 c4 lm cm xs x4 ms w4 (HX.out.old B4.out) O1.out.1 (HM.out.old B4.out) HZ.out (by have := O1.out.2.2; omega) hsm).mono ?_; rintro e w5 ⟨v5, rfl, a5, l5, c5, x5, rfl, s1, s2, s3, s4, s5⟩
       rw [O1.out.2.1] at s3
       have O5 : Hid (NumOut .u64 B64 w w5 (.slice a5 l5 c5) (val B64 xs ^ n.toNat % val B64 ms) lm) := ⟨a5, l5, c5, x5, rfl, s1, s2, s3, s4, B4.out.trans (s5.mono B4.out.size)⟩
       clear s1 s2 s3 s4 s5))
  all_goals go_wp2
  all_goals go_ret
  all_goals exact ⟨_, rfl, O5.out⟩
end Go.Proofs.Ytjaokpgccnkipaa
