/-
  Contracts of the laws' own functions that reckon below the captured modulus.
-/
import Derived.Test.YtjaokpgccnkipabModW
namespace Go.Proofs.Ytjaokpgccnkipab
open Go.RowKit
set_option linter.unusedVariables false
set_option linter.unusedSimpArgs false

set_option maxHeartbeats 400000 in
/-- latchkeylaw02.ModularSquares$1. -/
theorem sqMul_any (g : Nat) (ao bo mo : Option Addr) (la ca lb cb lm cm : Nat) (xs ys ms : List Int) (w : World) (hk : Kc w g (.slice mo lm cm)) (h : NumIn .u64 B64 w ao la ca xs) (hb : NumIn .u64 B64 w bo lb cb ys) (h' : NumIn .u64 B64 w mo lm cm ms) (h0 : val B64 ms ≠ 0) (hsm : la + lb + lm < 100000000) :
    Calls Try.prog 14 #[.slice ao la ca, .slice bo lb cb, .pointer (some ⟨g, 0, none⟩)] w fun e w' => ∃ v, e = .returned v ∧ NumOut .u64 B64 w w' v ((val B64 xs * val B64 ys) % val B64 ms) lm := by
  have HC := mMul_any ao bo mo la ca lb cb lm cm xs ys ms w h hb h' h0 (by omega)
  have kc := hk.1
  clear hk h hb h' h0
  go_enter Try.func14, Try.ntmps14
  go_wp2_with fail
  refine HC.mono ?_
  rintro e w1 ⟨v, rfl, a1, l1, c1, zs, rfl, n1, n2, n3, n4, n5⟩
  have HF : Hid (NumOut .u64 B64 w w1 (.slice a1 l1 c1) ((val B64 xs * val B64 ys) % val B64 ms) lm) := ⟨a1, l1, c1, zs, rfl, n1, n2, n3, n4, n5⟩
  clear n1 n2 n3 n4 n5 HC kc
  go_wp2
  go_ret
  exact ⟨_, rfl, HF.out⟩

set_option maxHeartbeats 400000 in
/-- latchkeylaw02.ModularSquares$2. -/
theorem sqAdd_any (g : Nat) (ao bo mo : Option Addr) (la ca lb cb lm cm : Nat) (xs ys ms : List Int) (w : World) (hk : Kc w g (.slice mo lm cm)) (h : NumIn .u64 B64 w ao la ca xs) (hb : NumIn .u64 B64 w bo lb cb ys) (h' : NumIn .u64 B64 w mo lm cm ms) (h0 : val B64 ms ≠ 0) (hsm : la + lb + lm < 100000000) :
    Calls Try.prog 15 #[.slice ao la ca, .slice bo lb cb, .pointer (some ⟨g, 0, none⟩)] w fun e w' => ∃ v, e = .returned v ∧ NumOut .u64 B64 w w' v ((val B64 xs + val B64 ys) % val B64 ms) lm := by
  have HC := mAdd_any ao bo mo la ca lb cb lm cm xs ys ms w h hb h' h0 (by omega)
  have kc := hk.1
  clear hk h hb h' h0
  go_enter Try.func15, Try.ntmps15
  go_wp2_with fail
  refine HC.mono ?_
  rintro e w1 ⟨v, rfl, a1, l1, c1, zs, rfl, n1, n2, n3, n4, n5⟩
  have HF : Hid (NumOut .u64 B64 w w1 (.slice a1 l1 c1) ((val B64 xs + val B64 ys) % val B64 ms) lm) := ⟨a1, l1, c1, zs, rfl, n1, n2, n3, n4, n5⟩
  clear n1 n2 n3 n4 n5 HC kc
  go_wp2
  go_ret
  exact ⟨_, rfl, HF.out⟩

set_option maxHeartbeats 400000 in
/-- latchkeylaw02.ModularSquares$3. -/
theorem sqSub_any (g : Nat) (ao bo mo : Option Addr) (la ca lb cb lm cm : Nat) (xs ys ms : List Int) (w : World) (hk : Kc w g (.slice mo lm cm)) (h : NumIn .u64 B64 w ao la ca xs) (hb : NumIn .u64 B64 w bo lb cb ys) (h' : NumIn .u64 B64 w mo lm cm ms) (h0 : val B64 ms ≠ 0) (hsm : la + lb + lm < 100000000) :
    Calls Try.prog 16 #[.slice ao la ca, .slice bo lb cb, .pointer (some ⟨g, 0, none⟩)] w fun e w' => ∃ v, e = .returned v ∧ NumOut .u64 B64 w w' v ((val B64 xs - val B64 ys) % val B64 ms) lm := by
  have HC := mSub_any ao bo mo la ca lb cb lm cm xs ys ms w h hb h' h0 (by omega)
  have kc := hk.1
  clear hk h hb h' h0
  go_enter Try.func16, Try.ntmps16
  go_wp2_with fail
  refine HC.mono ?_
  rintro e w1 ⟨v, rfl, a1, l1, c1, zs, rfl, n1, n2, n3, n4, n5⟩
  have HF : Hid (NumOut .u64 B64 w w1 (.slice a1 l1 c1) ((val B64 xs - val B64 ys) % val B64 ms) lm) := ⟨a1, l1, c1, zs, rfl, n1, n2, n3, n4, n5⟩
  clear n1 n2 n3 n4 n5 HC kc
  go_wp2
  go_ret
  exact ⟨_, rfl, HF.out⟩


end Go.Proofs.Ytjaokpgccnkipab
