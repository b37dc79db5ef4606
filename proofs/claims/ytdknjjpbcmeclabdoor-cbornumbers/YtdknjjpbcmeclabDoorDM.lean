/-
  A number's form is read as the number, if it is the shortest.
-/
import Derived.Test.YtdknjjpbcmeclabDoorCM
import Derived.Test.YtdknjjpbcmeclabDoorCN
namespace Go.Proofs.YtdknjjpbcmeclabDoor
open Go.RowKit
set_option linter.unusedVariables false
set_option linter.unusedSimpArgs false

theorem fold_from : ∀ (l : Bs) (a : Nat), l.foldl (fun a c => a * 256 + c.toNat) a = a * 256 ^ l.length + l.foldl (fun a c => a * 256 + c.toNat) 0
  | [], a => by simp
  | c :: l, a => by
    rw [List.foldl_cons, fold_from l, List.foldl_cons, fold_from l (0 * 256 + c.toNat), List.length_cons, Nat.pow_succ, Nat.add_mul, Nat.zero_mul, Nat.zero_add, Nat.mul_assoc, Nat.mul_comm 256 (256 ^ l.length), Nat.add_assoc]
theorem bv_cons (c : UInt8) (l : Bs) : bv (c :: l) = c.toNat * 256 ^ l.length + bv l := by
  unfold bv
  rw [List.foldl_cons, fold_from, Nat.zero_mul, Nat.zero_add]
theorem beF_len : ∀ (s n : Nat), (beF s n).length = s
  | 0, n => rfl
  | s + 1, n => by rw [beF, List.length_cons, beF_len s n]
theorem beF_bv : ∀ (s n : Nat), bv (beF s n) = n % 256 ^ s
  | 0, n => by simp [beF, bv, Nat.mod_one]
  | s + 1, n => by
    rw [beF, bv_cons, beF_len, beF_bv s n]
    have h1 : (UInt8.ofNat (n / 256 ^ s % 256)).toNat = n / 256 ^ s % 256 := by
      simp
    rw [h1, Nat.pow_succ, Nat.mod_mul, Nat.mul_comm (256 ^ s), Nat.add_comm]
theorem whole_num (K k m : Nat) (hK : K ≤ 1) (hk : k = 0 ∨ k = 1 ∨ k = 2 ∨ k = 3) (hm : m < 256 ^ 2 ^ k) :
    wholeC (UInt8.ofNat (32 * K + 24 + k) :: beF (2 ^ k) m) = if m < leastC k then .error 22 else .ok ⟨K + 1, m, [], []⟩ := by
  have hl := beF_len (2 ^ k) m
  have h8 : 2 ^ k ≤ 8 := by rcases hk with rfl | rfl | rfl | rfl <;> decide
  have hc : (UInt8.ofNat (32 * K + 24 + k)).toNat = 32 * K + 24 + k := by
    simp
    omega
  have hbv : bv (beF (2 ^ k) m) = m := by rw [beF_bv, Nat.mod_eq_of_lt hm]
  have hbe : beC (2 ^ k) 0 (beF (2 ^ k) m) = some (m, []) := by
    rw [beC_bv _ _ _ (by omega)]
    have e1 : (beF (2 ^ k) m).take (2 ^ k) = beF (2 ^ k) m := List.take_of_length_le (by omega)
    have e2 : (beF (2 ^ k) m).drop (2 ^ k) = [] := List.drop_of_length_le (by omega)
    rw [e1, e2]
    show some (bv _, _) = _
    rw [hbv]
  have hnum : numC (24 + k) (beF (2 ^ k) m) = if m < leastC k then .error 22 else .ok (m, []) := by
    unfold numC
    rw [if_neg (by omega), if_neg (by omega), show 24 + k - 24 = k by omega, hbe]
  unfold wholeC decC
  rw [if_neg (by simp [hl]; omega), itemC_eq, if_neg (by decide)]
  simp only []
  rw [hc, if_neg (by omega), show (32 * K + 24 + k) % 32 = 24 + k by omega, hnum]
  by_cases hs : m < leastC k
  · rw [if_pos hs, if_pos hs]
  · rw [if_neg hs, if_neg hs]
    simp only []
    rw [show (32 * K + 24 + k) / 32 = K by omega]
    have hb : behC 8 0 K m (0 + 1) [] = .ok (⟨K + 1, m, [], []⟩, 1, []) := by
      rcases (by omega : K = 0 ∨ K = 1) with rfl | rfl <;> rfl
    rw [hb]
    rfl
end Go.Proofs.YtdknjjpbcmeclabDoor
