/-
  The signs: contracts of b64.signOf and b64.valueOf.
-/
import Derived.Test.YtbhjidmbihkppaaB64M
namespace Go.Proofs.Ytbhjidmbihkppaa
open Go.RowKit
set_option linter.unusedVariables false
set_option linter.unusedSimpArgs false

/-- The sign of a value. -/
def sg (v : Nat) : Nat := if v < 26 then 65 + v else if v < 52 then 71 + v else if v < 62 then v - 4 else if v = 62 then 45 else 95
/-- Is it one of the 64? -/
def isS (c : Nat) : Bool := (65 ≤ c && c ≤ 90) || (97 ≤ c && c ≤ 122) || (48 ≤ c && c ≤ 57) || c == 45 || c == 95
/-- What a sign stands for. -/
def vS (c : Nat) : Nat := if 65 ≤ c ∧ c ≤ 90 then c - 65 else if 97 ≤ c ∧ c ≤ 122 then c - 71 else if 48 ≤ c ∧ c ≤ 57 then c + 4 else if c = 45 then 62 else if c = 95 then 63 else 0
theorem sg_facts : ∀ v : Nat, v < 64 → isS (sg v) = true ∧ vS (sg v) = v ∧ sg v < 128 := by decide
theorem vS_facts : ∀ c : Nat, c < 128 → isS c = true → sg (vS c) = c ∧ vS c < 64 := by decide
theorem isS_lt {c : Nat} (h : isS c = true) : c < 128 := by
  simp [isS] at h; omega
theorem vS_lt (c : Nat) : vS c < 64 := by
  unfold vS
  repeat' split
  all_goals omega

theorem ofInt32 (x : Nat) (h : x < 4294967296) : (BitVec.ofInt IntKind.u32.bits (x : Int)).toNat = x := by
  rw [BitVec.toNat_ofInt]
  show ((x : Int) % ((2 ^ 32 : Nat) : Int)).toNat = x
  omega
theorem wrap32 (x : Nat) (h : x < 4294967296) : IntKind.u32.wrap (x : Int) = (x : Int) := by rw [IntKind.wrap_u32]; omega
theorem and_u32 (x y : Nat) (hx : x < 4294967296) (hy : y < 4294967296) : bits .and .u32 (x : Int) (y : Int) = ((x &&& y : Nat) : Int) := by
  show IntKind.u32.wrap ((BitVec.ofInt IntKind.u32.bits (x : Int) &&& BitVec.ofInt IntKind.u32.bits (y : Int)).toNat : Int) = _
  rw [BitVec.toNat_and, ofInt32 x hx, ofInt32 y hy]
  exact wrap32 _ (Nat.lt_of_le_of_lt Nat.and_le_left hx)
theorem or_u32 (x y : Nat) (hx : x < 4294967296) (hy : y < 4294967296) : bits .or .u32 (x : Int) (y : Int) = ((x ||| y : Nat) : Int) := by
  show IntKind.u32.wrap ((BitVec.ofInt IntKind.u32.bits (x : Int) ||| BitVec.ofInt IntKind.u32.bits (y : Int)).toNat : Int) = _
  rw [BitVec.toNat_or, ofInt32 x hx, ofInt32 y hy]
  exact wrap32 _ (Nat.or_lt_two_pow (n := 32) hx hy)
/-- The last d bits. -/
theorem and_low (x d : Nat) (hx : x < 4294967296) (hd : d ≤ 31) : bits .and .u32 (x : Int) ((2 ^ d - 1 : Nat) : Int) = ((x % 2 ^ d : Nat) : Int) := by
  have h1 : 2 ^ d ≤ 2 ^ 31 := Nat.pow_le_pow_right (by decide) hd
  have h0 := Nat.two_pow_pos d
  rw [and_u32 _ _ hx (by omega), Nat.and_two_pow_sub_one_eq_mod]
/-- Bits put behind bits. -/
theorem or_behind (x y d : Nat) (hd : d ≤ 32) (hy : y < 2 ^ d) : bits .or .u32 ((x * 2 ^ d % 4294967296 : Nat) : Int) (y : Int) = (((x * 2 ^ d + y) % 4294967296 : Nat) : Int) := by
  have h1 : 2 ^ d ≤ 2 ^ 32 := Nat.pow_le_pow_right (by decide) hd
  have e : (4294967296 : Nat) = 2 ^ d * 2 ^ (32 - d) := by rw [← Nat.pow_add, show d + (32 - d) = 32 by omega]
  have e1 : x * 2 ^ d % 4294967296 = 2 ^ d * (x % 2 ^ (32 - d)) := by rw [e, Nat.mul_comm x, Nat.mul_mod_mul_left]
  have e2 : (x * 2 ^ d + y) % 4294967296 = 2 ^ d * (x % 2 ^ (32 - d)) + y := by
    rw [e, Nat.mul_comm x, Nat.mod_mul, Nat.mul_add_mod, Nat.mod_eq_of_lt hy, Nat.mul_add_div (Nat.two_pow_pos d), Nat.div_eq_of_lt hy, Nat.add_zero, Nat.add_comm]
  rw [or_u32 _ _ (Nat.mod_lt _ (by decide)) (by omega), e1, e2, Nat.two_pow_add_eq_or_of_lt hy]
theorem and63 (x : Nat) (hx : x < 4294967296) : bits .and .u32 (x : Int) 63 = ((x % 64 : Nat) : Int) := and_low x 6 hx (by decide)

set_option maxHeartbeats 1000000 in
/-- b64.signOf. -/
theorem signOf_any (x : Nat) (w : World) (hx : x < 4294967296) : Calls Try.prog 15 #[.int .u32 x] w fun e w' => e = .returned (.int .i32 (sg (x % 64) : Nat)) ∧ w' = w := by
  have ha := and63 x hx
  obtain ⟨v, hv⟩ : ∃ v, x % 64 = v := ⟨_, rfl⟩
  have hv64 : v < 64 := by omega
  rw [hv] at ha ⊢
  clear hv
  obtain ⟨r, hr⟩ : ∃ r : Int, ((sg v : Nat) : Int) = r := ⟨_, rfl⟩
  have HR : Hid (((sg v : Nat) : Int) = r) := hr
  rw [hr]
  clear hr
  go_enter Try.func15, Try.ntmps15
  by_cases h1 : v < 26
  · have h1' : (v : Int) < 26 := by omega
    go_wp2
    go_ret
    exact ⟨ret_int (by rw [← HR.out]; simp only [sg]; split <;> omega), rfl⟩
  · have h1' : ¬ (v : Int) < 26 := by omega
    by_cases h2 : v < 52
    · have h2' : (v : Int) < 52 := by omega
      go_wp2
      go_ret
      exact ⟨ret_int (by rw [← HR.out]; simp only [sg, if_neg h1, if_pos h2]; omega), rfl⟩
    · have h2' : ¬ (v : Int) < 52 := by omega
      by_cases h3 : v < 62
      · have h3' : (v : Int) < 62 := by omega
        go_wp2
        go_ret
        exact ⟨ret_int (by rw [← HR.out]; simp only [sg, if_neg h1, if_neg h2, if_pos h3]; omega), rfl⟩
      · have h3' : ¬ (v : Int) < 62 := by omega
        by_cases h4 : v = 62
        · subst h4
          go_wp2
          go_ret
          exact ⟨ret_int (by rw [← HR.out]; rfl), rfl⟩
        · obtain rfl : v = 63 := by omega
          go_wp2
          go_ret
          exact ⟨ret_int (by rw [← HR.out]; rfl), rfl⟩

theorem ret_pair {k : IntKind} {a a' : Int} {b b' : Bool} (h : a = a') (g : b = b') : Ending.returned (.tuple #[.int k a, .bool b]) = .returned (.tuple #[.int k a', .bool b']) := by rw [h, g]

set_option maxHeartbeats 4000000 in
/-- b64.valueOf. -/
theorem valueOf_any (c : Nat) (w : World) (hx : c < 2147483648) : Calls Try.prog 17 #[.int .i32 c] w fun e w' => e = .returned (.tuple #[.int .u32 (vS c : Nat), .bool (isS c)]) ∧ w' = w := by
  obtain ⟨r, hr⟩ : ∃ r : Int, ((vS c : Nat) : Int) = r := ⟨_, rfl⟩
  obtain ⟨q, hq⟩ : ∃ q : Bool, isS c = q := ⟨_, rfl⟩
  have HR : Hid (((vS c : Nat) : Int) = r ∧ isS c = q) := ⟨hr, hq⟩
  rw [hr, hq]
  clear hr hq
  go_enter Try.func17, Try.ntmps17
  by_cases g0 : c < 45
  · have b00 : ¬ 65 ≤ (c : Int) := by omega
    have b01 : (c : Int) ≤ 90 := by omega
    have b10 : ¬ 97 ≤ (c : Int) := by omega
    have b11 : (c : Int) ≤ 122 := by omega
    have b20 : ¬ 48 ≤ (c : Int) := by omega
    have b21 : (c : Int) ≤ 57 := by omega
    have b45 : (c : Int) ≠ 45 := by omega
    have b95 : (c : Int) ≠ 95 := by omega
    have HF : Hid (r = 0 ∧ q = false) := ⟨by rw [← HR.out.1]; simp only [vS]; (repeat' split) <;> omega, by rw [← HR.out.2]; simp [isS]; omega⟩
    go_wp2
    go_ret2
    exact ⟨ret_pair (by rw [HF.out.1]) (by rw [HF.out.2]), rfl⟩
  · skip
    by_cases g1 : c = 45
    · obtain rfl : c = 45 := by omega
      have HF : Hid (r = 62 ∧ q = true) := ⟨by rw [← HR.out.1]; rfl, by rw [← HR.out.2]; rfl⟩
      go_wp2
      go_ret2
      exact ⟨ret_pair (by rw [HF.out.1]) (by rw [HF.out.2]), rfl⟩
    · skip
      by_cases g2 : c < 48
      · have b00 : ¬ 65 ≤ (c : Int) := by omega
        have b01 : (c : Int) ≤ 90 := by omega
        have b10 : ¬ 97 ≤ (c : Int) := by omega
        have b11 : (c : Int) ≤ 122 := by omega
        have b20 : ¬ 48 ≤ (c : Int) := by omega
        have b21 : (c : Int) ≤ 57 := by omega
        have b45 : (c : Int) ≠ 45 := by omega
        have b95 : (c : Int) ≠ 95 := by omega
        have HF : Hid (r = 0 ∧ q = false) := ⟨by rw [← HR.out.1]; simp only [vS]; (repeat' split) <;> omega, by rw [← HR.out.2]; simp [isS]; omega⟩
        go_wp2
        go_ret2
        exact ⟨ret_pair (by rw [HF.out.1]) (by rw [HF.out.2]), rfl⟩
      · skip
        by_cases g3 : c ≤ 57
        · have b00 : ¬ 65 ≤ (c : Int) := by omega
          have b01 : (c : Int) ≤ 90 := by omega
          have b10 : ¬ 97 ≤ (c : Int) := by omega
          have b11 : (c : Int) ≤ 122 := by omega
          have b20 : 48 ≤ (c : Int) := by omega
          have b21 : (c : Int) ≤ 57 := by omega
          have b45 : (c : Int) ≠ 45 := by omega
          have b95 : (c : Int) ≠ 95 := by omega
          have HF : Hid (r = (c : Int) + 4 ∧ q = true) := ⟨by rw [← HR.out.1]; simp only [vS]; (repeat' split) <;> omega, by rw [← HR.out.2]; simp [isS]; omega⟩
          go_wp2
          go_ret2
          exact ⟨ret_pair (by rw [HF.out.1] <;> first | rfl | omega) (by rw [HF.out.2]), rfl⟩
        · skip
          by_cases g4 : c < 65
          · have b00 : ¬ 65 ≤ (c : Int) := by omega
            have b01 : (c : Int) ≤ 90 := by omega
            have b10 : ¬ 97 ≤ (c : Int) := by omega
            have b11 : (c : Int) ≤ 122 := by omega
            have b20 : 48 ≤ (c : Int) := by omega
            have b21 : ¬ (c : Int) ≤ 57 := by omega
            have b45 : (c : Int) ≠ 45 := by omega
            have b95 : (c : Int) ≠ 95 := by omega
            have HF : Hid (r = 0 ∧ q = false) := ⟨by rw [← HR.out.1]; simp only [vS]; (repeat' split) <;> omega, by rw [← HR.out.2]; simp [isS]; omega⟩
            go_wp2
            go_ret2
            exact ⟨ret_pair (by rw [HF.out.1]) (by rw [HF.out.2]), rfl⟩
          · skip
            by_cases g5 : c ≤ 90
            · have b00 : 65 ≤ (c : Int) := by omega
              have b01 : (c : Int) ≤ 90 := by omega
              have b10 : ¬ 97 ≤ (c : Int) := by omega
              have b11 : (c : Int) ≤ 122 := by omega
              have b20 : 48 ≤ (c : Int) := by omega
              have b21 : ¬ (c : Int) ≤ 57 := by omega
              have b45 : (c : Int) ≠ 45 := by omega
              have b95 : (c : Int) ≠ 95 := by omega
              have HF : Hid (r = (c : Int) - 65 ∧ q = true) := ⟨by rw [← HR.out.1]; simp only [vS]; (repeat' split) <;> omega, by rw [← HR.out.2]; simp [isS]; omega⟩
              go_wp2
              go_ret2
              exact ⟨ret_pair (by rw [HF.out.1] <;> first | rfl | omega) (by rw [HF.out.2]), rfl⟩
            · skip
              by_cases g6 : c < 95
              · have b00 : 65 ≤ (c : Int) := by omega
                have b01 : ¬ (c : Int) ≤ 90 := by omega
                have b10 : ¬ 97 ≤ (c : Int) := by omega
                have b11 : (c : Int) ≤ 122 := by omega
                have b20 : 48 ≤ (c : Int) := by omega
                have b21 : ¬ (c : Int) ≤ 57 := by omega
                have b45 : (c : Int) ≠ 45 := by omega
                have b95 : (c : Int) ≠ 95 := by omega
                have HF : Hid (r = 0 ∧ q = false) := ⟨by rw [← HR.out.1]; simp only [vS]; (repeat' split) <;> omega, by rw [← HR.out.2]; simp [isS]; omega⟩
                go_wp2
                go_ret2
                exact ⟨ret_pair (by rw [HF.out.1]) (by rw [HF.out.2]), rfl⟩
              · skip
                by_cases g7 : c = 95
                · obtain rfl : c = 95 := by omega
                  have HF : Hid (r = 63 ∧ q = true) := ⟨by rw [← HR.out.1]; rfl, by rw [← HR.out.2]; rfl⟩
                  go_wp2
                  go_ret2
                  exact ⟨ret_pair (by rw [HF.out.1]) (by rw [HF.out.2]), rfl⟩
                · skip
                  by_cases g8 : c < 97
                  · obtain rfl : c = 96 := by omega
                    have HF : Hid (r = 0 ∧ q = false) := ⟨by rw [← HR.out.1]; rfl, by rw [← HR.out.2]; rfl⟩
                    go_wp2
                    go_ret2
                    exact ⟨ret_pair (by rw [HF.out.1]) (by rw [HF.out.2]), rfl⟩
                  · skip
                    by_cases g9 : c ≤ 122
                    · have b00 : 65 ≤ (c : Int) := by omega
                      have b01 : ¬ (c : Int) ≤ 90 := by omega
                      have b10 : 97 ≤ (c : Int) := by omega
                      have b11 : (c : Int) ≤ 122 := by omega
                      have b20 : 48 ≤ (c : Int) := by omega
                      have b21 : ¬ (c : Int) ≤ 57 := by omega
                      have b45 : (c : Int) ≠ 45 := by omega
                      have b95 : (c : Int) ≠ 95 := by omega
                      have HF : Hid (r = (c : Int) - 71 ∧ q = true) := ⟨by rw [← HR.out.1]; simp only [vS]; (repeat' split) <;> omega, by rw [← HR.out.2]; simp [isS]; omega⟩
                      go_wp2
                      go_ret2
                      exact ⟨ret_pair (by rw [HF.out.1] <;> first | rfl | omega) (by rw [HF.out.2]), rfl⟩
                    · skip
                      have b00 : 65 ≤ (c : Int) := by omega
                      have b01 : ¬ (c : Int) ≤ 90 := by omega
                      have b10 : 97 ≤ (c : Int) := by omega
                      have b11 : ¬ (c : Int) ≤ 122 := by omega
                      have b20 : 48 ≤ (c : Int) := by omega
                      have b21 : ¬ (c : Int) ≤ 57 := by omega
                      have b45 : (c : Int) ≠ 45 := by omega
                      have b95 : (c : Int) ≠ 95 := by omega
                      have HF : Hid (r = 0 ∧ q = false) := ⟨by rw [← HR.out.1]; simp only [vS]; (repeat' split) <;> omega, by rw [← HR.out.2]; simp [isS]; omega⟩
                      go_wp2
                      go_ret2
                      exact ⟨ret_pair (by rw [HF.out.1]) (by rw [HF.out.2]), rfl⟩
end Go.Proofs.Ytbhjidmbihkppaa
