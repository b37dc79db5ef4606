/-
  Bytes as signs of six bits, and back: numbers of digits, the greatest first.
-/
import Derived.Test.YtbhjidmbihkppaaB64S
namespace Go.Proofs.Ytbhjidmbihkppaa
open Go.RowKit
set_option linter.unusedVariables false
set_option linter.unusedSimpArgs false

/-- A number of digits, the greatest first. -/
def be (B : Nat) (xs : List Nat) : Nat := xs.foldl (fun a x => a * B + x) 0
theorem be_foldl (B : Nat) (xs : List Nat) : ∀ a, xs.foldl (fun a x => a * B + x) a = a * B ^ xs.length + be B xs := by
  unfold be
  induction xs with
  | nil => simp
  | cons x r ih =>
    intro a
    simp only [List.foldl_cons, List.length_cons]
    rw [ih, ih (0 * B + x), Nat.pow_succ, Nat.zero_mul, Nat.zero_add, Nat.add_mul, Nat.mul_assoc, Nat.mul_comm B, Nat.add_assoc]
theorem be_append (B : Nat) (xs ys : List Nat) : be B (xs ++ ys) = be B xs * B ^ ys.length + be B ys := by
  show (xs ++ ys).foldl (fun a x => a * B + x) 0 = _
  rw [List.foldl_append]
  exact be_foldl B ys _
theorem be_one (B x : Nat) : be B [x] = x := by simp [be]
theorem be_snoc (B : Nat) (xs : List Nat) (x : Nat) : be B (xs ++ [x]) = be B xs * B + x := by rw [be_append, be_one]; simp
theorem be_cons (B : Nat) (x : Nat) (xs : List Nat) : be B (x :: xs) = x * B ^ xs.length + be B xs := by
  have := be_append B [x] xs
  rwa [be_one] at this
theorem be_lt {B : Nat} : ∀ {xs : List Nat}, (∀ x ∈ xs, x < B) → be B xs < B ^ xs.length
  | [], _ => by simp [be]
  | x :: r, h => by
    have h1 := be_lt (xs := r) (fun y hy => h y (by simp [hy]))
    have h2 : x + 1 ≤ B := h x (by simp)
    have h3 := Nat.mul_le_mul_right (B ^ r.length) h2
    rw [be_cons, List.length_cons, Nat.pow_succ, Nat.mul_comm _ B]
    rw [Nat.add_mul] at h3
    omega
theorem div_of_lt_add {a c r : Nat} (h : r < c) : (a * c + r) / c = a := by
  rw [Nat.mul_comm, Nat.mul_add_div (by omega), Nat.div_eq_of_lt h]; rfl
theorem be_take {B : Nat} {xs : List Nat} (h : ∀ x ∈ xs, x < B) (k : Nat) (hk : k ≤ xs.length) : be B (xs.take k) = be B xs / B ^ (xs.length - k) := by
  have e := be_append B (xs.take k) (xs.drop k)
  rw [List.take_append_drop, List.length_drop] at e
  have hl := be_lt (B := B) (xs := xs.drop k) (fun y hy => h y (List.mem_of_mem_drop hy))
  rw [List.length_drop] at hl
  rw [e, div_of_lt_add hl]
theorem take_succ_nat (xs : List Nat) (k : Nat) (h : k < xs.length) : xs.take (k + 1) = xs.take k ++ [xs.getD k 0] := by
  rw [List.take_add_one]; simp [List.getD, h]
theorem be_dig {B : Nat} {xs : List Nat} (h : ∀ x ∈ xs, x < B) (j : Nat) (hj : j < xs.length) : be B xs / B ^ (xs.length - 1 - j) % B = xs.getD j 0 := by
  have e := be_take h (j + 1) hj
  rw [show xs.length - 1 - j = xs.length - (j + 1) by omega, ← e, take_succ_nat xs j hj, be_snoc]
  have hx : xs.getD j 0 < B := by
    simp only [List.getD, List.getElem?_eq_getElem hj, Option.getD_some]
    exact h _ (List.getElem_mem hj)
  rw [Nat.mul_comm, Nat.mul_add_mod, Nat.mod_eq_of_lt hx]
theorem be_inj {B : Nat} {xs ys : List Nat} (hx : ∀ x ∈ xs, x < B) (hy : ∀ x ∈ ys, x < B) (hl : xs.length = ys.length) (h : be B xs = be B ys) : xs = ys := by
  apply List.ext_getElem hl
  intro j h1 h2
  have a := be_dig hx j h1
  have b := be_dig hy j h2
  rw [h, hl, b] at a
  simpa [List.getD, h1, h2] using a.symm
theorem be_digits (B : Nat) (hB : 0 < B) : ∀ (n X : Nat), be B ((List.range n).map fun j => X / B ^ (n - 1 - j) % B) = X % B ^ n
  | 0, X => by simp [be, Nat.mod_one]
  | n + 1, X => by
    have e : (List.range (n + 1)).map (fun j => X / B ^ (n + 1 - 1 - j) % B) = (List.range n).map (fun j => (X / B) / B ^ (n - 1 - j) % B) ++ [X % B] := by
      rw [List.range_succ, List.map_append]
      congr 1
      · apply List.map_congr_left
        intro j hj
        have hj := List.mem_range.1 hj
        rw [Nat.div_div_eq_div_mul, ← Nat.pow_succ', show (n - 1 - j).succ = n + 1 - 1 - j by omega]
      · simp
    rw [e, be_snoc, be_digits B hB n, Nat.pow_succ', Nat.mod_mul]
    rw [Nat.mul_comm]; omega

/-- The sign's value at place j. -/
def sx (bs : List Nat) (j : Nat) : Nat := be 256 bs * 64 / 2 ^ (8 * bs.length - 6 * j) % 64
def encL (bs : List Nat) : List Nat := (List.range ((8 * bs.length + 5) / 6)).map (sx bs)
/-- The bytes at hand in the values. -/
def byt (vs : List Nat) : List Nat := (List.range (6 * vs.length / 8)).map fun c => be 64 vs / 2 ^ (6 * vs.length - 8 * c - 8) % 256
theorem encL_length (bs : List Nat) : (encL bs).length = (8 * bs.length + 5) / 6 := by simp [encL]
theorem byt_length (vs : List Nat) : (byt vs).length = 6 * vs.length / 8 := by simp [byt]
theorem encL_lt (bs : List Nat) : ∀ x ∈ encL bs, x < 64 := by
  intro x hx
  obtain ⟨j, _, rfl⟩ := List.mem_map.1 hx
  exact Nat.mod_lt _ (by decide)
theorem byt_lt (vs : List Nat) : ∀ x ∈ byt vs, x < 256 := by
  intro x hx
  obtain ⟨j, _, rfl⟩ := List.mem_map.1 hx
  exact Nat.mod_lt _ (by decide)
theorem p64 (n : Nat) : (64 : Nat) ^ n = 2 ^ (6 * n) := by rw [Nat.pow_mul]
theorem p256 (n : Nat) : (256 : Nat) ^ n = 2 ^ (8 * n) := by rw [Nat.pow_mul]

theorem be_encL {bs : List Nat} (h : ∀ x ∈ bs, x < 256) : be 64 (encL bs) = be 256 bs * 2 ^ (6 * ((8 * bs.length + 5) / 6) - 8 * bs.length) := by
  obtain ⟨n, hn⟩ : ∃ n, (8 * bs.length + 5) / 6 = n := ⟨_, rfl⟩
  obtain ⟨d, hd⟩ : ∃ d, 6 * n - 8 * bs.length = d := ⟨_, rfl⟩
  have e : encL bs = (List.range n).map fun j => be 256 bs * 2 ^ d / 64 ^ (n - 1 - j) % 64 := by
    unfold encL
    rw [hn]
    apply List.map_congr_left
    intro j hj
    have hj := List.mem_range.1 hj
    unfold sx
    congr 1
    rw [p64, ← Nat.mul_div_mul_right (be 256 bs * 64) (2 ^ (8 * bs.length - 6 * j)) (Nat.two_pow_pos d), ← Nat.pow_add, show 8 * bs.length - 6 * j + d = 6 * (n - 1 - j) + 6 by omega, Nat.pow_add, Nat.mul_assoc, Nat.mul_comm 64, ← Nat.mul_assoc]
    exact Nat.mul_div_mul_right _ _ (by decide)
  rw [e, be_digits 64 (by decide), hn, hd]
  apply Nat.mod_eq_of_lt
  have hl := be_lt h
  rw [p256] at hl
  rw [p64, show 6 * n = 8 * bs.length + d by omega, Nat.pow_add]
  exact Nat.mul_lt_mul_of_pos_right hl (Nat.two_pow_pos d)
theorem be_byt {vs : List Nat} (h : ∀ x ∈ vs, x < 64) : be 256 (byt vs) = be 64 vs / 2 ^ (6 * vs.length % 8) := by
  obtain ⟨m, hm⟩ : ∃ m, 6 * vs.length / 8 = m := ⟨_, rfl⟩
  obtain ⟨d, hd⟩ : ∃ d, 6 * vs.length % 8 = d := ⟨_, rfl⟩
  have e : byt vs = (List.range m).map fun j => (be 64 vs / 2 ^ d) / 256 ^ (m - 1 - j) % 256 := by
    unfold byt
    rw [hm]
    apply List.map_congr_left
    intro j hj
    have hj := List.mem_range.1 hj
    congr 1
    rw [p256, Nat.div_div_eq_div_mul, ← Nat.pow_add, show d + 8 * (m - 1 - j) = 6 * vs.length - 8 * j - 8 by omega]
  rw [e, be_digits 256 (by decide), hd]
  apply Nat.mod_eq_of_lt
  have hl := be_lt h
  rw [p64, show 6 * vs.length = 8 * m + d by omega, Nat.pow_add] at hl
  rw [p256]
  exact (Nat.div_lt_iff_lt_mul (Nat.two_pow_pos d)).2 hl

/-- The values are those of some bytes. -/
abbrev Full (vs : List Nat) : Prop := 6 * vs.length % 8 ≠ 6 ∧ be 64 vs % 2 ^ (6 * vs.length % 8) = 0
theorem full_of_enc {vs : List Nat} (h : ∀ x ∈ vs, x < 64) (e : encL (byt vs) = vs) : Full vs := by
  have hl : (encL (byt vs)).length = vs.length := by rw [e]
  rw [encL_length, byt_length] at hl
  have h6 : 6 * vs.length % 8 ≠ 6 := by omega
  refine ⟨h6, ?_⟩
  have hb := be_encL (byt_lt vs)
  rw [e, byt_length, hl, be_byt h, show 6 * vs.length - 8 * (6 * vs.length / 8) = 6 * vs.length % 8 by omega] at hb
  rw [hb, Nat.mul_mod_left]
theorem enc_of_full {vs : List Nat} (h : ∀ x ∈ vs, x < 64) (f : Full vs) : encL (byt vs) = vs := by
  obtain ⟨h6, h0⟩ := f
  have hl : (8 * (6 * vs.length / 8) + 5) / 6 = vs.length := by omega
  refine be_inj (encL_lt _) h (by rw [encL_length, byt_length, hl]) ?_
  rw [be_encL (byt_lt vs), byt_length, hl, be_byt h, show 6 * vs.length - 8 * (6 * vs.length / 8) = 6 * vs.length % 8 by omega]
  exact Nat.div_mul_cancel (Nat.dvd_of_mod_eq_zero h0)
theorem full_enc {bs : List Nat} (h : ∀ x ∈ bs, x < 256) : Full (encL bs) := by
  have hn := encL_length bs
  refine ⟨by rw [hn]; omega, ?_⟩
  rw [be_encL h, hn, show 6 * ((8 * bs.length + 5) / 6) % 8 = 6 * ((8 * bs.length + 5) / 6) - 8 * bs.length by omega, Nat.mul_mod_left]
theorem byt_enc {bs : List Nat} (h : ∀ x ∈ bs, x < 256) : byt (encL bs) = bs := by
  have hn := encL_length bs
  refine be_inj (byt_lt _) h (by rw [byt_length, hn]; omega) ?_
  rw [be_byt (encL_lt bs), be_encL h, hn, show 6 * ((8 * bs.length + 5) / 6) % 8 = 6 * ((8 * bs.length + 5) / 6) - 8 * bs.length by omega]
  exact Nat.mul_div_cancel _ (Nat.two_pow_pos _)
theorem enc_append {a b : List Nat} (ha : ∀ x ∈ a, x < 256) (hb : ∀ x ∈ b, x < 256) (h3 : a.length % 3 = 0) : encL (a ++ b) = encL a ++ encL b := by
  obtain ⟨q, hq⟩ : ∃ q, a.length = 3 * q := ⟨a.length / 3, by omega⟩
  have hab : ∀ x ∈ a ++ b, x < 256 := fun x hx => (List.mem_append.1 hx).elim (ha x) (hb x)
  obtain ⟨nb, hnb⟩ : ∃ n, (8 * b.length + 5) / 6 = n := ⟨_, rfl⟩
  refine be_inj (encL_lt _) (fun x hx => (List.mem_append.1 hx).elim (encL_lt a x) (encL_lt b x)) ?_ ?_
  · rw [List.length_append, encL_length, encL_length, encL_length, List.length_append]; omega
  · rw [be_append, be_encL hab, be_encL ha, be_encL hb, encL_length, List.length_append, be_append, hnb]
    rw [show 6 * ((8 * a.length + 5) / 6) - 8 * a.length = 0 by omega, show 6 * ((8 * (a.length + b.length) + 5) / 6) - 8 * (a.length + b.length) = 6 * nb - 8 * b.length by omega]
    rw [p64, p256, Nat.pow_zero, Nat.mul_one, Nat.add_mul, Nat.mul_assoc, ← Nat.pow_add, show 8 * b.length + (6 * nb - 8 * b.length) = 6 * nb by omega]
end Go.Proofs.Ytbhjidmbihkppaa
