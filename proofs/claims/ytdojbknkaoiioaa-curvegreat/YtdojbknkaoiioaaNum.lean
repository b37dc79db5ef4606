/-
  Plain mathematics of numbers written as digits, the least first: values, the place of the greatest digit that isn't 0, uniqueness. No program in sight.
-/
import Derived.WalkKit
namespace Go.Proofs.Ytdojbknkaoiioaa
open Go.RowKit
set_option linter.unusedVariables false

/-- The number that digits say, in base B, the least first. -/
def val (B : Int) : List Int → Int
  | [] => 0
  | x :: xs => x + B * val B xs

/-- How many digits there are up to the greatest that isn't 0. -/
def top : List Int → Nat
  | [] => 0
  | x :: xs => if top xs = 0 then (if x = 0 then 0 else 1) else top xs + 1

/-- Each is a digit of base B. -/
def Dg (B : Int) (xs : List Int) : Prop := ∀ x ∈ xs, 0 ≤ x ∧ x < B

theorem top_le (xs : List Int) : top xs ≤ xs.length := by
  induction xs with
  | nil => simp [top]
  | cons x xs ih => simp only [top, List.length_cons]; split <;> (try split) <;> omega

theorem top_above : ∀ (xs : List Int) (j : Nat), top xs ≤ j → xs.getD j 0 = 0
  | [], j, _ => by simp
  | x :: xs, j, h => by
    simp only [top] at h
    split at h
    · rename_i h0
      split at h
      · rename_i hx
        cases j with
        | zero => simpa using hx
        | succ j => simpa using top_above xs j (by omega)
      · cases j with
        | zero => omega
        | succ j => simpa using top_above xs j (by omega)
    · cases j with
      | zero => omega
      | succ j => simpa using top_above xs j (by omega)

theorem top_hit : ∀ (xs : List Int) (h : 0 < top xs), xs.getD (top xs - 1) 0 ≠ 0
  | [], h => by simp [top] at h
  | x :: xs, h => by
    simp only [top] at h ⊢
    split
    · rename_i h0
      rw [if_pos h0] at h
      split
      · rename_i hx; rw [if_pos hx] at h; omega
      · simpa
    · rename_i h0
      have := top_hit xs (by omega)
      obtain ⟨m, hm⟩ : ∃ m, top xs = m + 1 := ⟨top xs - 1, by omega⟩
      rw [hm] at this ⊢
      simpa using this

/-- The place is told by what stands there and above. -/
theorem top_eq (xs : List Int) (n : Nat) (h1 : ∀ j, n ≤ j → j < xs.length → xs.getD j 0 = 0) (h2 : n = 0 ∨ xs.getD (n - 1) 0 ≠ 0) : top xs = n := by
  rcases Nat.lt_trichotomy (top xs) n with h | h | h
  · rcases h2 with h2 | h2
    · omega
    · exact absurd (top_above xs (n - 1) (by omega)) h2
  · exact h
  · have hl := top_le xs
    exact absurd (h1 (top xs - 1) (by omega) (by omega)) (top_hit xs (by omega))

theorem val_nil (B : Int) : val B [] = 0 := rfl
theorem val_cons (B x : Int) (xs : List Int) : val B (x :: xs) = x + B * val B xs := rfl
theorem val_append (B : Int) (xs ys : List Int) : val B (xs ++ ys) = val B xs + B ^ xs.length * val B ys := by
  induction xs with
  | nil => simp [val]
  | cons x xs ih => simp only [List.cons_append, val, ih, List.length_cons, Int.pow_succ]; grind
theorem val_zeros (B : Int) : ∀ (xs : List Int), (∀ j, xs.getD j 0 = 0) → val B xs = 0
  | [], _ => rfl
  | x :: xs, h => by
    have h0 := h 0
    simp at h0
    rw [val, h0, val_zeros B xs (fun j => by simpa using h (j + 1))]
    simp
theorem val_replicate (B : Int) (n : Nat) : val B (List.replicate n 0) = 0 := val_zeros B _ (fun j => by simp [List.getD, List.getElem?_replicate]; split <;> rfl)
theorem val_take_top (B : Int) (xs : List Int) : val B (xs.take (top xs)) = val B xs := by
  have h : val B (xs.drop (top xs)) = 0 := val_zeros B _ (fun j => by
    have := top_above xs (top xs + j) (by omega)
    simpa [List.getD, List.getElem?_drop] using this)
  have h2 := val_append B (xs.take (top xs)) (xs.drop (top xs))
  rw [List.take_append_drop, h] at h2
  rw [h2]; simp
theorem top_take_top (xs : List Int) : top (xs.take (top xs)) = (xs.take (top xs)).length := by
  have hl := top_le xs
  have hlen : (xs.take (top xs)).length = top xs := by simp; omega
  rw [hlen]
  refine top_eq _ _ (fun j h1 h2 => by omega) ?_
  by_cases h : top xs = 0
  · exact .inl h
  · right
    have := top_hit xs (by omega)
    simp only [List.getD, List.getElem?_take] at this ⊢
    rw [if_pos (by omega)]
    exact this

theorem Dg.nil (B : Int) : Dg B [] := fun x h => by simp at h
theorem Dg.cons {B x : Int} {xs : List Int} (h : 0 ≤ x ∧ x < B) (t : Dg B xs) : Dg B (x :: xs) := fun y hy => by
  rcases List.mem_cons.1 hy with rfl | hy
  · exact h
  · exact t y hy
theorem Dg.head {B x : Int} {xs : List Int} (h : Dg B (x :: xs)) : 0 ≤ x ∧ x < B := h x (by simp)
theorem Dg.tail {B x : Int} {xs : List Int} (h : Dg B (x :: xs)) : Dg B xs := fun y hy => h y (by simp [hy])
theorem Dg.append {B : Int} {xs ys : List Int} (h : Dg B xs) (k : Dg B ys) : Dg B (xs ++ ys) := fun y hy => by
  rcases List.mem_append.1 hy with hy | hy
  · exact h y hy
  · exact k y hy
theorem Dg.take {B : Int} {xs : List Int} (h : Dg B xs) (n : Nat) : Dg B (xs.take n) := fun y hy => h y (List.mem_of_mem_take hy)
theorem Dg.drop {B : Int} {xs : List Int} (h : Dg B xs) (n : Nat) : Dg B (xs.drop n) := fun y hy => h y (List.mem_of_mem_drop hy)
theorem Dg.set {B : Int} {xs : List Int} (h : Dg B xs) (n : Nat) {y : Int} (hy : 0 ≤ y ∧ y < B) : Dg B (xs.set n y) := fun z hz => by
  rcases List.mem_or_eq_of_mem_set hz with hz | rfl
  · exact h z hz
  · exact hy
theorem Dg.zeros {B : Int} (hB : 0 < B) (n : Nat) : Dg B (List.replicate n 0) := fun y hy => by
  rw [List.eq_of_mem_replicate hy]; omega
theorem Dg.getD {B : Int} {xs : List Int} (hB : 0 < B) (h : Dg B xs) (i : Nat) : 0 ≤ xs.getD i 0 ∧ xs.getD i 0 < B := by
  by_cases hi : i < xs.length
  · have : xs.getD i 0 = xs[i] := by simp [List.getD, hi]
    rw [this]; exact h _ (List.getElem_mem hi)
  · have : xs.getD i 0 = 0 := by simp [List.getD, List.getElem?_eq_none (by omega : xs.length ≤ i)]
    rw [this]; omega

theorem val_nonneg {B : Int} (hB : 0 < B) : ∀ {xs : List Int}, Dg B xs → 0 ≤ val B xs
  | [], _ => by simp [val]
  | x :: xs, h => by
    have h1 := h.head
    have h2 := val_nonneg hB h.tail
    have h3 : 0 ≤ B * val B xs := Int.mul_nonneg (by omega) h2
    rw [val]; omega
theorem val_lt {B : Int} (hB : 0 < B) : ∀ {xs : List Int}, Dg B xs → val B xs < B ^ xs.length
  | [], _ => by simp [val]
  | x :: xs, h => by
    have h1 := h.head
    have h2 := val_lt hB h.tail
    have h3 : B * (val B xs + 1) ≤ B * B ^ xs.length := Int.mul_le_mul_of_nonneg_left (by omega) (by omega)
    rw [val, List.length_cons, Int.pow_succ, Int.mul_comm (B ^ xs.length) B]
    rw [Int.mul_add] at h3
    omega

/-- Two digits' lists of one length that say one number are one. -/
theorem val_inj {B : Int} (hB : 0 < B) : ∀ {xs ys : List Int}, xs.length = ys.length → Dg B xs → Dg B ys → val B xs = val B ys → xs = ys
  | [], [], _, _, _, _ => rfl
  | [], y :: ys, h, _, _, _ => by simp at h
  | x :: xs, [], h, _, _, _ => by simp at h
  | x :: xs, y :: ys, hl, hx, hy, hv => by
    rw [val, val] at hv
    have h1 := hx.head
    have h2 := hy.head
    have e1 : x = y := by
      have a : (x + B * val B xs) % B = x := by rw [Int.add_mul_emod_self_left]; exact Int.emod_eq_of_lt h1.1 h1.2
      have b : (y + B * val B ys) % B = y := by rw [Int.add_mul_emod_self_left]; exact Int.emod_eq_of_lt h2.1 h2.2
      rw [← a, hv, b]
    have e2 : val B xs = val B ys := by
      have : B * val B xs = B * val B ys := by omega
      exact Int.eq_of_mul_eq_mul_left (by omega) this
    rw [e1, val_inj hB (by simpa using hl) hx.tail hy.tail e2]

/-- Digits without zeros above the greatest say a number that fills them. -/
theorem val_ge {B : Int} (hB : 0 < B) {xs : List Int} (hd : Dg B xs) (n : Nat) (h : top xs = n + 1) : B ^ n ≤ val B xs := by
  have h0 := val_take_top B xs
  have hl := top_le xs
  have ht := top_hit xs (by omega)
  rw [h] at h0 ht
  have e : xs.take (n + 1) = xs.take n ++ [xs.getD n 0] := by
    rw [List.take_succ_eq_append_getElem (by omega)]
    congr 2
    simp [List.getD, List.getElem?_eq_getElem (show n < xs.length by omega)]
  rw [e, val_append] at h0
  have hn : (xs.take n).length = n := by simp; omega
  have hg := hd.getD hB n
  have hv := val_nonneg hB (hd.take n)
  rw [← h0, hn]
  simp only [Nat.add_sub_cancel] at ht
  have hp : 0 < B ^ n := Int.pow_pos hB
  have : B ^ n * 1 ≤ B ^ n * val B [xs.getD n 0] := Int.mul_le_mul_of_nonneg_left (by simp only [val]; omega) (by omega)
  omega

theorem pow_mono {B : Int} (hB : 1 ≤ B) {m n : Nat} (h : m ≤ n) : B ^ m ≤ B ^ n := by
  obtain ⟨k, rfl⟩ := Nat.le.dest h
  rw [Int.pow_add]
  have h1 : 0 < B ^ m := Int.pow_pos (by omega)
  have h2 : 0 < B ^ k := Int.pow_pos (by omega)
  have := Int.mul_le_mul_of_nonneg_left (show 1 ≤ B ^ k by omega) (show 0 ≤ B ^ m by omega)
  omega

/-- How many digits a number fills is told by the number. -/
theorem top_mono {B : Int} (hB : 1 < B) {xs ys : List Int} (hx : Dg B xs) (hy : Dg B ys) (h : val B xs ≤ val B ys) : top xs ≤ top ys := by
  by_cases h1 : top xs ≤ top ys
  · exact h1
  · exfalso
    obtain ⟨n, hn⟩ : ∃ n, top xs = n + 1 := ⟨top xs - 1, by omega⟩
    have a := val_ge (by omega) hx n hn
    have b := val_lt (by omega) (hy.take (top ys))
    rw [val_take_top] at b
    have hl := top_le ys
    have c : (ys.take (top ys)).length = top ys := by simp; omega
    rw [c] at b
    have d := pow_mono (B := B) (by omega) (show top ys ≤ n by omega)
    omega

/-- No zeros above the greatest digit. -/
def Canon (xs : List Int) : Prop := top xs = xs.length
theorem Canon.nil : Canon [] := rfl
theorem canon_take_top (xs : List Int) : Canon (xs.take (top xs)) := top_take_top xs

/-- One number has one form. -/
theorem canon_inj {B : Int} (hB : 1 < B) {xs ys : List Int} (hx : Dg B xs) (hy : Dg B ys) (cx : Canon xs) (cy : Canon ys) (h : val B xs = val B ys) : xs = ys := by
  have a := top_mono hB hx hy (by omega)
  have b := top_mono hB hy hx (by omega)
  unfold Canon at cx cy
  exact val_inj (by omega) (by omega) hx hy h

/-! ### Numbers in memory -/
/-- The slice at that address, of that length, holds the numbers xs (of that kind). -/
def Lies (k : IntKind) (w : World) (ao : Option Addr) (len : Nat) (xs : List Int) : Prop :=
  xs.length = len ∧ (len = 0 ∨ ∃ b off, ao = some ⟨b, off, none⟩ ∧ b < w.heap.size ∧ ∀ i, i < len → w.cell? ⟨b, off + i, none⟩ = some (.int k (xs.getD i 0)))

theorem Lies.len {k : IntKind} {w : World} {ao : Option Addr} {len : Nat} {xs : List Int} (h : Lies k w ao len xs) : xs.length = len := h.1
theorem Lies.at {k : IntKind} {w : World} {ao : Option Addr} {len : Nat} {xs : List Int} (h : Lies k w ao len xs) (hl : 0 < len) :
    ∃ b off, ao = some ⟨b, off, none⟩ ∧ b < w.heap.size ∧ ∀ i, i < len → w.cell? ⟨b, off + i, none⟩ = some (.int k (xs.getD i 0)) := by
  rcases h.2 with h | h
  · omega
  · exact h
theorem Lies.below {k : IntKind} {w w' : World} {ao : Option Addr} {len : Nat} {xs : List Int} (h : Lies k w ao len xs) {B : Nat} (hb : Below B w w') (hB : ∀ b off s, ao = some ⟨b, off, s⟩ → b < w.heap.size → b < B) : Lies k w' ao len xs := by
  refine ⟨h.1, ?_⟩
  rcases h.2 with h0 | ⟨b, off, e, hlt, hc⟩
  · exact .inl h0
  · exact .inr ⟨b, off, e, Nat.lt_of_lt_of_le hlt hb.size, fun i hi => (hb.cell (p := ⟨b, off + i, none⟩) (hB b off none e hlt)).trans (hc i hi)⟩
theorem Lies.old {k : IntKind} {w w' : World} {ao : Option Addr} {len : Nat} {xs : List Int} (h : Lies k w ao len xs) (hb : Below w.heap.size w w') : Lies k w' ao len xs :=
  h.below hb fun _ _ _ _ h => h
theorem Lies.take {k : IntKind} {w : World} {ao : Option Addr} {len : Nat} {xs : List Int} (h : Lies k w ao len xs) (n : Nat) (hn : n ≤ len) : Lies k w ao n (xs.take n) := by
  refine ⟨by rw [List.length_take, h.1]; omega, ?_⟩
  rcases h.2 with h0 | ⟨b, off, e, hlt, hc⟩
  · exact .inl (by omega)
  · refine .inr ⟨b, off, e, hlt, fun i hi => ?_⟩
    rw [hc i (by omega)]
    simp only [List.getD, List.getElem?_take]
    rw [if_pos hi]
theorem Lies.empty (k : IntKind) (w : World) (ao : Option Addr) : Lies k w ao 0 [] := ⟨rfl, .inl rfl⟩

end Go.Proofs.Ytdojbknkaoiioaa
