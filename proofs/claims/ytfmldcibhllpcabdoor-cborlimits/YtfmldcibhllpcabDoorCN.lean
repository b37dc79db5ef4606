/-
  The code's reader: a number.
-/
import Derived.Test.YtfmldcibhllpcabDoorCR
import Derived.Laws.BitsAllLaws
namespace Go.Proofs.YtfmldcibhllpcabDoor
open Go.Shelf Go.RowKit
set_option linter.unusedVariables false
set_option linter.unusedSimpArgs false

/-- Bytes as a number, the greatest first. -/
def bv (l : Bs) : Nat := l.foldl (fun a c => a * 256 + c.toNat) 0
theorem bv_snoc (l : Bs) (c : UInt8) : bv (l ++ [c]) = bv l * 256 + c.toNat := by simp [bv]
theorem fold_lt : ∀ (l : Bs) (a : Nat), l.foldl (fun a c => a * 256 + c.toNat) a < (a + 1) * 256 ^ l.length
  | [], a => by simp
  | c :: l, a => by
    have h := fold_lt l (a * 256 + c.toNat)
    have hc := c.toNat_lt
    rw [List.foldl_cons, List.length_cons, Nat.pow_succ]
    refine Nat.lt_of_lt_of_le h ?_
    rw [Nat.mul_comm (256 ^ l.length) 256, ← Nat.mul_assoc]
    exact Nat.mul_le_mul_right _ (by omega)
theorem bv_lt (l : Bs) : bv l < 256 ^ l.length := by
  have := fold_lt l 0
  simpa [bv] using this
theorem beC_bv : ∀ (k a : Nat) (xs : Bs), k ≤ xs.length → beC k a xs = some ((xs.take k).foldl (fun a c => a * 256 + c.toNat) a, xs.drop k)
  | 0, a, xs, _ => by simp [beC]
  | k + 1, a, [], h => by simp at h
  | k + 1, a, c :: xs, h => by
    rw [beC, beC_bv k _ xs (by simpa using h)]
    simp
theorem beC_none : ∀ (k a : Nat) (xs : Bs), xs.length < k → beC k a xs = none
  | 0, a, xs, h => by omega
  | k + 1, a, [], _ => rfl
  | k + 1, a, c :: xs, h => by rw [beC, beC_none k _ xs (by simpa using h)]
theorem or_u64b (x y d : Nat) (hy : y < 2 ^ d) (hx : x * 2 ^ d + y < 18446744073709551616) : bits .or .u64 ((x * 2 ^ d : Nat) : Int) (y : Int) = ((x * 2 ^ d + y : Nat) : Int) := by
  rw [u64_or_nat _ _ (Nat.lt_of_le_of_lt (Nat.le_add_right _ _) hx) (Nat.lt_of_le_of_lt (Nat.le_add_left _ _) hx), Nat.mul_comm x, Nat.two_pow_add_eq_or_of_lt hy]
theorem or8_u64 (x y : Nat) (hy : y < 256) (hx : x * 256 + y < 18446744073709551616) : bits .or .u64 ((x * 256 : Nat) : Int) (y : Int) = ((x * 256 + y : Nat) : Int) := or_u64b x y 8 hy hx
theorem take_snoc {l : Bs} {k : Nat} {c : UInt8} (h : l[k]? = some c) : l.take (k + 1) = l.take k ++ [c] := by
  rw [List.take_add_one, h]
  rfl

theorem szC_short (k n : Nat) (hk : k = 0 ∨ k = 1 ∨ k = 2 ∨ k = 3) : szC n < 2 ^ k ↔ n < leastC k := by
  unfold szC leastC
  rcases hk with rfl | rfl | rfl | rfl
  all_goals simp
  all_goals repeat' split
  all_goals omega

set_option maxRecDepth 100000 in
set_option maxHeartbeats 4000000 in
/-- number, with bytes behind: s: so many. -/
theorem cnumber_at (s k : Nat) (hs : s = 2 ^ k) (hk : k = 0 ∨ k = 1 ∨ k = 2 ∨ k = 3) (low : Nat) (hlow : low = 24 + k) (g : Nat) (bs : Bs) (t o : Nat) (w : World) (h : Cr w g bs t o) (hl : s ≤ bs.length) :
    Calls Tryd.prog 24 #[.pointer (some ⟨g, 0, none⟩), .int .u8 (low : Int)] w fun e w' => But g w w' ∧ Cr w' g (bs.drop s) t o ∧
      e = .returned (if bv (bs.take s) < leastC k then .tuple #[.int .u64 0, .int .i64 22] else .tuple #[.int .u64 (bv (bs.take s) : Int), .int .i64 0]) := by
  have HT := fun W (hW : Cr W g bs t o) => ctake_yes g s bs t o W hW hl
  have HZ := sizeOf_any (bv (bs.take s))
  obtain ⟨B, hB⟩ : ∃ B, bv (bs.take s) = B := ⟨_, rfl⟩
  have hBlt : B < 18446744073709551616 := by
    have h1 := bv_lt (bs.take s)
    rw [List.length_take, Nat.min_eq_left hl, hB] at h1
    have h2 : (256 : Nat) ^ s ≤ 256 ^ 8 := Nat.pow_le_pow_right (by decide) (by rcases hk with rfl | rfl | rfl | rfl <;> simp at hs <;> omega)
    omega
  rw [hB] at HZ ⊢
  obtain ⟨z, hz⟩ : ∃ z, szC B = z := ⟨_, rfl⟩
  have hzs := szC_short k B hk
  rw [hz, ← hs] at hzs
  rw [hz] at HZ
  have HS : Hid (z < s ↔ B < leastC k) := hzs
  have hz8 : z ≤ 8 := by rw [← hz]; unfold szC; (repeat' split) <;> omega
  obtain ⟨R, hR⟩ : ∃ R, (if B < leastC k then Value.tuple #[.int .u64 0, .int .i64 22] else .tuple #[.int .u64 (B : Int), .int .i64 0]) = R := ⟨_, rfl⟩
  rw [hR]
  have HR : Hid ((if B < leastC k then Value.tuple #[.int .u64 0, .int .i64 22] else .tuple #[.int .u64 (B : Int), .int .i64 0]) = R) := hR
  have hs8 : s ≤ 8 := by rcases hk with rfl | rfl | rfl | rfl <;> simp at hs <;> omega
  have HBV : Hid (bv (bs.take s) = B ∧ s ≤ 8) := ⟨hB, hs8⟩
  have hl1 : low = 24 ∧ s = 1 ∨ low = 25 ∧ s = 2 ∨ low = 26 ∧ s = 4 ∨ low = 27 ∧ s = 8 := by rcases hk with rfl | rfl | rfl | rfl <;> simp at hs <;> omega
  clear hR hz hzs hB hs hk hlow
  rcases hl1 with ⟨rfl, rfl⟩ | ⟨rfl, rfl⟩ | ⟨rfl, rfl⟩ | ⟨rfl, rfl⟩
  · go_enter Tryd.func24, Tryd.ntmps24
    go_wp2_with (go_at_call 22; refine (HT _ h).mono ?_; rintro e w1 ⟨p, c, rfl, hv1, hr1, hb1⟩)
    obtain ⟨l, hll⟩ : ∃ l, bs.take 1 = l := ⟨_, rfl⟩
    have hlen : l.length = 1 := by rw [← hll, List.length_take]; omega
    rw [hll] at hv1 HBV
    obtain ⟨b, f, rfl, hcl⟩ := hv1.lies (by omega)
    rw [hlen] at hcl
    have HC : Hid (l.length = 1 ∧ ∀ i, i < 1 → w1.cell? ⟨b, f + i, none⟩ = some (.int .u8 ((l.getD i 0).toNat : Int))) := ⟨hlen, hcl⟩
    have HF : Hid (Cr w1 g (bs.drop 1) t o ∧ But g w w1) := ⟨hr1, hb1⟩
    clear hv1 hll hlen hcl HT hr1 hb1 h hl
    go_loopw [8, 29] (fun v8 v29 wr => ∃ j : Nat, j ≤ 1 ∧ v29 = .int .i64 (j : Int) ∧ v8 = .int .u64 (bv (l.take j) : Int) ∧ wr = w1) (fun _ v29 _ => 1 - (intOf v29).toNat)
    case atStart => exact ⟨0, by omega, rfl, by simp [bv], rfl⟩
    case round =>
      obtain ⟨j, hj, rfl, rfl, rfl⟩ := hrel
      obtain ⟨X, hX⟩ : ∃ X, bv (l.take j) = X := ⟨_, rfl⟩
      have hXl : X < 256 ^ j := by have := bv_lt (l.take j); rw [List.length_take, HC.out.1, Nat.min_eq_left hj, hX] at this; exact this
      rcases Nat.lt_or_eq_of_le hj with hj | rfl
      · have hjI : (j : Int) < 1 := by omega
        have hj0 : (0 : Int) ≤ (j : Int) := by omega
        obtain ⟨y, hy⟩ : ∃ y, l.getD j 0 = y := ⟨_, rfl⟩
        have hc := HC.out.2 j hj
        rw [hy] at hc
        have hyl := y.toNat_lt
        have hX7 : X < 72057594037927936 := Nat.lt_of_lt_of_le hXl (Nat.le_trans (Nat.pow_le_pow_right (by decide) (show j ≤ 7 by omega)) (by decide))
        have hor := or8_u64 X y.toNat hyl (by omega)
        have hor' : bits .or .u64 ((X : Int) * 256) (y.toNat : Int) = ((X * 256 + y.toNat : Nat) : Int) := by rw [← hor]; push_cast; rfl
        have hXI : (X : Int) < 72057594037927936 := by omega
        have hn : bv (l.take (j + 1)) = X * 256 + y.toNat := by
          have hjl : j < l.length := by rw [HC.out.1]; exact hj
          rw [take_snoc (c := y) (by rw [List.getElem?_eq_getElem hjl]; simp [List.getD, hjl] at hy; rw [hy]), bv_snoc, hX]
        have HN : Hid (bv (l.take (j + 1)) = X * 256 + y.toNat) := hn
        rw [hX]
        clear hn hX hXl hX7 hor HC hy
        go_wp2
        exact ⟨⟨j + 1, by omega, by go_num, by rw [HN.out]; push_cast; rfl, trivial⟩, by simp only [intOf]; omega⟩
      · rw [hX]
        have hXB : X = B := by rw [← hX, ← HBV.out.1, ← HC.out.1, List.take_length]
        subst hXB
        by_cases hzs : z < 1
        · have hzI : (z : Int) < 1 := by omega
          go_wp2_with (go_at_call 28; refine (HZ hBlt _).mono ?_; rintro e w2 ⟨rfl, rfl⟩)
          go_ret2
          exact ⟨HF.out.2, HF.out.1, by rw [← HR.out, if_pos (HS.out.1 hzs)]; rfl⟩
        · have hzI : ¬ (z : Int) < 1 := by omega
          go_wp2_with (go_at_call 28; refine (HZ hBlt _).mono ?_; rintro e w2 ⟨rfl, rfl⟩)
          go_ret2
          exact ⟨HF.out.2, HF.out.1, by rw [← HR.out, if_neg (fun hh => hzs (HS.out.2 hh))]; rfl⟩
  · go_enter Tryd.func24, Tryd.ntmps24
    go_wp2_with (go_at_call 22; refine (HT _ h).mono ?_; rintro e w1 ⟨p, c, rfl, hv1, hr1, hb1⟩)
    obtain ⟨l, hll⟩ : ∃ l, bs.take 2 = l := ⟨_, rfl⟩
    have hlen : l.length = 2 := by rw [← hll, List.length_take]; omega
    rw [hll] at hv1 HBV
    obtain ⟨b, f, rfl, hcl⟩ := hv1.lies (by omega)
    rw [hlen] at hcl
    have HC : Hid (l.length = 2 ∧ ∀ i, i < 2 → w1.cell? ⟨b, f + i, none⟩ = some (.int .u8 ((l.getD i 0).toNat : Int))) := ⟨hlen, hcl⟩
    have HF : Hid (Cr w1 g (bs.drop 2) t o ∧ But g w w1) := ⟨hr1, hb1⟩
    clear hv1 hll hlen hcl HT hr1 hb1 h hl
    go_loopw [8, 29] (fun v8 v29 wr => ∃ j : Nat, j ≤ 2 ∧ v29 = .int .i64 (j : Int) ∧ v8 = .int .u64 (bv (l.take j) : Int) ∧ wr = w1) (fun _ v29 _ => 2 - (intOf v29).toNat)
    case atStart => exact ⟨0, by omega, rfl, by simp [bv], rfl⟩
    case round =>
      obtain ⟨j, hj, rfl, rfl, rfl⟩ := hrel
      obtain ⟨X, hX⟩ : ∃ X, bv (l.take j) = X := ⟨_, rfl⟩
      have hXl : X < 256 ^ j := by have := bv_lt (l.take j); rw [List.length_take, HC.out.1, Nat.min_eq_left hj, hX] at this; exact this
      rcases Nat.lt_or_eq_of_le hj with hj | rfl
      · have hjI : (j : Int) < 2 := by omega
        have hj0 : (0 : Int) ≤ (j : Int) := by omega
        obtain ⟨y, hy⟩ : ∃ y, l.getD j 0 = y := ⟨_, rfl⟩
        have hc := HC.out.2 j hj
        rw [hy] at hc
        have hyl := y.toNat_lt
        have hX7 : X < 72057594037927936 := Nat.lt_of_lt_of_le hXl (Nat.le_trans (Nat.pow_le_pow_right (by decide) (show j ≤ 7 by omega)) (by decide))
        have hor := or8_u64 X y.toNat hyl (by omega)
        have hor' : bits .or .u64 ((X : Int) * 256) (y.toNat : Int) = ((X * 256 + y.toNat : Nat) : Int) := by rw [← hor]; push_cast; rfl
        have hXI : (X : Int) < 72057594037927936 := by omega
        have hn : bv (l.take (j + 1)) = X * 256 + y.toNat := by
          have hjl : j < l.length := by rw [HC.out.1]; exact hj
          rw [take_snoc (c := y) (by rw [List.getElem?_eq_getElem hjl]; simp [List.getD, hjl] at hy; rw [hy]), bv_snoc, hX]
        have HN : Hid (bv (l.take (j + 1)) = X * 256 + y.toNat) := hn
        rw [hX]
        clear hn hX hXl hX7 hor HC hy
        go_wp2
        exact ⟨⟨j + 1, by omega, by go_num, by rw [HN.out]; push_cast; rfl, trivial⟩, by simp only [intOf]; omega⟩
      · rw [hX]
        have hXB : X = B := by rw [← hX, ← HBV.out.1, ← HC.out.1, List.take_length]
        subst hXB
        by_cases hzs : z < 2
        · have hzI : (z : Int) < 2 := by omega
          go_wp2_with (go_at_call 28; refine (HZ hBlt _).mono ?_; rintro e w2 ⟨rfl, rfl⟩)
          go_ret2
          exact ⟨HF.out.2, HF.out.1, by rw [← HR.out, if_pos (HS.out.1 hzs)]; rfl⟩
        · have hzI : ¬ (z : Int) < 2 := by omega
          go_wp2_with (go_at_call 28; refine (HZ hBlt _).mono ?_; rintro e w2 ⟨rfl, rfl⟩)
          go_ret2
          exact ⟨HF.out.2, HF.out.1, by rw [← HR.out, if_neg (fun hh => hzs (HS.out.2 hh))]; rfl⟩
  · go_enter Tryd.func24, Tryd.ntmps24
    go_wp2_with (go_at_call 22; refine (HT _ h).mono ?_; rintro e w1 ⟨p, c, rfl, hv1, hr1, hb1⟩)
    obtain ⟨l, hll⟩ : ∃ l, bs.take 4 = l := ⟨_, rfl⟩
    have hlen : l.length = 4 := by rw [← hll, List.length_take]; omega
    rw [hll] at hv1 HBV
    obtain ⟨b, f, rfl, hcl⟩ := hv1.lies (by omega)
    rw [hlen] at hcl
    have HC : Hid (l.length = 4 ∧ ∀ i, i < 4 → w1.cell? ⟨b, f + i, none⟩ = some (.int .u8 ((l.getD i 0).toNat : Int))) := ⟨hlen, hcl⟩
    have HF : Hid (Cr w1 g (bs.drop 4) t o ∧ But g w w1) := ⟨hr1, hb1⟩
    clear hv1 hll hlen hcl HT hr1 hb1 h hl
    go_loopw [8, 29] (fun v8 v29 wr => ∃ j : Nat, j ≤ 4 ∧ v29 = .int .i64 (j : Int) ∧ v8 = .int .u64 (bv (l.take j) : Int) ∧ wr = w1) (fun _ v29 _ => 4 - (intOf v29).toNat)
    case atStart => exact ⟨0, by omega, rfl, by simp [bv], rfl⟩
    case round =>
      obtain ⟨j, hj, rfl, rfl, rfl⟩ := hrel
      obtain ⟨X, hX⟩ : ∃ X, bv (l.take j) = X := ⟨_, rfl⟩
      have hXl : X < 256 ^ j := by have := bv_lt (l.take j); rw [List.length_take, HC.out.1, Nat.min_eq_left hj, hX] at this; exact this
      rcases Nat.lt_or_eq_of_le hj with hj | rfl
      · have hjI : (j : Int) < 4 := by omega
        have hj0 : (0 : Int) ≤ (j : Int) := by omega
        obtain ⟨y, hy⟩ : ∃ y, l.getD j 0 = y := ⟨_, rfl⟩
        have hc := HC.out.2 j hj
        rw [hy] at hc
        have hyl := y.toNat_lt
        have hX7 : X < 72057594037927936 := Nat.lt_of_lt_of_le hXl (Nat.le_trans (Nat.pow_le_pow_right (by decide) (show j ≤ 7 by omega)) (by decide))
        have hor := or8_u64 X y.toNat hyl (by omega)
        have hor' : bits .or .u64 ((X : Int) * 256) (y.toNat : Int) = ((X * 256 + y.toNat : Nat) : Int) := by rw [← hor]; push_cast; rfl
        have hXI : (X : Int) < 72057594037927936 := by omega
        have hn : bv (l.take (j + 1)) = X * 256 + y.toNat := by
          have hjl : j < l.length := by rw [HC.out.1]; exact hj
          rw [take_snoc (c := y) (by rw [List.getElem?_eq_getElem hjl]; simp [List.getD, hjl] at hy; rw [hy]), bv_snoc, hX]
        have HN : Hid (bv (l.take (j + 1)) = X * 256 + y.toNat) := hn
        rw [hX]
        clear hn hX hXl hX7 hor HC hy
        go_wp2
        exact ⟨⟨j + 1, by omega, by go_num, by rw [HN.out]; push_cast; rfl, trivial⟩, by simp only [intOf]; omega⟩
      · rw [hX]
        have hXB : X = B := by rw [← hX, ← HBV.out.1, ← HC.out.1, List.take_length]
        subst hXB
        by_cases hzs : z < 4
        · have hzI : (z : Int) < 4 := by omega
          go_wp2_with (go_at_call 28; refine (HZ hBlt _).mono ?_; rintro e w2 ⟨rfl, rfl⟩)
          go_ret2
          exact ⟨HF.out.2, HF.out.1, by rw [← HR.out, if_pos (HS.out.1 hzs)]; rfl⟩
        · have hzI : ¬ (z : Int) < 4 := by omega
          go_wp2_with (go_at_call 28; refine (HZ hBlt _).mono ?_; rintro e w2 ⟨rfl, rfl⟩)
          go_ret2
          exact ⟨HF.out.2, HF.out.1, by rw [← HR.out, if_neg (fun hh => hzs (HS.out.2 hh))]; rfl⟩
  · go_enter Tryd.func24, Tryd.ntmps24
    go_wp2_with (go_at_call 22; refine (HT _ h).mono ?_; rintro e w1 ⟨p, c, rfl, hv1, hr1, hb1⟩)
    obtain ⟨l, hll⟩ : ∃ l, bs.take 8 = l := ⟨_, rfl⟩
    have hlen : l.length = 8 := by rw [← hll, List.length_take]; omega
    rw [hll] at hv1 HBV
    obtain ⟨b, f, rfl, hcl⟩ := hv1.lies (by omega)
    rw [hlen] at hcl
    have HC : Hid (l.length = 8 ∧ ∀ i, i < 8 → w1.cell? ⟨b, f + i, none⟩ = some (.int .u8 ((l.getD i 0).toNat : Int))) := ⟨hlen, hcl⟩
    have HF : Hid (Cr w1 g (bs.drop 8) t o ∧ But g w w1) := ⟨hr1, hb1⟩
    clear hv1 hll hlen hcl HT hr1 hb1 h hl
    go_loopw [8, 29] (fun v8 v29 wr => ∃ j : Nat, j ≤ 8 ∧ v29 = .int .i64 (j : Int) ∧ v8 = .int .u64 (bv (l.take j) : Int) ∧ wr = w1) (fun _ v29 _ => 8 - (intOf v29).toNat)
    case atStart => exact ⟨0, by omega, rfl, by simp [bv], rfl⟩
    case round =>
      obtain ⟨j, hj, rfl, rfl, rfl⟩ := hrel
      obtain ⟨X, hX⟩ : ∃ X, bv (l.take j) = X := ⟨_, rfl⟩
      have hXl : X < 256 ^ j := by have := bv_lt (l.take j); rw [List.length_take, HC.out.1, Nat.min_eq_left hj, hX] at this; exact this
      rcases Nat.lt_or_eq_of_le hj with hj | rfl
      · have hjI : (j : Int) < 8 := by omega
        have hj0 : (0 : Int) ≤ (j : Int) := by omega
        obtain ⟨y, hy⟩ : ∃ y, l.getD j 0 = y := ⟨_, rfl⟩
        have hc := HC.out.2 j hj
        rw [hy] at hc
        have hyl := y.toNat_lt
        have hX7 : X < 72057594037927936 := Nat.lt_of_lt_of_le hXl (Nat.le_trans (Nat.pow_le_pow_right (by decide) (show j ≤ 7 by omega)) (by decide))
        have hor := or8_u64 X y.toNat hyl (by omega)
        have hor' : bits .or .u64 ((X : Int) * 256) (y.toNat : Int) = ((X * 256 + y.toNat : Nat) : Int) := by rw [← hor]; push_cast; rfl
        have hXI : (X : Int) < 72057594037927936 := by omega
        have hn : bv (l.take (j + 1)) = X * 256 + y.toNat := by
          have hjl : j < l.length := by rw [HC.out.1]; exact hj
          rw [take_snoc (c := y) (by rw [List.getElem?_eq_getElem hjl]; simp [List.getD, hjl] at hy; rw [hy]), bv_snoc, hX]
        have HN : Hid (bv (l.take (j + 1)) = X * 256 + y.toNat) := hn
        rw [hX]
        clear hn hX hXl hX7 hor HC hy
        go_wp2
        exact ⟨⟨j + 1, by omega, by go_num, by rw [HN.out]; push_cast; rfl, trivial⟩, by simp only [intOf]; omega⟩
      · rw [hX]
        have hXB : X = B := by rw [← hX, ← HBV.out.1, ← HC.out.1, List.take_length]
        subst hXB
        by_cases hzs : z < 8
        · have hzI : (z : Int) < 8 := by omega
          go_wp2_with (go_at_call 28; refine (HZ hBlt _).mono ?_; rintro e w2 ⟨rfl, rfl⟩)
          go_ret2
          exact ⟨HF.out.2, HF.out.1, by rw [← HR.out, if_pos (HS.out.1 hzs)]; rfl⟩
        · have hzI : ¬ (z : Int) < 8 := by omega
          go_wp2_with (go_at_call 28; refine (HZ hBlt _).mono ?_; rintro e w2 ⟨rfl, rfl⟩)
          go_ret2
          exact ⟨HF.out.2, HF.out.1, by rw [← HR.out, if_neg (fun hh => hzs (HS.out.2 hh))]; rfl⟩
end Go.Proofs.YtfmldcibhllpcabDoor
