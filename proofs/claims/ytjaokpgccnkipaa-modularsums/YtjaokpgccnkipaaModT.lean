/-
  Contracts of told, one for each closure that it is handed.
-/
import Derived.Test.YtjaokpgccnkipaaModR
namespace Go.Proofs.Ytjaokpgccnkipaa
open Go.RowKit
set_option linter.unusedVariables false
set_option linter.unusedSimpArgs false

theorem big_zero {k : IntKind} {B : Int} (hB : 1 < B) {w : World} {ao : Option Addr} {len cap : Nat} {xs : List Int} (h : NumIn k B w ao len cap xs) (hc : Canon xs) (hv : val B xs = 0) : len = 0 := by
  have h1 := h.len
  have h2 := len_fit hB h.dg hc (Dg.nil B) (by rw [hv]; exact Int.le_refl _)
  simp at h2
  rw [h2] at h1
  simpa using h1.symm
theorem big_pos {k : IntKind} {B : Int} {w : World} {ao : Option Addr} {len cap : Nat} {xs : List Int} (h : NumIn k B w ao len cap xs) (hv : val B xs ≠ 0) : 0 < len := by
  rcases Nat.eq_zero_or_pos len with e | e
  · have h1 := h.len
    have h2 : xs = [] := List.eq_nil_of_length_eq_zero (by omega)
    rw [h2] at hv
    exact absurd rfl hv
  · exact e

set_option maxHeartbeats 400000 in
/-- told: of a modulus of 0. -/
theorem told_zero (no : Option Addr) (cn : Nat) (f : Value) (w : World) :
    Calls Try.prog 15 #[.slice none 0 0, .int .i64 4, .slice no 0 cn, f] w fun e w' => e = .returned (.bool true) ∧ w' = w := by
  go_enter Try.func15, Try.ntmps15
  go_wp2
  go_ret
  exact ⟨rfl, rfl⟩

set_option maxHeartbeats 1000000 in
/-- told with ModularSums$1. -/
theorem told_sums1 (a_a : Option Addr) (l_a c_a : Nat) (s_a : List Int) (g_n g_x : Nat) (a_n a_x : Option Addr) (l_n c_n l_x c_x : Nat) (s_n s_x : List Int) (w : World) (n_a : NumIn .u64 B64 w a_a l_a c_a s_a) (k_a : Canon s_a) (h_n : Kc w g_n (.slice a_n l_n c_n)) (h_x : Kc w g_x (.slice a_x l_x c_x)) (n_n : NumIn .i64 D16 w a_n l_n c_n s_n) (n_x : NumIn .i64 D16 w a_x l_x c_x s_x) (k_n : Canon s_n) (k_x : Canon s_x) (h0 : val D16 s_n ≠ 0) (b_n : l_n ≤ 200) (b_x : l_x ≤ 200) (hv : val B64 s_a = val D16 s_x % val D16 s_n) :
    Calls Try.prog 15 #[.slice a_a l_a c_a, .int .i64 0, .slice a_n l_n c_n, .func (.func 16) #[] #[.pointer (some ⟨g_x, 0, none⟩), .pointer (some ⟨g_n, 0, none⟩)]] w fun e w' => e = .returned (.bool true) ∧ Below w.heap.size w w' := by
  have HC := sums1_any g_n g_x a_n a_x l_n c_n l_x c_x s_n s_x w h_n h_x n_n n_x k_n k_x h0 b_n b_x
  rw [← hv] at HC
  have hlp : 0 < l_n := big_pos n_n h0
  have hbe : ((l_n : Int) == 0) = false := by simp; omega
  have hle : l_n ≤ 200 := b_n
  have HX : Hid (NumIn .u64 B64 w a_a l_a c_a s_a ∧ Canon s_a) := ⟨n_a, k_a⟩
  clear h_n n_n k_n b_n h_x n_x k_x b_x n_a k_a h0 hv
  go_enter Try.func15, Try.ntmps15
  go_wp2_with fail
  refine HC.mono ?_
  rintro e w1 ⟨v, rfl, a1, l1, c1, ds, rfl, d1, d2, d3, d4, d5⟩
  have HN := rNat_any a1 l1 c1 ds w1 d1 d2 (by omega)
  rw [d3] at HN
  replace HX : Hid (NumIn .u64 B64 w1 a_a l_a c_a s_a ∧ Canon s_a) := ⟨HX.out.1.old d5, HX.out.2⟩
  have BW : Hid (Below w.heap.size w w1) := d5
  clear d1 d2 d3 d4 d5 HC
  go_wp2_with fail
  refine HN.mono ?_
  rintro e w2 ⟨v, rfl, a2, l2, c2, ys, rfl, hy, hcy, hvy, -, hb⟩
  have e := canon_inj B64_one HX.out.1.dg hy.dg HX.out.2 hcy hvy.symm
  subst e
  have hxl := HX.out.1.len
  have hyl := hy.len
  obtain rfl : l2 = l_a := by omega
  have HS := Same_yes a_a a2 l2 c_a c2 s_a w2 (HX.out.1.old hb).lies hy.lies hy.sm
  replace BW : Hid (Below w.heap.size w w2) := BW.out.trans (hb.mono BW.out.size)
  clear HN HX hb hy hcy hvy hxl hyl
  go_wp2_with fail
  refine HS.mono ?_
  rintro e w3 ⟨rfl, hdr⟩
  replace BW : Hid (Below w.heap.size w w3) := BW.out.trans ((hdr.below _).mono BW.out.size)
  clear hdr HS
  go_wp2
  go_ret
  exact ⟨rfl, BW.out⟩
set_option maxHeartbeats 1000000 in
/-- told with ModularSums$2. -/
theorem told_sums2 (a_a : Option Addr) (l_a c_a : Nat) (s_a : List Int) (g_n g_x g_y : Nat) (a_n a_x a_y : Option Addr) (l_n c_n l_x c_x l_y c_y : Nat) (s_n s_x s_y : List Int) (w : World) (n_a : NumIn .u64 B64 w a_a l_a c_a s_a) (k_a : Canon s_a) (h_n : Kc w g_n (.slice a_n l_n c_n)) (h_x : Kc w g_x (.slice a_x l_x c_x)) (h_y : Kc w g_y (.slice a_y l_y c_y)) (n_n : NumIn .i64 D16 w a_n l_n c_n s_n) (n_x : NumIn .i64 D16 w a_x l_x c_x s_x) (n_y : NumIn .i64 D16 w a_y l_y c_y s_y) (k_n : Canon s_n) (k_x : Canon s_x) (k_y : Canon s_y) (h0 : val D16 s_n ≠ 0) (b_n : l_n ≤ 200) (b_x : l_x ≤ 200) (b_y : l_y ≤ 200) (hv : val B64 s_a = (val D16 s_x + val D16 s_y) % val D16 s_n) :
    Calls Try.prog 15 #[.slice a_a l_a c_a, .int .i64 0, .slice a_n l_n c_n, .func (.func 18) #[] #[.pointer (some ⟨g_x, 0, none⟩), .pointer (some ⟨g_y, 0, none⟩), .pointer (some ⟨g_n, 0, none⟩)]] w fun e w' => e = .returned (.bool true) ∧ Below w.heap.size w w' := by
  have HC := sums2_any g_n g_x g_y a_n a_x a_y l_n c_n l_x c_x l_y c_y s_n s_x s_y w h_n h_x h_y n_n n_x n_y k_n k_x k_y h0 b_n b_x b_y
  rw [← hv] at HC
  have hlp : 0 < l_n := big_pos n_n h0
  have hbe : ((l_n : Int) == 0) = false := by simp; omega
  have hle : l_n ≤ 200 := b_n
  have HX : Hid (NumIn .u64 B64 w a_a l_a c_a s_a ∧ Canon s_a) := ⟨n_a, k_a⟩
  clear h_n n_n k_n b_n h_x n_x k_x b_x h_y n_y k_y b_y n_a k_a h0 hv
  go_enter Try.func15, Try.ntmps15
  go_wp2_with fail
  refine HC.mono ?_
  rintro e w1 ⟨v, rfl, a1, l1, c1, ds, rfl, d1, d2, d3, d4, d5⟩
  have HN := rNat_any a1 l1 c1 ds w1 d1 d2 (by omega)
  rw [d3] at HN
  replace HX : Hid (NumIn .u64 B64 w1 a_a l_a c_a s_a ∧ Canon s_a) := ⟨HX.out.1.old d5, HX.out.2⟩
  have BW : Hid (Below w.heap.size w w1) := d5
  clear d1 d2 d3 d4 d5 HC
  go_wp2_with fail
  refine HN.mono ?_
  rintro e w2 ⟨v, rfl, a2, l2, c2, ys, rfl, hy, hcy, hvy, -, hb⟩
  have e := canon_inj B64_one HX.out.1.dg hy.dg HX.out.2 hcy hvy.symm
  subst e
  have hxl := HX.out.1.len
  have hyl := hy.len
  obtain rfl : l2 = l_a := by omega
  have HS := Same_yes a_a a2 l2 c_a c2 s_a w2 (HX.out.1.old hb).lies hy.lies hy.sm
  replace BW : Hid (Below w.heap.size w w2) := BW.out.trans (hb.mono BW.out.size)
  clear HN HX hb hy hcy hvy hxl hyl
  go_wp2_with fail
  refine HS.mono ?_
  rintro e w3 ⟨rfl, hdr⟩
  replace BW : Hid (Below w.heap.size w w3) := BW.out.trans ((hdr.below _).mono BW.out.size)
  clear hdr HS
  go_wp2
  go_ret
  exact ⟨rfl, BW.out⟩
set_option maxHeartbeats 1000000 in
/-- told with ModularSums$3. -/
theorem told_sums3 (a_a : Option Addr) (l_a c_a : Nat) (s_a : List Int) (g_n g_x g_y : Nat) (a_n a_x a_y : Option Addr) (l_n c_n l_x c_x l_y c_y : Nat) (s_n s_x s_y : List Int) (w : World) (n_a : NumIn .u64 B64 w a_a l_a c_a s_a) (k_a : Canon s_a) (h_n : Kc w g_n (.slice a_n l_n c_n)) (h_x : Kc w g_x (.slice a_x l_x c_x)) (h_y : Kc w g_y (.slice a_y l_y c_y)) (n_n : NumIn .i64 D16 w a_n l_n c_n s_n) (n_x : NumIn .i64 D16 w a_x l_x c_x s_x) (n_y : NumIn .i64 D16 w a_y l_y c_y s_y) (k_n : Canon s_n) (k_x : Canon s_x) (k_y : Canon s_y) (h0 : val D16 s_n ≠ 0) (b_n : l_n ≤ 200) (b_x : l_x ≤ 200) (b_y : l_y ≤ 200) (hv : val B64 s_a = (val D16 s_x * val D16 s_y) % val D16 s_n) :
    Calls Try.prog 15 #[.slice a_a l_a c_a, .int .i64 0, .slice a_n l_n c_n, .func (.func 20) #[] #[.pointer (some ⟨g_x, 0, none⟩), .pointer (some ⟨g_y, 0, none⟩), .pointer (some ⟨g_n, 0, none⟩)]] w fun e w' => e = .returned (.bool true) ∧ Below w.heap.size w w' := by
  have HC := sums3_any g_n g_x g_y a_n a_x a_y l_n c_n l_x c_x l_y c_y s_n s_x s_y w h_n h_x h_y n_n n_x n_y k_n k_x k_y h0 b_n b_x b_y
  rw [← hv] at HC
  have hlp : 0 < l_n := big_pos n_n h0
  have hbe : ((l_n : Int) == 0) = false := by simp; omega
  have hle : l_n ≤ 200 := b_n
  have HX : Hid (NumIn .u64 B64 w a_a l_a c_a s_a ∧ Canon s_a) := ⟨n_a, k_a⟩
  clear h_n n_n k_n b_n h_x n_x k_x b_x h_y n_y k_y b_y n_a k_a h0 hv
  go_enter Try.func15, Try.ntmps15
  go_wp2_with fail
  refine HC.mono ?_
  rintro e w1 ⟨v, rfl, a1, l1, c1, ds, rfl, d1, d2, d3, d4, d5⟩
  have HN := rNat_any a1 l1 c1 ds w1 d1 d2 (by omega)
  rw [d3] at HN
  replace HX : Hid (NumIn .u64 B64 w1 a_a l_a c_a s_a ∧ Canon s_a) := ⟨HX.out.1.old d5, HX.out.2⟩
  have BW : Hid (Below w.heap.size w w1) := d5
  clear d1 d2 d3 d4 d5 HC
  go_wp2_with fail
  refine HN.mono ?_
  rintro e w2 ⟨v, rfl, a2, l2, c2, ys, rfl, hy, hcy, hvy, -, hb⟩
  have e := canon_inj B64_one HX.out.1.dg hy.dg HX.out.2 hcy hvy.symm
  subst e
  have hxl := HX.out.1.len
  have hyl := hy.len
  obtain rfl : l2 = l_a := by omega
  have HS := Same_yes a_a a2 l2 c_a c2 s_a w2 (HX.out.1.old hb).lies hy.lies hy.sm
  replace BW : Hid (Below w.heap.size w w2) := BW.out.trans (hb.mono BW.out.size)
  clear HN HX hb hy hcy hvy hxl hyl
  go_wp2_with fail
  refine HS.mono ?_
  rintro e w3 ⟨rfl, hdr⟩
  replace BW : Hid (Below w.heap.size w w3) := BW.out.trans ((hdr.below _).mono BW.out.size)
  clear hdr HS
  go_wp2
  go_ret
  exact ⟨rfl, BW.out⟩
set_option maxHeartbeats 1000000 in
/-- told with ModularSubs$1. -/
theorem told_subs1 (a_a : Option Addr) (l_a c_a : Nat) (s_a : List Int) (g_n g_x g_y : Nat) (a_n a_x a_y : Option Addr) (l_n c_n l_x c_x l_y c_y : Nat) (s_n s_x s_y : List Int) (w : World) (n_a : NumIn .u64 B64 w a_a l_a c_a s_a) (k_a : Canon s_a) (h_n : Kc w g_n (.slice a_n l_n c_n)) (h_x : Kc w g_x (.slice a_x l_x c_x)) (h_y : Kc w g_y (.slice a_y l_y c_y)) (n_n : NumIn .i64 D16 w a_n l_n c_n s_n) (n_x : NumIn .i64 D16 w a_x l_x c_x s_x) (n_y : NumIn .i64 D16 w a_y l_y c_y s_y) (k_n : Canon s_n) (k_x : Canon s_x) (k_y : Canon s_y) (h0 : val D16 s_n ≠ 0) (b_n : l_n ≤ 200) (b_x : l_x ≤ 200) (b_y : l_y ≤ 200) (hv : val B64 s_a = (val D16 s_x % val D16 s_n + val D16 s_n - val D16 s_y % val D16 s_n) % val D16 s_n) :
    Calls Try.prog 15 #[.slice a_a l_a c_a, .int .i64 0, .slice a_n l_n c_n, .func (.func 23) #[] #[.pointer (some ⟨g_x, 0, none⟩), .pointer (some ⟨g_n, 0, none⟩), .pointer (some ⟨g_y, 0, none⟩)]] w fun e w' => e = .returned (.bool true) ∧ Below w.heap.size w w' := by
  have HC := subs1_any g_n g_x g_y a_n a_x a_y l_n c_n l_x c_x l_y c_y s_n s_x s_y w h_n h_x h_y n_n n_x n_y k_n k_x k_y h0 b_n b_x b_y
  rw [← hv] at HC
  have hlp : 0 < l_n := big_pos n_n h0
  have hbe : ((l_n : Int) == 0) = false := by simp; omega
  have hle : l_n ≤ 200 := b_n
  have HX : Hid (NumIn .u64 B64 w a_a l_a c_a s_a ∧ Canon s_a) := ⟨n_a, k_a⟩
  clear h_n n_n k_n b_n h_x n_x k_x b_x h_y n_y k_y b_y n_a k_a h0 hv
  go_enter Try.func15, Try.ntmps15
  go_wp2_with fail
  refine HC.mono ?_
  rintro e w1 ⟨v, rfl, a1, l1, c1, ds, rfl, d1, d2, d3, d4, d5⟩
  have HN := rNat_any a1 l1 c1 ds w1 d1 d2 (by omega)
  rw [d3] at HN
  replace HX : Hid (NumIn .u64 B64 w1 a_a l_a c_a s_a ∧ Canon s_a) := ⟨HX.out.1.old d5, HX.out.2⟩
  have BW : Hid (Below w.heap.size w w1) := d5
  clear d1 d2 d3 d4 d5 HC
  go_wp2_with fail
  refine HN.mono ?_
  rintro e w2 ⟨v, rfl, a2, l2, c2, ys, rfl, hy, hcy, hvy, -, hb⟩
  have e := canon_inj B64_one HX.out.1.dg hy.dg HX.out.2 hcy hvy.symm
  subst e
  have hxl := HX.out.1.len
  have hyl := hy.len
  obtain rfl : l2 = l_a := by omega
  have HS := Same_yes a_a a2 l2 c_a c2 s_a w2 (HX.out.1.old hb).lies hy.lies hy.sm
  replace BW : Hid (Below w.heap.size w w2) := BW.out.trans (hb.mono BW.out.size)
  clear HN HX hb hy hcy hvy hxl hyl
  go_wp2_with fail
  refine HS.mono ?_
  rintro e w3 ⟨rfl, hdr⟩
  replace BW : Hid (Below w.heap.size w w3) := BW.out.trans ((hdr.below _).mono BW.out.size)
  clear hdr HS
  go_wp2
  go_ret
  exact ⟨rfl, BW.out⟩
set_option maxHeartbeats 1000000 in
/-- told with ModularPows$1. -/
theorem told_pows1 (a_a : Option Addr) (l_a c_a : Nat) (s_a : List Int) (g_k g_n g_x : Nat) (a_k a_n a_x : Option Addr) (l_k c_k l_n c_n l_x c_x : Nat) (s_k s_n s_x : List Int) (w : World) (n_a : NumIn .u64 B64 w a_a l_a c_a s_a) (k_a : Canon s_a) (h_k : Kc w g_k (.slice a_k l_k c_k)) (h_n : Kc w g_n (.slice a_n l_n c_n)) (h_x : Kc w g_x (.slice a_x l_x c_x)) (n_k : NumIn .i64 D16 w a_k l_k c_k s_k) (n_n : NumIn .i64 D16 w a_n l_n c_n s_n) (n_x : NumIn .i64 D16 w a_x l_x c_x s_x) (k_k : Canon s_k) (k_n : Canon s_n) (k_x : Canon s_x) (h0 : val D16 s_n ≠ 0) (b_k : l_k ≤ 200) (b_n : l_n ≤ 200) (b_x : l_x ≤ 200) (hv : val B64 s_a = (val D16 s_x % val D16 s_n) ^ (val D16 s_k).toNat % val D16 s_n) :
    Calls Try.prog 15 #[.slice a_a l_a c_a, .int .i64 0, .slice a_n l_n c_n, .func (.func 26) #[] #[.pointer (some ⟨g_x, 0, none⟩), .pointer (some ⟨g_n, 0, none⟩), .pointer (some ⟨g_k, 0, none⟩)]] w fun e w' => e = .returned (.bool true) ∧ Below w.heap.size w w' := by
  have HC := pows1_any g_k g_n g_x a_k a_n a_x l_k c_k l_n c_n l_x c_x s_k s_n s_x w h_k h_n h_x n_k n_n n_x k_k k_n k_x h0 b_k b_n b_x
  rw [← hv] at HC
  have hlp : 0 < l_n := big_pos n_n h0
  have hbe : ((l_n : Int) == 0) = false := by simp; omega
  have hle : l_n ≤ 200 := b_n
  have HX : Hid (NumIn .u64 B64 w a_a l_a c_a s_a ∧ Canon s_a) := ⟨n_a, k_a⟩
  clear h_k n_k k_k b_k h_n n_n k_n b_n h_x n_x k_x b_x n_a k_a h0 hv
  go_enter Try.func15, Try.ntmps15
  go_wp2_with fail
  refine HC.mono ?_
  rintro e w1 ⟨v, rfl, a1, l1, c1, ds, rfl, d1, d2, d3, d4, d5⟩
  have HN := rNat_any a1 l1 c1 ds w1 d1 d2 (by omega)
  rw [d3] at HN
  replace HX : Hid (NumIn .u64 B64 w1 a_a l_a c_a s_a ∧ Canon s_a) := ⟨HX.out.1.old d5, HX.out.2⟩
  have BW : Hid (Below w.heap.size w w1) := d5
  clear d1 d2 d3 d4 d5 HC
  go_wp2_with fail
  refine HN.mono ?_
  rintro e w2 ⟨v, rfl, a2, l2, c2, ys, rfl, hy, hcy, hvy, -, hb⟩
  have e := canon_inj B64_one HX.out.1.dg hy.dg HX.out.2 hcy hvy.symm
  subst e
  have hxl := HX.out.1.len
  have hyl := hy.len
  obtain rfl : l2 = l_a := by omega
  have HS := Same_yes a_a a2 l2 c_a c2 s_a w2 (HX.out.1.old hb).lies hy.lies hy.sm
  replace BW : Hid (Below w.heap.size w w2) := BW.out.trans (hb.mono BW.out.size)
  clear HN HX hb hy hcy hvy hxl hyl
  go_wp2_with fail
  refine HS.mono ?_
  rintro e w3 ⟨rfl, hdr⟩
  replace BW : Hid (Below w.heap.size w w3) := BW.out.trans ((hdr.below _).mono BW.out.size)
  clear hdr HS
  go_wp2
  go_ret
  exact ⟨rfl, BW.out⟩
end Go.Proofs.Ytjaokpgccnkipaa
