/-
  The document's Ahead.
-/
import Derived.Test.YtfmldcibhllpcaaDoorEC
namespace Go.Proofs.YtfmldcibhllpcaaDoor
open Go.Shelf Go.RowKit
set_option linter.unusedVariables false
set_option linter.unusedSimpArgs false

theorem less_ltB : ∀ a b : Bs, Op.bytesLess a b = ltB a b
  | [], [] => rfl
  | [], _ :: _ => rfl
  | _ :: _, [] => rfl
  | x :: xs, y :: ys => by
    rw [ltB, Op.bytesLess, less_ltB xs ys]
    by_cases h : x = y
    · subst h; simp
    · have : x.toNat ≠ y.toNat := fun e => h (UInt8.toNat_inj.1 e)
      simp [h, UInt8.lt_iff_toNat_lt]
theorem decI (a b : Nat) : decide ((a : Int) < (b : Int)) = decide (a < b) := by simp
set_option maxRecDepth 100000 in
set_option maxHeartbeats 2000000 in
theorem rAhead_any (a b : It) (p1 p2 : Option Addr) (n1 n2 c1 c2 : Nat) (v1 v2 : Value) (w : World) (ha : a.kind < 256) (hb : b.kind < 256) (hna : a.n < 18446744073709551616) (hnb : b.n < 18446744073709551616) (h1 : BAt w p1 n1 a.b) (h2 : BAt w p2 n2 b.b) (hl1 : a.b.length = n1) (hl2 : b.b.length = n2) (hm1 : n1 ≤ 9223372036854775807) (hm2 : n2 ≤ 9223372036854775807) :
    Calls Tryd.prog 27 #[.agg #[.int .u8 (a.kind : Int), .int .u64 (a.n : Int), .slice p1 n1 c1, v1], .agg #[.int .u8 (b.kind : Int), .int .u64 (b.n : Int), .slice p2 n2 c2, v2]] w fun e w' => e = .returned (.bool (aheadC a b)) ∧ Below w.heap.size w w' := by
  obtain ⟨r, hr⟩ : ∃ r, aheadC a b = r := ⟨_, rfl⟩
  rw [hr]
  unfold aheadC at hr
  rw [hl1, hl2] at hr
  obtain ⟨K1, hK1⟩ : ∃ K, a.kind = K := ⟨_, rfl⟩
  obtain ⟨K2, hK2⟩ : ∃ K, b.kind = K := ⟨_, rfl⟩
  obtain ⟨N1, hN1⟩ : ∃ K, a.n = K := ⟨_, rfl⟩
  obtain ⟨N2, hN2⟩ : ∃ K, b.n = K := ⟨_, rfl⟩
  rw [hK1, hK2, hN1, hN2] at hr
  rw [hK1] at ha
  rw [hK2] at hb
  rw [hN1] at hna
  rw [hN2] at hnb
  rw [hK1, hK2, hN1, hN2]
  clear hK1 hK2 hN1 hN2
  have haI : (K1 : Int) < 256 := by omega
  have hbI : (K2 : Int) < 256 := by omega
  have hnaI : (N1 : Int) < 18446744073709551616 := by omega
  have hnbI : (N2 : Int) < 18446744073709551616 := by omega
  have hm1I : (n1 : Int) ≤ 9223372036854775807 := by omega
  have hm2I : (n2 : Int) ≤ 9223372036854775807 := by omega
  by_cases q1 : K1 = K2
  · subst q1
    rw [if_neg (fun h => h rfl)] at hr
    by_cases q2 : K1 = 1 ∨ K1 = 2
    · rw [if_pos q2] at hr
      have hd : decide ((N1 : Int) < (N2 : Int)) = r := by rw [decI, hr]
      have HR : Hid (decide (N1 < N2) = r) := hr
      clear hr h1 h2 hl1 hl2
      rcases q2 with rfl | rfl
      all_goals
        go_enter Tryd.func27, Tryd.ntmps27
        go_wp2_with fail
        try go_quiet (fail)
        try go_wp2
        go_ret
        exact ⟨by rw [← HR.out]; rfl, (((Below.refl _ _).alloc (Nat.le_refl _) _).alloc (by rw [alloc_sz]; omega) _)⟩
    · rw [if_neg q2] at hr
      have k1 : ((K1 : Int) == 1) = false := by simp; omega
      have k2 : ((K1 : Int) == 2) = false := by simp; omega
      by_cases q3 : n1 = n2
      · subst q3
        rw [if_neg (fun h => h rfl)] at hr
        have e1 := fun X Y => conv_bat (c := c1) (h1.below (w' := (w.alloc X).alloc Y) (((Below.refl _ _).alloc (Nat.le_refl _) _).alloc (by rw [alloc_sz]; omega) _)) hl1
        have e2 := fun X Y => conv_bat (c := c2) (h2.below (w' := (w.alloc X).alloc Y) (((Below.refl _ _).alloc (Nat.le_refl _) _).alloc (by rw [alloc_sz]; omega) _)) hl2
        have HS : Hid (ltB a.b b.b = r ∧ a.b.length = b.b.length) := ⟨hr, hl1.trans hl2.symm⟩
        clear hr h1 h2 hl1 hl2
        go_enter Tryd.func27, Tryd.ntmps27
        go_wp2_with fail
        go_ret
        exact ⟨by rw [← HS.out.1, ← less_ltB]; rfl, (((Below.refl _ _).alloc (Nat.le_refl _) _).alloc (by rw [alloc_sz]; omega) _)⟩
      · rw [if_pos q3] at hr
        have hd : decide ((n1 : Int) < (n2 : Int)) = r := by rw [decI, hr]
        have hne : ((n1 : Int) == (n2 : Int)) = false := by simp; omega
        have hne' : ((n1 : Int) != (n2 : Int)) = true := by simp; omega
        have HR : Hid (decide (n1 < n2) = r) := hr
        clear hr h1 h2 hl1 hl2
        go_enter Tryd.func27, Tryd.ntmps27
        go_wp2_with fail
        go_ret
        exact ⟨by rw [← HR.out]; rfl, (((Below.refl _ _).alloc (Nat.le_refl _) _).alloc (by rw [alloc_sz]; omega) _)⟩
  · rw [if_pos q1] at hr
    have hd : decide ((K1 : Int) < (K2 : Int)) = r := by rw [decI, hr]
    have hne' : ((K1 : Int) != (K2 : Int)) = true := by simp; omega
    have HR : Hid (decide (K1 < K2) = r) := hr
    clear hr h1 h2 hl1 hl2
    go_enter Tryd.func27, Tryd.ntmps27
    go_wp2_with fail
    try go_quiet (fail)
    try go_wp2
    go_ret
    exact ⟨by rw [← HR.out]; rfl, (((Below.refl _ _).alloc (Nat.le_refl _) _).alloc (by rw [alloc_sz]; omega) _)⟩
end Go.Proofs.YtfmldcibhllpcaaDoor
