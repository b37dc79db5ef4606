/-
  utf8.Valid.
-/
import Derived.Test.YtfmldcibhllpcabDoorCVa
namespace Go.Proofs.YtfmldcibhllpcabDoor
open Go.Shelf Go.RowKit
set_option linter.unusedVariables false
set_option linter.unusedSimpArgs false

set_option maxRecDepth 100000 in
set_option maxHeartbeats 40000000 in
/-- utf8.Valid. -/
theorem valid_any (p : Option Addr) (n c : Nat) (l : Bs) (w : World) (hl : l.length = n) (h : BAt w p n l) (hc : n ≤ c) (hn : n ≤ 1000000) (hT : Tabs w) :
    Calls Tryd.prog 18 #[.slice p n c] w fun e w' => e = .returned (.bool (Lib.validD l)) ∧ Below w.heap.size w w' := by
  obtain ⟨ANS, hANS⟩ : ∃ ANS, Lib.validD l = ANS := ⟨_, rfl⟩
  rw [hANS]
  have P0 : Hid (VSt w ANS (.slice p n n) w p l) := ⟨by rw [hl], Below.refl _ _, by rw [hl]; exact h, hANS, by omega⟩
  have hnI : (n : Int) ≤ 1000000 := by omega
  have hcI : (n : Int) ≤ (c : Int) := by omega
  have HT : Hid (Tabs w) := hT
  clear hANS h hT
  cases p with
  | none =>
    have hn0 : n = 0 := by
      rcases Nat.eq_zero_or_pos n with h1 | h1
      · exact h1
      · obtain ⟨b, o, e, _⟩ := P0.out.at_ (by omega)
        cases e
    subst hn0
    have hl0 : l = [] := List.eq_nil_of_length_eq_zero hl
    subst hl0
    have hA : ANS = true := by rw [← P0.out.ans]; rfl
    subst hA
    clear P0 hl hcI hnI hn HT
    go_enter Tryd.func18, Tryd.ntmps18
    go_wp2
    go_loopw [0] (fun v0 wx => v0 = .slice none 0 0 ∧ wx = w) (fun _ _ => 0)
    case atStart => exact ⟨rfl, rfl⟩
    case round =>
      obtain ⟨rfl, rfl⟩ := hrel
      go_wp2
      go_ret
      exact ⟨rfl, Below.refl _ _⟩
  | some ad =>
    obtain ⟨b0, f0, sp⟩ := ad
    have hh : n = 0 ∨ sp = none := by
      rcases Nat.eq_zero_or_pos n with h1 | h1
      · exact .inl h1
      · obtain ⟨b, o, e, _⟩ := P0.out.at_ (by omega)
        cases e
        exact .inr rfl
    go_enter Tryd.func18, Tryd.ntmps18
    go_wp2
    go_loopw [0] (fun v0 wx => ∃ p l, VSt w ANS v0 wx p l) (fun v0 _ => sliceLen v0)
    case atStart => exact ⟨_, l, P0.out⟩
    case round =>
      obtain ⟨p, l, P⟩ := hrel
      have hv := P.val
      subst hv
      clear P0 hl hn hc hnI hcI hh
      cases l with
      | nil =>
        have hA : ANS = true := by rw [← P.ans]; rfl
        subst hA
        have HB : Hid (Below w.heap.size w wr) := P.bel
        clear P
        go_wp2
        go_ret
        exact ⟨rfl, HB.out⟩
      | cons x0 l =>
        obtain ⟨b, f, rfl, hcl⟩ := P.at_ (by simp)
        obtain ⟨m, hm⟩ : ∃ m, l.length = m := ⟨_, rfl⟩
        have hn : (x0 :: l).length = m + 1 := by simp [hm]
        have hnB : m + 1 ≤ 1000000 := by rw [← hn]; exact P.big
        rw [hn] at hcl ⊢
        have hxl := x0.toNat_lt
        have c0 := hcl 0 (by omega)
        simp only [List.getD_cons_zero, Nat.add_zero] at c0
        have c0' := (P.bel.cell (p := ⟨b, f, none⟩) (World.block_lt_of_cell? w _ c0)).trans c0
        have hnI : (m : Int) + 1 ≤ 1000000 := by omega
        have hm0 : (0 : Int) ≤ (m : Int) := by omega
        by_cases hasc : x0.toNat < 128
        · as_aux_lemma =>
          have hascI : (x0.toNat : Int) < 128 := by omega
          have hv1 : Lib.validD l = ANS := by rw [← P.ans]; exact valid_skipL _ 1 (ascL_one x0 l hasc)
          have P1 : VSt w ANS (.slice (some ⟨b, f + 1, none⟩) (m + 1 - 1) (m + 1 - 1)) wr (some ⟨b, f + 1, none⟩) l := P.step hn 1 (by omega) hv1 wr P.bel
          rw [Nat.add_sub_cancel] at P1
          have HP : Hid (VSt w ANS (.slice (some ⟨b, f + 1, none⟩) m m) wr (some ⟨b, f + 1, none⟩) l ∧ (m = 0 → VSt w ANS (.slice (some ⟨b, f, none⟩) 0 0) wr (some ⟨b, f, none⟩) [])) := ⟨P1, fun e => P.all hn (by rw [e] at hn ⊢; exact hv1) wr P.bel⟩
          clear P hcl c0 hv1 hn P1
          by_cases q1 : m = 0
          · subst q1
            go_wp2
            exact ⟨⟨_, _, HP.out.2 rfl⟩, by simp [sliceLen]⟩
          · have q1n : ¬ m = 0 := q1
            by_cases q9 : m ≤ 8
            · have q9I : ¬ (8 < (m : Int)) := by omega
              go_wp2
              exact ⟨⟨_, _, HP.out.1⟩, by simp [sliceLen]⟩
            · have q9I : 8 < (m : Int) := by omega
              have HW1 := fun W (hW : Below w.heap.size w W) => word_any b (f + 1) m m l W (by have := HP.out.1.at_.below hW; rw [hm] at this; exact this) hm (by omega) (by omega)
              have hA1 := wordN_lt l
              have hasc1 := word_ascL l (by omega)
              obtain ⟨A1, hA⟩ : ∃ A, wordN l = A := ⟨_, rfl⟩
              rw [hA] at HW1 hA1 hasc1
              have hand1 : bits .and .u64 (A1 : Int) 9259542123273814144 = ((A1 &&& 9259542123273814144 : Nat) : Int) := u64_and_nat A1 9259542123273814144 hA1 (by omega)
              obtain ⟨Z1, hZ1⟩ : ∃ Z1, A1 &&& 9259542123273814144 = Z1 := ⟨_, rfl⟩
              rw [hZ1] at hand1 hasc1
              clear hA hZ1
              by_cases hz1 : Z1 = 0
              · have hz1b : ((Z1 : Int) == 0) = true := by simp [hz1]
                obtain ⟨k, hk⟩ : ∃ k, m - 8 = k := ⟨_, rfl⟩
                have hm8 : ¬ m = 8 := by omega
                have hm8I : 8 ≤ (m : Int) := by omega
                have hk0 : ¬ k = 0 := by omega
                have hv2 : Lib.validD (l.drop 8) = ANS := by rw [valid_skipL l 8 (hasc1.1 hz1)]; exact HP.out.1.ans
                obtain ⟨l2, hl2⟩ : ∃ l2, l.drop 8 = l2 := ⟨_, rfl⟩
                have hl2n : l2.length = k := by rw [← hl2, List.length_drop, hm]; omega
                have P2 : ∀ w', Below w.heap.size w w' → VSt w ANS (.slice (some ⟨b, f + 9, none⟩) k k) w' (some ⟨b, f + 9, none⟩) l2 := fun w' hb => by
                  have := HP.out.1.step hm 8 (by omega) hv2 w' hb
                  rw [hl2, hk] at this
                  exact this
                have HP2 : Hid (∀ w', Below w.heap.size w w' → VSt w ANS (.slice (some ⟨b, f + 9, none⟩) k k) w' (some ⟨b, f + 9, none⟩) l2) := P2
                have HB : Hid (Below w.heap.size w wr) := HP.out.1.bel
                have hkI : (k : Int) + 9 ≤ 1000000 := by omega
                have hk0I : 0 < (k : Int) := by omega
                clear hasc1 hv2 hl2 P2 hm q9 q1 q1n hnI
                by_cases q16 : k ≤ 16
                · as_aux_lemma =>
                  have q16I : ¬ (16 < (k : Int)) := by omega
                  have q16d : decide (16 < (k : Int)) = false := by simpa using q16I
                  have q16e : decide (16 < k) = false := by simp; omega
                  go_wp2_with (go_at_call 30; refine (HW1 _ HB.out).mono ?_; rintro e w1 ⟨rfl, qq, rfl⟩)
                  go_quiet (fail)
                  go_wp2
                  exact ⟨⟨_, _, HP2.out _ (below_dr (below_dr HB.out _) _)⟩, by simp [sliceLen]; omega⟩
                · as_aux_lemma =>
                  have q16I : 16 < (k : Int) := by omega
                  have q16d : decide (16 < (k : Int)) = true := by simpa using q16I
                  have q16e : decide (16 < k) = true := by simp; omega
                  have HW2 := fun W (hW : Below w.heap.size w W) => word_any b (f + 9) k k l2 W (by have := (HP2.out W hW).at_.below hW; rw [hl2n] at this; exact this) hl2n (by omega) (by omega)
                  have HW3 := fun W (hW : Below w.heap.size w W) => word_at b (f + 9) k (k - 8) 8 l2 W (by have := (HP2.out W hW).at_.below hW; rw [hl2n] at this; exact this) hl2n (by omega) (by omega)
                  rw [show f + 9 + 8 = f + 17 by omega] at HW3
                  have hA2 := wordN_lt l2
                  have hasc2 := word_ascL l2 (by omega)
                  have hA3 := wordN_lt (l2.drop 8)
                  have hasc3 := word_ascL (l2.drop 8) (by rw [List.length_drop]; omega)
                  obtain ⟨A2, hA⟩ : ∃ A, wordN l2 = A := ⟨_, rfl⟩
                  obtain ⟨A3, hA'⟩ : ∃ A, wordN (l2.drop 8) = A := ⟨_, rfl⟩
                  rw [hA] at HW2 hA2 hasc2
                  rw [hA'] at HW3 hA3 hasc3
                  have hor2 : bits .or .u64 (A2 : Int) (A3 : Int) = ((A2 ||| A3 : Nat) : Int) := u64_or_nat A2 A3 hA2 hA3
                  have lor2 : A2 ||| A3 < 18446744073709551616 := Nat.or_lt_two_pow (n := 64) hA2 hA3
                  have hand2 : bits .and .u64 ((A2 ||| A3 : Nat) : Int) 9259542123273814144 = (((A2 ||| A3) &&& 9259542123273814144 : Nat) : Int) := u64_and_nat _ 9259542123273814144 lor2 (by omega)
                  have k2 : (A2 ||| A3) &&& 9259542123273814144 = 0 → AscL l2 16 := fun h0 => by
                    obtain ⟨e1, e2⟩ := (Lib.or_mask A2 A3 _).1 h0
                    exact ascL_add l2 8 8 (hasc2.1 e1) (hasc3.1 e2)
                  obtain ⟨O2, hO2⟩ : ∃ O2, A2 ||| A3 = O2 := ⟨_, rfl⟩
                  rw [hO2] at hor2 hand2 k2
                  obtain ⟨Z2, hZ2⟩ : ∃ Z2, O2 &&& 9259542123273814144 = Z2 := ⟨_, rfl⟩
                  rw [hZ2] at hand2 k2
                  have hk8 : ¬ k = 8 := by omega
                  have hk8I : 8 ≤ (k : Int) := by omega
                  clear hasc2 hasc3 lor2 hO2 hZ2 hA hA'
                  by_cases hz2 : Z2 = 0
                  · as_aux_lemma =>
                    have hz2b : ((Z2 : Int) == 0) = true := by simp [hz2]
                    obtain ⟨k3, hk3⟩ : ∃ k3, k - 16 = k3 := ⟨_, rfl⟩
                    have hk16 : ¬ k = 16 := by omega
                    have hk16I : 16 ≤ (k : Int) := by omega
                    have hv3 : Lib.validD (l2.drop 16) = ANS := by rw [valid_skipL l2 16 (k2 hz2)]; exact (HP2.out wr HB.out).ans
                    have P3 : ∀ w', Below w.heap.size w w' → VSt w ANS (.slice (some ⟨b, f + 25, none⟩) k3 k3) w' (some ⟨b, f + 25, none⟩) (l2.drop 16) := fun w' hb => by
                      have := (HP2.out wr HB.out).step hl2n 16 (by omega) hv3 w' hb
                      rw [hk3] at this
                      exact this
                    have HP3 : Hid (∀ w', Below w.heap.size w w' → VSt w ANS (.slice (some ⟨b, f + 25, none⟩) k3 k3) w' (some ⟨b, f + 25, none⟩) (l2.drop 16)) := P3
                    clear P3 hv3 k2
                    go_wp2_with (go_at_call 30; refine (HW1 _ HB.out).mono ?_; rintro e w1 ⟨rfl, qq, rfl⟩)
                    have hb2 : Below w.heap.size w (wr.drewN qq) := below_dr HB.out qq
                    generalize wr.drewN qq = wq at hb2 ⊢
                    have HB2 : Hid (Below w.heap.size w wq) := hb2
                    clear hb2 HW1
                    go_quiet ((first | (go_at_call 30; with_reducible exact Calls.quiet_of (HW2 _ (below_dr HB2.out _))) | (go_at_call 30; with_reducible exact Calls.quiet_of (HW3 _ (below_dr HB2.out _)))))
                    go_wp2
                    have HM : Hid (k3 ≤ m ∧ m + 1 ≤ 1000000) := ⟨by omega, hnB⟩
                    have HS3 : Hid (∀ q, ∃ p l, VSt w ANS (.slice (some ⟨b, f + 25, none⟩) k3 k3) (wq.drewN q) p l) := fun q => ⟨_, _, HP3.out _ (below_dr HB2.out q)⟩
                    clear HP HP2 HP3 HB HW2 HW3 hA1 hand1 hA2 hA3 hor2 hand2 hz1 hz1b hz2 hz2b hm0 q9I hkI hk0I q16I q16d q16e hk8 hk8I hk16 hk16I hk hm8 hm8I hk0 hk3 c0' hasc hascI hxl hl2n q16
                    go_loopw [0] (fun v0 wx => (∃ p l, VSt w ANS v0 wx p l) ∧ sliceLen v0 ≤ m) (fun v0 _ => sliceLen v0)
                    case atStart => exact ⟨HS3.out _, HM.out.1⟩
                    case round =>
                      obtain ⟨⟨p, l, P⟩, hle⟩ := hrel
                      have hv := P.val
                      subst hv
                      obtain ⟨n, hn⟩ : ∃ n, l.length = n := ⟨_, rfl⟩
                      rw [hn] at hle ⊢
                      have hle' : n ≤ m := hle
                      have HP : Hid (VSt w ANS (.slice p l.length l.length) wr p l ∧ l.length = n ∧ n ≤ m) := ⟨P, hn, hle'⟩
                      have HB : Hid (Below w.heap.size w wr) := P.bel
                      have hnI : (n : Int) ≤ 1000000 := by have := HM.out; omega
                      by_cases q32 : n ≤ 32
                      · have q32I : ¬ (32 < (n : Int)) := by omega
                        have q32d : decide (32 < (n : Int)) = false := by simpa using q32I
                        have q32e : decide (32 < n) = false := by simp; omega
                        clear P hle hn hle'
                        go_wp2_with fail
                        go_quiet (fail)
                        go_wp2
                        refine ⟨⟨p, l, ?_⟩, ?_⟩
                        · have hP := HP.out
                          exact ⟨by rw [hP.2.1], below_dr HB.out _, hP.1.at_, hP.1.ans, hP.1.big⟩
                        · have hP := HP.out
                          simp [sliceLen]
                          omega
                      · have q32I : 32 < (n : Int) := by omega
                        have q32d : decide (32 < (n : Int)) = true := by simpa using q32I
                        have q32e : decide (32 < n) = true := by simp; omega
                        obtain ⟨b3, f3, rfl, _⟩ := P.at_ (by omega)
                        have HWa := fun W (hW : Below w.heap.size w W) => word_any b3 f3 n n l W (by have := HP.out.1.at_.below hW; rw [hn] at this; exact this) hn (by omega) (by omega)
                        have HWb := fun W (hW : Below w.heap.size w W) => word_at b3 f3 n (n - 8) 8 l W (by have := HP.out.1.at_.below hW; rw [hn] at this; exact this) hn (by omega) (by omega)
                        have HWc := fun W (hW : Below w.heap.size w W) => word_at b3 f3 n (n - 16) 16 l W (by have := HP.out.1.at_.below hW; rw [hn] at this; exact this) hn (by omega) (by omega)
                        have HWd := fun W (hW : Below w.heap.size w W) => word_at b3 f3 n (n - 24) 24 l W (by have := HP.out.1.at_.below hW; rw [hn] at this; exact this) hn (by omega) (by omega)
                        have hAa := wordN_lt l
                        have hAb := wordN_lt (l.drop 8)
                        have hAc := wordN_lt (l.drop 16)
                        have hAd := wordN_lt (l.drop 24)
                        have ascA := word_ascL l (by omega)
                        have ascB := word_ascL (l.drop 8) (by rw [List.length_drop]; omega)
                        have ascC := word_ascL (l.drop 16) (by rw [List.length_drop]; omega)
                        have ascD := word_ascL (l.drop 24) (by rw [List.length_drop]; omega)
                        obtain ⟨Ba, hBa⟩ : ∃ A, wordN l = A := ⟨_, rfl⟩
                        obtain ⟨Bb, hBb⟩ : ∃ A, wordN (l.drop 8) = A := ⟨_, rfl⟩
                        obtain ⟨Bc, hBc⟩ : ∃ A, wordN (l.drop 16) = A := ⟨_, rfl⟩
                        obtain ⟨Bd, hBd⟩ : ∃ A, wordN (l.drop 24) = A := ⟨_, rfl⟩
                        rw [hBa] at HWa hAa ascA
                        rw [hBb] at HWb hAb ascB
                        rw [hBc] at HWc hAc ascC
                        rw [hBd] at HWd hAd ascD
                        have hor1 : bits .or .u64 (Ba : Int) (Bb : Int) = ((Ba ||| Bb : Nat) : Int) := u64_or_nat Ba Bb hAa hAb
                        have hor2 : bits .or .u64 (Bc : Int) (Bd : Int) = ((Bc ||| Bd : Nat) : Int) := u64_or_nat Bc Bd hAc hAd
                        have l1 : Ba ||| Bb < 18446744073709551616 := Nat.or_lt_two_pow (n := 64) hAa hAb
                        have l2' : Bc ||| Bd < 18446744073709551616 := Nat.or_lt_two_pow (n := 64) hAc hAd
                        have hor3 : bits .or .u64 ((Ba ||| Bb : Nat) : Int) ((Bc ||| Bd : Nat) : Int) = (((Ba ||| Bb) ||| (Bc ||| Bd) : Nat) : Int) := u64_or_nat _ _ l1 l2'
                        have l3 : (Ba ||| Bb) ||| (Bc ||| Bd) < 18446744073709551616 := Nat.or_lt_two_pow (n := 64) l1 l2'
                        have hand : bits .and .u64 (((Ba ||| Bb) ||| (Bc ||| Bd) : Nat) : Int) 9259542123273814144 = ((((Ba ||| Bb) ||| (Bc ||| Bd)) &&& 9259542123273814144 : Nat) : Int) := u64_and_nat _ 9259542123273814144 l3 (by omega)
                        have k2 : ((Ba ||| Bb) ||| (Bc ||| Bd)) &&& 9259542123273814144 = 0 → AscL l 32 := fun h0 => by
                          obtain ⟨e1, e2⟩ := (Lib.or_mask (Ba ||| Bb) (Bc ||| Bd) _).1 h0
                          obtain ⟨ea, eb⟩ := (Lib.or_mask Ba Bb _).1 e1
                          obtain ⟨ec, ed⟩ := (Lib.or_mask Bc Bd _).1 e2
                          have r2 : AscL l 16 := ascL_add l 8 8 (ascA.1 ea) (ascB.1 eb)
                          have r3 : AscL l 24 := ascL_add l 16 8 r2 (ascC.1 ec)
                          exact ascL_add l 24 8 r3 (ascD.1 ed)
                        obtain ⟨O1, hO1⟩ : ∃ O, Ba ||| Bb = O := ⟨_, rfl⟩
                        obtain ⟨O2, hO2⟩ : ∃ O, Bc ||| Bd = O := ⟨_, rfl⟩
                        rw [hO1] at hor1 hor3 hand k2
                        rw [hO2] at hor2 hor3 hand k2
                        obtain ⟨O3, hO3⟩ : ∃ O, O1 ||| O2 = O := ⟨_, rfl⟩
                        rw [hO3] at hor3 hand k2
                        obtain ⟨Z3, hZ3⟩ : ∃ Z, O3 &&& 9259542123273814144 = Z := ⟨_, rfl⟩
                        rw [hZ3] at hand k2
                        have n8 : ¬ n = 8 := by omega
                        have n16 : ¬ n = 16 := by omega
                        have n24 : ¬ n = 24 := by omega
                        have n32 : ¬ n = 32 := by omega
                        have n8I : 8 ≤ (n : Int) := by omega
                        have n16I : 16 ≤ (n : Int) := by omega
                        have n24I : 24 ≤ (n : Int) := by omega
                        have n32I : 32 ≤ (n : Int) := by omega
                        have HK2 : Hid (Z3 = 0 → AscL l 32) := k2
                        clear P hle hn hle' hAa hAb hAc hAd ascA ascB ascC ascD l1 l2' l3 hO1 hO2 hO3 hZ3 hBa hBb hBc hBd k2
                        by_cases hz3 : Z3 = 0
                        · as_aux_lemma =>
                          have hz3b : ((Z3 : Int) == 0) = true := by simp [hz3]
                          go_wp2_with fail
                          go_quiet ((first | (go_at_call 30; with_reducible exact Calls.quiet_of (HWa _ (below_dr HB.out _))) | (go_at_call 30; with_reducible exact Calls.quiet_of (HWb _ (below_dr HB.out _))) | (go_at_call 30; with_reducible exact Calls.quiet_of (HWc _ (below_dr HB.out _))) | (go_at_call 30; with_reducible exact Calls.quiet_of (HWd _ (below_dr HB.out _)))))
                          go_wp2
                          have hP := HP.out
                          refine ⟨⟨⟨_, _, hP.1.step hP.2.1 32 (by omega) (by rw [valid_skipL l 32 (HK2.out hz3)]; exact hP.1.ans) _ (below_dr HB.out _)⟩, ?_⟩, ?_⟩
                          · simp [sliceLen]; omega
                          · simp [sliceLen]; omega
                        · as_aux_lemma =>
                          have hz3b : ((Z3 : Int) == 0) = false := by simp; omega
                          go_wp2_with fail
                          go_quiet ((first | (go_at_call 30; with_reducible exact Calls.quiet_of (HWa _ (below_dr HB.out _))) | (go_at_call 30; with_reducible exact Calls.quiet_of (HWb _ (below_dr HB.out _))) | (go_at_call 30; with_reducible exact Calls.quiet_of (HWc _ (below_dr HB.out _))) | (go_at_call 30; with_reducible exact Calls.quiet_of (HWd _ (below_dr HB.out _)))))
                          go_wp2
                          have hP := HP.out
                          refine ⟨⟨some ⟨b3, f3, none⟩, l, ⟨by rw [hP.2.1], below_dr HB.out _, hP.1.at_, hP.1.ans, hP.1.big⟩⟩, ?_⟩
                          simp [sliceLen]
                          omega
                  · as_aux_lemma =>
                    have hz2b : ((Z2 : Int) == 0) = false := by simp; omega
                    go_wp2_with (go_at_call 30; refine (HW1 _ HB.out).mono ?_; rintro e w1 ⟨rfl, qq, rfl⟩)
                    have hb2 : Below w.heap.size w (wr.drewN qq) := below_dr HB.out qq
                    generalize wr.drewN qq = wq at hb2 ⊢
                    have HB2 : Hid (Below w.heap.size w wq) := hb2
                    clear hb2 HW1
                    go_quiet ((first | (go_at_call 30; with_reducible exact Calls.quiet_of (HW2 _ (below_dr HB2.out _))) | (go_at_call 30; with_reducible exact Calls.quiet_of (HW3 _ (below_dr HB2.out _)))))
                    go_wp2
                    exact ⟨⟨_, _, HP2.out _ (below_dr HB2.out _)⟩, by simp [sliceLen]; omega⟩
              · have hz1b : ((Z1 : Int) == 0) = false := by simp; omega
                have HB : Hid (Below w.heap.size w wr) := HP.out.1.bel
                go_wp2_with (go_at_call 30; refine (HW1 _ HB.out).mono ?_; rintro e w1 ⟨rfl, qq, rfl⟩)
                exact ⟨⟨_, _, ⟨HP.out.1.val, below_dr HB.out _, HP.out.1.at_, HP.out.1.ans, HP.out.1.big⟩⟩, by simp [sliceLen]⟩
        · as_aux_lemma =>
          have hascI : ¬ ((x0.toNat : Int) < 128) := by omega
          have hge : 128 ≤ x0.toNat := by omega
          obtain ⟨x1, hx1⟩ : ∃ x1, (x0 :: l).getD 1 0 = x1 := ⟨_, rfl⟩
          obtain ⟨x2, hx2⟩ : ∃ x2, (x0 :: l).getD 2 0 = x2 := ⟨_, rfl⟩
          obtain ⟨x3, hx3⟩ : ∃ x3, (x0 :: l).getD 3 0 = x3 := ⟨_, rfl⟩
          have l1 := x1.toNat_lt; have l2 := x2.toNat_lt; have l3 := x3.toNat_lt
          have hlead := Lib.validD_lead (x0 :: l) (by simp) (by simpa using hge)
          rw [hx1, hx2, hx3, List.getD_cons_zero, hn, P.ans] at hlead
          have hTr := HT.out.below P.bel
          have hc0 := hTr.1 x0.toNat (by omega)
          have hXlt : Lib.firstT x0.toNat < 256 := by rcases Lib.firstT_cases x0.toNat with h | h | h | h | h | h | h | h | h <;> omega
          obtain ⟨X, hX⟩ : ∃ X, Lib.firstT x0.toNat = X := ⟨_, rfl⟩
          rw [hX] at hc0 hXlt hlead
          have h7 := and7C ⟨X, hXlt⟩
          simp only at h7
          have ha0 : wr.cell? ⟨1, X / 16 * 2, none⟩ = some (.int .u8 (Lib.accLo (X / 16))) := by rw [Nat.mul_comm]; exact (hTr.2 (X / 16) (by omega)).1
          have ha1 : wr.cell? ⟨1, X / 16 * 2 + 1, none⟩ = some (.int .u8 (Lib.accHi (X / 16))) := by rw [Nat.mul_comm]; exact (hTr.2 (X / 16) (by omega)).2
          obtain ⟨LO, hLO⟩ : ∃ LO, Lib.accLo (X / 16) = LO := ⟨_, rfl⟩
          obtain ⟨HI, hHI⟩ : ∃ HI, Lib.accHi (X / 16) = HI := ⟨_, rfl⟩
          rw [hLO] at ha0 hlead
          rw [hHI] at ha1 hlead
          obtain ⟨SZ, hSZ⟩ : ∃ SZ, X % 8 = SZ := ⟨_, rfl⟩
          rw [hSZ] at hlead h7
          have hSZlt : SZ < 8 := by omega
          have hXI : (X : Int) < 256 := by omega
          have hXd : (X : Int) / 16 = ((X / 16 : Nat) : Int) := by omega
          obtain ⟨D, hD⟩ : ∃ D, X / 16 = D := ⟨_, rfl⟩
          rw [hD] at ha0 ha1 hXd
          have hD16 : (D : Int) < 16 := by omega
          have HP : Hid (VSt w ANS (.slice (some ⟨b, f, none⟩) (x0 :: l).length (x0 :: l).length) wr (some ⟨b, f, none⟩) (x0 :: l) ∧ (x0 :: l).length = m + 1) := ⟨P, hn⟩
          have HB : Hid (Below w.heap.size w wr) := P.bel
          have cc : ∀ i, i < m + 1 → wr.cell? ⟨b, f + i, none⟩ = some (.int .u8 (((x0 :: l).getD i 0).toNat : Int)) := fun i hi => (P.bel.cell (p := ⟨b, f + i, none⟩) (World.block_lt_of_cell? w _ (hcl i hi))).trans (hcl i hi)
          have HL : Hid (ANS = match Lib.checkN (m + 1) x1.toNat x2.toNat x3.toNat SZ LO HI with
            | none => false
            | some k => Lib.validD ((x0 :: l).drop k)) := hlead
          clear hTr hX hLO hHI hSZ hD hlead P hcl c0 hn
          have a1 : ∀ (h : 1 < m + 1) (o : Obj), (wr.alloc o).cell? ⟨b, f + 1, none⟩ = some (.int .u8 (x1.toNat : Int)) := fun h o => cell_allocC (by rw [← hx1]; exact cc 1 h)
          have a2 : ∀ (h : 2 < m + 1) (o : Obj), (wr.alloc o).cell? ⟨b, f + 2, none⟩ = some (.int .u8 (x2.toNat : Int)) := fun h o => cell_allocC (by rw [← hx2]; exact cc 2 h)
          have a3 : ∀ (h : 3 < m + 1) (o : Obj), (wr.alloc o).cell? ⟨b, f + 3, none⟩ = some (.int .u8 (x3.toNat : Int)) := fun h o => cell_allocC (by rw [← hx3]; exact cc 3 h)
          have HBA : Hid (∀ (o : Obj) (q : Nat), Below w.heap.size w ((wr.alloc o).drewN q)) := fun o q => below_dr (HB.out.alloc HB.out.size o) q
          clear cc hx1 hx2 hx3 hm
          by_cases s2 : SZ = 2
          · as_aux_lemma =>
            subst s2
            by_cases q0 : m + 1 < 2
            · have q0I : (m : Int) + 1 < 2 := by omega
              have q0d : decide ((m : Int) + 1 < 2) = true := by simpa using q0I
              have q0e : decide (m + 1 < 2) = true := by simpa using q0
              go_wp2
              have hA : ANS = false := by have hh := HL.out; unfold Lib.checkN at hh; simp only [Nat.reduceEqDiff, if_true, if_false] at hh; rw [if_pos (by omega)] at hh; exact hh
              subst hA
              go_quiet (fail)
              go_wp2
              all_goals (go_ret; exact ⟨rfl, HBA.out _ _⟩)
            · have q0I : ¬ ((m : Int) + 1 < 2) := by omega
              have q0d : decide ((m : Int) + 1 < 2) = false := by simpa using q0I
              have q0e : decide (m + 1 < 2) = false := by simpa using q0
              have a1 := a1 (by omega)
              have m1 : 1 < (m : Int) + 1 := by omega
              go_wp2
              by_cases q1 : x1.toNat < LO
              · have q1I : (x1.toNat : Int) < (LO : Int) := by omega
                have q1d : decide ((x1.toNat : Int) < (LO : Int)) = true := by simpa using q1I
                have q1e : decide (x1.toNat < LO) = true := by simp; omega
                have hA : ANS = false := by have hh := HL.out; unfold Lib.checkN at hh; simp only [Nat.reduceEqDiff, if_true, if_false] at hh; rw [if_pos (by omega)] at hh; exact hh
                subst hA
                go_quiet (fail)
                go_wp2
                all_goals (go_ret; exact ⟨rfl, HBA.out _ _⟩)
              · have q1I : ¬ ((x1.toNat : Int) < (LO : Int)) := by omega
                have q1d : decide ((x1.toNat : Int) < (LO : Int)) = false := by simpa using q1I
                have q1e : decide (x1.toNat < LO) = false := by simp; omega
                by_cases q2 : HI < x1.toNat
                · have q2I : (HI : Int) < (x1.toNat : Int) := by omega
                  have q2d : decide ((HI : Int) < (x1.toNat : Int)) = true := by simpa using q2I
                  have q2e : decide (HI < x1.toNat) = true := by simp; omega
                  have hA : ANS = false := by have hh := HL.out; unfold Lib.checkN at hh; simp only [Nat.reduceEqDiff, if_true, if_false] at hh; rw [if_pos (by omega)] at hh; exact hh
                  subst hA
                  go_quiet (fail)
                  go_wp2
                  all_goals (go_ret; exact ⟨rfl, HBA.out _ _⟩)
                · have q2I : ¬ ((HI : Int) < (x1.toNat : Int)) := by omega
                  have q2d : decide ((HI : Int) < (x1.toNat : Int)) = false := by simpa using q2I
                  have q2e : decide (HI < x1.toNat) = false := by simp; omega
                  have hA : ANS = Lib.validD ((x0 :: l).drop 2) := by have hh := HL.out; unfold Lib.checkN at hh; simp only [Nat.reduceEqDiff, if_true, if_false] at hh; rw [if_neg (by omega)] at hh; exact hh
                  go_quiet (fail)
                  by_cases hmm : m = 1
                  · subst hmm
                    go_wp2
                    exact ⟨⟨_, _, HP.out.1.all HP.out.2 hA.symm _ (HBA.out _ _)⟩, by simp [sliceLen]⟩
                  · have hmn : ¬ m + 1 = 2 := by omega
                    have hmI : 2 ≤ (m : Int) + 1 := by omega
                    go_wp2
                    exact ⟨⟨_, _, HP.out.1.step HP.out.2 2 (by omega) hA.symm _ (HBA.out _ _)⟩, by simp [sliceLen]; omega⟩
          by_cases s3 : SZ = 3
          · as_aux_lemma =>
            subst s3
            by_cases q0 : m + 1 < 3
            · have q0I : (m : Int) + 1 < 3 := by omega
              have q0d : decide ((m : Int) + 1 < 3) = true := by simpa using q0I
              have q0e : decide (m + 1 < 3) = true := by simpa using q0
              go_wp2
              have hA : ANS = false := by have hh := HL.out; unfold Lib.checkN at hh; simp only [Nat.reduceEqDiff, if_true, if_false] at hh; rw [if_pos (by omega)] at hh; exact hh
              subst hA
              go_quiet (fail)
              go_wp2
              all_goals (go_ret; exact ⟨rfl, HBA.out _ _⟩)
            · have q0I : ¬ ((m : Int) + 1 < 3) := by omega
              have q0d : decide ((m : Int) + 1 < 3) = false := by simpa using q0I
              have q0e : decide (m + 1 < 3) = false := by simpa using q0
              have a1 := a1 (by omega)
              have m1 : 1 < (m : Int) + 1 := by omega
              have a2 := a2 (by omega)
              have m2 : 2 < (m : Int) + 1 := by omega
              go_wp2
              by_cases q1 : x1.toNat < LO
              · have q1I : (x1.toNat : Int) < (LO : Int) := by omega
                have q1d : decide ((x1.toNat : Int) < (LO : Int)) = true := by simpa using q1I
                have q1e : decide (x1.toNat < LO) = true := by simp; omega
                have hA : ANS = false := by have hh := HL.out; unfold Lib.checkN at hh; simp only [Nat.reduceEqDiff, if_true, if_false] at hh; rw [if_pos (by omega)] at hh; exact hh
                subst hA
                go_quiet (fail)
                go_wp2
                all_goals (go_ret; exact ⟨rfl, HBA.out _ _⟩)
              · have q1I : ¬ ((x1.toNat : Int) < (LO : Int)) := by omega
                have q1d : decide ((x1.toNat : Int) < (LO : Int)) = false := by simpa using q1I
                have q1e : decide (x1.toNat < LO) = false := by simp; omega
                by_cases q2 : HI < x1.toNat
                · have q2I : (HI : Int) < (x1.toNat : Int) := by omega
                  have q2d : decide ((HI : Int) < (x1.toNat : Int)) = true := by simpa using q2I
                  have q2e : decide (HI < x1.toNat) = true := by simp; omega
                  have hA : ANS = false := by have hh := HL.out; unfold Lib.checkN at hh; simp only [Nat.reduceEqDiff, if_true, if_false] at hh; rw [if_pos (by omega)] at hh; exact hh
                  subst hA
                  go_quiet (fail)
                  go_wp2
                  all_goals (go_ret; exact ⟨rfl, HBA.out _ _⟩)
                · have q2I : ¬ ((HI : Int) < (x1.toNat : Int)) := by omega
                  have q2d : decide ((HI : Int) < (x1.toNat : Int)) = false := by simpa using q2I
                  have q2e : decide (HI < x1.toNat) = false := by simp; omega
                  by_cases q3 : x2.toNat < 128
                  · have q3I : (x2.toNat : Int) < (128 : Int) := by omega
                    have q3d : decide ((x2.toNat : Int) < (128 : Int)) = true := by simpa using q3I
                    have q3e : decide (x2.toNat < 128) = true := by simp; omega
                    have hA : ANS = false := by have hh := HL.out; unfold Lib.checkN at hh; simp only [Nat.reduceEqDiff, if_true, if_false] at hh; rw [if_pos (by omega)] at hh; exact hh
                    subst hA
                    go_quiet (fail)
                    go_wp2
                    all_goals (go_ret; exact ⟨rfl, HBA.out _ _⟩)
                  · have q3I : ¬ ((x2.toNat : Int) < (128 : Int)) := by omega
                    have q3d : decide ((x2.toNat : Int) < (128 : Int)) = false := by simpa using q3I
                    have q3e : decide (x2.toNat < 128) = false := by simp; omega
                    by_cases q4 : 191 < x2.toNat
                    · have q4I : (191 : Int) < (x2.toNat : Int) := by omega
                      have q4d : decide ((191 : Int) < (x2.toNat : Int)) = true := by simpa using q4I
                      have q4e : decide (191 < x2.toNat) = true := by simp; omega
                      have hA : ANS = false := by have hh := HL.out; unfold Lib.checkN at hh; simp only [Nat.reduceEqDiff, if_true, if_false] at hh; rw [if_pos (by omega)] at hh; exact hh
                      subst hA
                      go_quiet (fail)
                      go_wp2
                      all_goals (go_ret; exact ⟨rfl, HBA.out _ _⟩)
                    · have q4I : ¬ ((191 : Int) < (x2.toNat : Int)) := by omega
                      have q4d : decide ((191 : Int) < (x2.toNat : Int)) = false := by simpa using q4I
                      have q4e : decide (191 < x2.toNat) = false := by simp; omega
                      have hA : ANS = Lib.validD ((x0 :: l).drop 3) := by have hh := HL.out; unfold Lib.checkN at hh; simp only [Nat.reduceEqDiff, if_true, if_false] at hh; rw [if_neg (by omega)] at hh; exact hh
                      go_quiet (fail)
                      by_cases hmm : m = 2
                      · subst hmm
                        go_wp2
                        exact ⟨⟨_, _, HP.out.1.all HP.out.2 hA.symm _ (HBA.out _ _)⟩, by simp [sliceLen]⟩
                      · have hmn : ¬ m + 1 = 3 := by omega
                        have hmI : 3 ≤ (m : Int) + 1 := by omega
                        go_wp2
                        exact ⟨⟨_, _, HP.out.1.step HP.out.2 3 (by omega) hA.symm _ (HBA.out _ _)⟩, by simp [sliceLen]; omega⟩
          by_cases s4 : SZ = 4
          · as_aux_lemma =>
            subst s4
            by_cases q0 : m + 1 < 4
            · have q0I : (m : Int) + 1 < 4 := by omega
              have q0d : decide ((m : Int) + 1 < 4) = true := by simpa using q0I
              have q0e : decide (m + 1 < 4) = true := by simpa using q0
              go_wp2
              have hA : ANS = false := by have hh := HL.out; unfold Lib.checkN at hh; simp only [Nat.reduceEqDiff, if_true, if_false] at hh; rw [if_pos (by omega)] at hh; exact hh
              subst hA
              go_quiet (fail)
              go_wp2
              all_goals (go_ret; exact ⟨rfl, HBA.out _ _⟩)
            · have q0I : ¬ ((m : Int) + 1 < 4) := by omega
              have q0d : decide ((m : Int) + 1 < 4) = false := by simpa using q0I
              have q0e : decide (m + 1 < 4) = false := by simpa using q0
              have a1 := a1 (by omega)
              have m1 : 1 < (m : Int) + 1 := by omega
              have a2 := a2 (by omega)
              have m2 : 2 < (m : Int) + 1 := by omega
              have a3 := a3 (by omega)
              have m3 : 3 < (m : Int) + 1 := by omega
              go_wp2
              by_cases q1 : x1.toNat < LO
              · have q1I : (x1.toNat : Int) < (LO : Int) := by omega
                have q1d : decide ((x1.toNat : Int) < (LO : Int)) = true := by simpa using q1I
                have q1e : decide (x1.toNat < LO) = true := by simp; omega
                have hA : ANS = false := by have hh := HL.out; unfold Lib.checkN at hh; simp only [Nat.reduceEqDiff, if_true, if_false] at hh; rw [if_pos (by omega)] at hh; exact hh
                subst hA
                go_quiet (fail)
                go_wp2
                all_goals (go_ret; exact ⟨rfl, HBA.out _ _⟩)
              · have q1I : ¬ ((x1.toNat : Int) < (LO : Int)) := by omega
                have q1d : decide ((x1.toNat : Int) < (LO : Int)) = false := by simpa using q1I
                have q1e : decide (x1.toNat < LO) = false := by simp; omega
                by_cases q2 : HI < x1.toNat
                · have q2I : (HI : Int) < (x1.toNat : Int) := by omega
                  have q2d : decide ((HI : Int) < (x1.toNat : Int)) = true := by simpa using q2I
                  have q2e : decide (HI < x1.toNat) = true := by simp; omega
                  have hA : ANS = false := by have hh := HL.out; unfold Lib.checkN at hh; simp only [Nat.reduceEqDiff, if_true, if_false] at hh; rw [if_pos (by omega)] at hh; exact hh
                  subst hA
                  go_quiet (fail)
                  go_wp2
                  all_goals (go_ret; exact ⟨rfl, HBA.out _ _⟩)
                · have q2I : ¬ ((HI : Int) < (x1.toNat : Int)) := by omega
                  have q2d : decide ((HI : Int) < (x1.toNat : Int)) = false := by simpa using q2I
                  have q2e : decide (HI < x1.toNat) = false := by simp; omega
                  by_cases q3 : x2.toNat < 128
                  · have q3I : (x2.toNat : Int) < (128 : Int) := by omega
                    have q3d : decide ((x2.toNat : Int) < (128 : Int)) = true := by simpa using q3I
                    have q3e : decide (x2.toNat < 128) = true := by simp; omega
                    have hA : ANS = false := by have hh := HL.out; unfold Lib.checkN at hh; simp only [Nat.reduceEqDiff, if_true, if_false] at hh; rw [if_pos (by omega)] at hh; exact hh
                    subst hA
                    go_quiet (fail)
                    go_wp2
                    all_goals (go_ret; exact ⟨rfl, HBA.out _ _⟩)
                  · have q3I : ¬ ((x2.toNat : Int) < (128 : Int)) := by omega
                    have q3d : decide ((x2.toNat : Int) < (128 : Int)) = false := by simpa using q3I
                    have q3e : decide (x2.toNat < 128) = false := by simp; omega
                    by_cases q4 : 191 < x2.toNat
                    · have q4I : (191 : Int) < (x2.toNat : Int) := by omega
                      have q4d : decide ((191 : Int) < (x2.toNat : Int)) = true := by simpa using q4I
                      have q4e : decide (191 < x2.toNat) = true := by simp; omega
                      have hA : ANS = false := by have hh := HL.out; unfold Lib.checkN at hh; simp only [Nat.reduceEqDiff, if_true, if_false] at hh; rw [if_pos (by omega)] at hh; exact hh
                      subst hA
                      go_quiet (fail)
                      go_wp2
                      all_goals (go_ret; exact ⟨rfl, HBA.out _ _⟩)
                    · have q4I : ¬ ((191 : Int) < (x2.toNat : Int)) := by omega
                      have q4d : decide ((191 : Int) < (x2.toNat : Int)) = false := by simpa using q4I
                      have q4e : decide (191 < x2.toNat) = false := by simp; omega
                      by_cases q5 : x3.toNat < 128
                      · have q5I : (x3.toNat : Int) < (128 : Int) := by omega
                        have q5d : decide ((x3.toNat : Int) < (128 : Int)) = true := by simpa using q5I
                        have q5e : decide (x3.toNat < 128) = true := by simp; omega
                        have hA : ANS = false := by have hh := HL.out; unfold Lib.checkN at hh; simp only [Nat.reduceEqDiff, if_true, if_false] at hh; rw [if_pos (by omega)] at hh; exact hh
                        subst hA
                        go_quiet (fail)
                        go_wp2
                        all_goals (go_ret; exact ⟨rfl, HBA.out _ _⟩)
                      · have q5I : ¬ ((x3.toNat : Int) < (128 : Int)) := by omega
                        have q5d : decide ((x3.toNat : Int) < (128 : Int)) = false := by simpa using q5I
                        have q5e : decide (x3.toNat < 128) = false := by simp; omega
                        by_cases q6 : 191 < x3.toNat
                        · have q6I : (191 : Int) < (x3.toNat : Int) := by omega
                          have q6d : decide ((191 : Int) < (x3.toNat : Int)) = true := by simpa using q6I
                          have q6e : decide (191 < x3.toNat) = true := by simp; omega
                          have hA : ANS = false := by have hh := HL.out; unfold Lib.checkN at hh; simp only [Nat.reduceEqDiff, if_true, if_false] at hh; rw [if_pos (by omega)] at hh; exact hh
                          subst hA
                          go_quiet (fail)
                          go_wp2
                          all_goals (go_ret; exact ⟨rfl, HBA.out _ _⟩)
                        · have q6I : ¬ ((191 : Int) < (x3.toNat : Int)) := by omega
                          have q6d : decide ((191 : Int) < (x3.toNat : Int)) = false := by simpa using q6I
                          have q6e : decide (191 < x3.toNat) = false := by simp; omega
                          have hA : ANS = Lib.validD ((x0 :: l).drop 4) := by have hh := HL.out; unfold Lib.checkN at hh; simp only [Nat.reduceEqDiff, if_true, if_false] at hh; rw [if_neg (by omega)] at hh; exact hh
                          go_quiet (fail)
                          by_cases hmm : m = 3
                          · subst hmm
                            go_wp2
                            exact ⟨⟨_, _, HP.out.1.all HP.out.2 hA.symm _ (HBA.out _ _)⟩, by simp [sliceLen]⟩
                          · have hmn : ¬ m + 1 = 4 := by omega
                            have hmI : 4 ≤ (m : Int) + 1 := by omega
                            go_wp2
                            exact ⟨⟨_, _, HP.out.1.step HP.out.2 4 (by omega) hA.symm _ (HBA.out _ _)⟩, by simp [sliceLen]; omega⟩
          have hA : ANS = false := by have hh := HL.out; unfold Lib.checkN at hh; rw [if_neg s2, if_neg s3, if_neg s4] at hh; exact hh
          subst hA
          have s2I : ((SZ : Int) == 2) = false := by simp; omega
          have s3I : ((SZ : Int) == 3) = false := by simp; omega
          have s4I : ((SZ : Int) == 4) = false := by simp; omega
          have hSZ8 : (SZ : Int) < 256 := by omega
          go_wp2
          go_ret
          exact ⟨rfl, HB.out.alloc HB.out.size _⟩
end Go.Proofs.YtfmldcibhllpcabDoor
