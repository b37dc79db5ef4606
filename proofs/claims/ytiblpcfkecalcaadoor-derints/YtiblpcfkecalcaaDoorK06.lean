import Derived.Test.YtiblpcfkecalcaaDoorK05
import Derived.Test.YtiblpcfkecalcaaDoorK04
/-
  The document's Int.
-/
namespace Go.Proofs.YtiblpcfkecalcaaDoor
open Go.Shelf Go.RowKit
set_option linter.unusedVariables false
set_option linter.unusedSimpArgs false

/-- What the document's Int answers. -/
def RIntPost (w : World) (t : Nat) (b : Bs) (e : Ending) (w' : World) : Prop :=
  Below w.heap.size w w' ∧ (((t ≠ 2 ∨ intL b = none) ∧ e = .returned (.tuple #[.slice none 0 0, .int .i64 30])) ∨
    ∃ l, t = 2 ∧ intL b = some l ∧ ((512 < l.length ∧ e = .returned (.tuple #[.slice none 0 0, .int .i64 3])) ∨ (l.length ≤ 512 ∧ ∃ v, e = .returned (.tuple #[v, .int .i64 0]) ∧ NumOut .i64 D16 w w' v (val 256 (intsB l).reverse) 1001)))
theorem NumOut.laterD {w w1 w' : World} {v : Value} {n : Int} {L : Nat} (hb : Below w.heap.size w w1) (h : NumOut .i64 D16 w1 w' v n L) : NumOut .i64 D16 w w' v n L := by
  obtain ⟨ao, len, cap, xs, e, h1, h2, h3, h4, h5⟩ := h
  exact ⟨ao, len, cap, xs, e, h1, h2, h3, h4, hb.trans (h5.mono hb.size)⟩
set_option maxRecDepth 100000 in
set_option maxHeartbeats 4000000 in
/-- Int. -/
theorem rInt10 (t : Nat) (ht : t < 256) (p : Option Addr) (n c : Nat) (l : Bs) (P : Nat → Prop) (w : World) (hl : l.length = n) (h : ByV w P p c l) (hn : n ≤ 1000) :
    Calls Tryd.prog 24 #[.agg #[.int .u8 (t : Int), .slice p n c]] w (RIntPost w t l) := by
  have hcap := h.cap
  have hbig := h.big
  rw [hl] at hcap
  obtain ⟨W1, hW1⟩ : ∃ W1, w.alloc (.cells #[.int .u8 (t : Int), .slice p n c] 25) = W1 := ⟨_, rfl⟩
  have b1 : Below w.heap.size w W1 := by rw [← hW1]; exact (Below.refl _ _).alloc (Nat.le_refl _) _
  have s1 : Tl W1 w.heap.size (.int .u8 (t : Int)) (.slice p n c) := by rw [← hW1]; exact Tl.new w _ _
  obtain ⟨g0, g1, g2, g3⟩ := s1.facts
  have HB : Hid (Below w.heap.size w W1) := b1
  have HBAD : Hid (t ≠ 2 ∨ intL l = none → RIntPost w t l (.returned (.tuple #[.slice none 0 0, .int .i64 30])) W1) := fun hh => ⟨b1, .inl ⟨hh, rfl⟩⟩
  have HBIG : Hid (∀ l', t = 2 → intL l = some l' → 512 < l'.length → RIntPost w t l (.returned (.tuple #[.slice none 0 0, .int .i64 3])) W1) := fun l' h2 hi hb => ⟨b1, .inr ⟨l', h2, hi, .inl ⟨hb, rfl⟩⟩⟩
  have HRD : Hid (∀ (q : Option Addr) (m d : Nat) (l' r' : Bs), t = 2 → intL l = some l' → l'.length ≤ 512 → r'.length = m → m ≤ 1000 → NumIn .u8 256 W1 q m d (intsB r') → val 256 (intsB r').reverse = val 256 (intsB l').reverse → Calls Tryd.prog 44 #[.slice q m d] W1 fun e w' => ∃ v, e = .returned v ∧ RIntPost w t l (.returned (.tuple #[v, .int .i64 0])) w') := by
    intro q m d l' r' h2 hi hl' hm hm2 hnum hval
    refine (rRead_any q m d (intsB r') W1 hnum (by omega)).mono ?_
    rintro e w' ⟨v, rfl, hv⟩
    have hv' := hv.laterD b1
    rw [hval] at hv'
    exact ⟨v, rfl, by obtain ⟨_, _, _, _, _, _, _, _, _, h5⟩ := hv'; exact h5, .inr ⟨l', h2, hi, .inr ⟨hl', v, rfl, hv'⟩⟩⟩
  clear b1 s1
  by_cases q2 : t = 2
  rotate_left
  · have e2 : ((t : Int) == 2) = false := by simp; omega
    have e3 : ((t : Int) != 2) = true := by simp; omega
    go_enter Tryd.func24, Tryd.ntmps24
    go_wp2_with fail
    go_ret2
    exact HBAD.out (.inl q2)
  have e2 : ((t : Int) == 2) = true := by simp; omega
  have e3 : ((t : Int) != 2) = false := by simp; omega
  have HT2 : Hid (t = 2) := q2
  clear q2
  cases l with
  | nil =>
    simp at hl
    subst hl
    go_enter Tryd.func24, Tryd.ntmps24
    go_wp2_with fail
    go_ret2
    exact HBAD.out (.inr rfl)
  | cons a xs =>
    obtain ⟨b, o, rfl, hcl⟩ := h.lies (by simp)
    have HCL : Hid (∀ i, i < (a :: xs).length → W1.cell? ⟨b, o + i, none⟩ = some (.int .u8 (((a :: xs).getD i 0).toNat : Int))) := fun i hi => (HB.out.cell (p := ⟨b, o + i, none⟩) (World.block_lt_of_cell? w _ (hcl i hi))).trans (hcl i hi)
    have c0 : W1.cell? ⟨b, o, none⟩ = some (.int .u8 (a.toNat : Int)) := by simpa using HCL.out 0 (by simp)
    have ha := a.toNat_lt
    have hn0 : 0 < n := by simp at hl; omega
    have hz : ((n : Int) == 0) = false := by simp; omega
    have hnI : (0 : Int) < (n : Int) := by omega
    have hcI : (n : Int) ≤ (c : Int) := by omega
    obtain ⟨A, hA⟩ : ∃ A, a.toNat = A := ⟨_, rfl⟩
    have HL : Hid ((a :: xs).length = n ∧ a.toNat = A ∧ xs.length = n - 1) := ⟨hl, hA, by simp at hl; omega⟩
    rw [hA] at c0 ha
    clear hl hcl h hA
    by_cases q3 : 128 ≤ A
    · have q3I : (128 : Int) ≤ (A : Int) := by omega
      go_enter Tryd.func24, Tryd.ntmps24
      go_wp2_with fail
      go_ret2
      exact HBAD.out (.inr (by rw [intL_cons, if_pos (by rw [HL.out.2.1]; exact q3)]))
    have q3I : ¬ (128 : Int) ≤ (A : Int) := by omega
    have HWH : Hid (BAt W1 (some ⟨b, o, none⟩) n (a :: xs)) := fun _ => ⟨b, o, rfl, fun i hi => HCL.out i (by rw [HL.out.1]; exact hi)⟩
    by_cases q4 : A = 0
    · subst q4
      by_cases q5 : 1 < n
      · have q5I : (1 : Int) < (n : Int) := by omega
        have q6I : (1 : Int) ≤ (n : Int) := by omega
        have q7I : (1 : Int) ≤ (c : Int) := by omega
        have hc1 : ¬ c = 1 := by omega
        have hn1 : (0 : Int) < (n : Int) - 1 := by omega
        have c1 : W1.cell? ⟨b, o + 1, none⟩ = some (.int .u8 ((xs.getD 0 0).toNat : Int)) := by simpa using HCL.out 1 (by rw [HL.out.1]; omega)
        obtain ⟨X, hX⟩ : ∃ X, (xs.getD 0 0).toNat = X := ⟨_, rfl⟩
        have hx := (xs.getD 0 0).toNat_lt
        rw [hX] at c1 hx
        have HX : Hid ((xs.getD 0 0).toNat = X) := hX
        clear hX
        by_cases q8 : X < 128
        · have q8I : (X : Int) < 128 := by omega
          go_enter Tryd.func24, Tryd.ntmps24
          go_wp2_with fail
          go_ret2
          exact HBAD.out (.inr (by rw [intL_cons, if_neg (by rw [HL.out.2.1]; omega), if_pos ⟨HL.out.2.1, by rw [HL.out.2.2]; omega⟩, if_pos (by rw [HX.out]; exact q8)]))
        · have q8I : ¬ (X : Int) < 128 := by omega
          have HIL : Hid (intL (a :: xs) = some xs) := by show intL (a :: xs) = some xs; rw [intL_cons, if_neg (by rw [HL.out.2.1]; omega), if_pos ⟨HL.out.2.1, by rw [HL.out.2.2]; omega⟩, if_neg (by rw [HX.out]; exact q8)]
          by_cases q9 : 512 < n - 1
          · have q9I : (512 : Int) < ((n - 1 : Nat) : Int) := by omega
            have q9J : (512 : Int) < (n : Int) - 1 := by omega
            go_enter Tryd.func24, Tryd.ntmps24
            go_wp2_with fail
            all_goals (go_ret2; exact HBIG.out xs HT2.out HIL.out (by rw [HL.out.2.2]; exact q9))
          · have q9I : ¬ (512 : Int) < ((n - 1 : Nat) : Int) := by omega
            have q9J : ¬ (512 : Int) < (n : Int) - 1 := by omega
            have HR := HRD.out (some ⟨b, o + 1, none⟩) (n - 1) (c - 1) xs xs HT2.out HIL.out (by rw [HL.out.2.2]; omega) HL.out.2.2 (by omega) (numIn_bat (fun _ => ⟨b, o + 1, rfl, fun i hi => by have := HCL.out (i + 1) (by rw [HL.out.1]; omega); rw [Nat.add_assoc, Nat.add_comm 1 i]; simpa using this⟩) HL.out.2.2 (by omega) (by omega) (by omega) (by omega)) rfl
            go_enter Tryd.func24, Tryd.ntmps24
            go_wp2_with (go_at_call 44; refine HR.mono ?_; rintro e w' ⟨v, rfl, hp⟩; have HP : Hid (RIntPost w t (a :: xs) (.returned (.tuple #[v, .int .i64 0])) w') := hp; clear hp)
            all_goals (go_ret2; exact HP.out)
      · have q5I : ¬ (1 : Int) < (n : Int) := by omega
        have q6I : (1 : Int) ≤ (n : Int) := by omega
        have q7I : (1 : Int) ≤ (c : Int) := by omega
        have hn1 : n = 1 := by omega
        have hn1J : ¬ (512 : Int) < (n : Int) - 1 := by omega
        have hn1I : n - 1 = 0 := by omega
        have hxs : xs = [] := List.eq_nil_of_length_eq_zero (by rw [HL.out.2.2]; omega)
        have HIL : Hid (intL (a :: xs) = some (a :: xs) ∧ val 256 (intsB []).reverse = val 256 (intsB (a :: xs)).reverse) := ⟨by rw [intL_cons, if_neg (by rw [HL.out.2.1]; omega), if_neg (by rw [HL.out.2.2]; omega)], by rw [hxs]; simp [intsB, HL.out.2.1, val]⟩
        have hNI : ∀ q d, d ≤ 9223372036854775807 → NumIn .u8 256 W1 (some q) 0 d (intsB []) := fun q d hd => ⟨Lies.empty _ _ _, Nat.zero_le _, by unfold maxLen; omega, fun e => (by cases e), Dg.nil _, by omega⟩
        by_cases hc : c = 1
        · have HR := HRD.out (some ⟨b, o, none⟩) 0 0 (a :: xs) [] HT2.out HIL.out.1 (by rw [HL.out.1]; omega) rfl (by omega) (hNI _ _ (by omega)) HIL.out.2
          clear hxs
          subst hc
          have hn2 := hn1
          clear hn1
          subst hn2
          go_enter Tryd.func24, Tryd.ntmps24
          go_wp2_with (go_at_call 44; refine HR.mono ?_; rintro e w' ⟨v, rfl, hp⟩; have HP : Hid (RIntPost w t (a :: xs) (.returned (.tuple #[v, .int .i64 0])) w') := hp; clear hp)
          all_goals (go_ret2; exact HP.out)
        · have HR := HRD.out (some ⟨b, o + 1, none⟩) 0 (c - 1) (a :: xs) [] HT2.out HIL.out.1 (by rw [HL.out.1]; omega) rfl (by omega) (hNI _ _ (by omega)) HIL.out.2
          clear hxs
          have hn2 := hn1
          clear hn1
          subst hn2
          go_enter Tryd.func24, Tryd.ntmps24
          go_wp2_with (go_at_call 44; refine HR.mono ?_; rintro e w' ⟨v, rfl, hp⟩; have HP : Hid (RIntPost w t (a :: xs) (.returned (.tuple #[v, .int .i64 0])) w') := hp; clear hp)
          all_goals (go_ret2; exact HP.out)
    have q4I : ((A : Int) == 0) = false := by simp; omega
    have HIL : Hid (intL (a :: xs) = some (a :: xs)) := by show intL (a :: xs) = _; rw [intL_cons, if_neg (by rw [HL.out.2.1]; omega), if_neg (by rw [HL.out.2.1]; omega)]
    by_cases q9 : 512 < n
    · have q9I : (512 : Int) < (n : Int) := by omega
      go_enter Tryd.func24, Tryd.ntmps24
      go_wp2_with fail
      all_goals (go_ret2; exact HBIG.out _ HT2.out HIL.out (by rw [HL.out.1]; exact q9))
    have q9I : ¬ (512 : Int) < (n : Int) := by omega
    have HR := HRD.out (some ⟨b, o, none⟩) n c (a :: xs) (a :: xs) HT2.out HIL.out (by rw [HL.out.1]; omega) HL.out.1 (by omega) (numIn_bat HWH.out HL.out.1 (by omega) (by omega) (by omega) (by omega)) rfl
    go_enter Tryd.func24, Tryd.ntmps24
    go_wp2_with (go_at_call 44; refine HR.mono ?_; rintro e w' ⟨v, rfl, hp⟩; have HP : Hid (RIntPost w t (a :: xs) (.returned (.tuple #[v, .int .i64 0])) w') := hp; clear hp)
    all_goals (go_ret2; exact HP.out)
end Go.Proofs.YtiblpcfkecalcaaDoor
