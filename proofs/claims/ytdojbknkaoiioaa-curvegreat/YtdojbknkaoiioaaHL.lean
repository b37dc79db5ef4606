/-
  Multiples of a point, in a ring in which all but 0 has an inverse. No program in sight.
-/
import Derived.Test.YtdojbknkaoiioaaHB
namespace Go.Proofs.Ytdojbknkaoiioaa
set_option linter.unusedVariables false
set_option linter.unusedSimpArgs false

/-- All but 0 has an inverse. -/
def Invs (P : Nat) [NeZero P] : Prop := ∀ a : Fin P, ¬ a = 0 → ∃ b : Fin P, b * a = 1
variable {P : Nat} [NeZero P]
/-- A slope, where two points of the curve differ in X. -/
theorem line_apart {A B x1 y1 x2 y2 l n : Fin P} (o1 : y1 * y1 = x1 * x1 * x1 + A * x1 + B) (o2 : y2 * y2 = x2 * x2 * x2 + A * x2 + B) (hn : n * (x2 - x1) = 1) (hl : l = (y2 - y1) * n) : LineR A x1 y1 x2 y2 l := by
  subst hl
  refine ⟨?_, ?_⟩
  · have e : (y2 - y1) * n * (x2 - x1) = (y2 - y1) * (n * (x2 - x1)) := by clear o1 o2 hn; grind
    rw [e, hn]
    clear o1 o2 hn e
    grind
  · have e : (y2 - y1) * n * (y1 + y2) = n * (y2 * y2 - y1 * y1) := by clear o1 o2 hn; grind
    rw [e, o1, o2]
    have e2 : n * (x2 * x2 * x2 + A * x2 + B - (x1 * x1 * x1 + A * x1 + B)) = (n * (x2 - x1)) * (x1 * x1 + x1 * x2 + x2 * x2 + A) := by clear o1 o2 hn e; grind
    rw [e2, hn]
    clear o1 o2 hn e e2
    grind
/-- A slope, where two points of the curve have the same X. -/
theorem line_same (D : Dom P) {A B x1 y1 x2 y2 l n : Fin P} (o1 : y1 * y1 = x1 * x1 * x1 + A * x1 + B) (o2 : y2 * y2 = x2 * x2 * x2 + A * x2 + B) (hx : x1 = x2) (hy : ¬ y1 + y2 = 0) (hn : n * (y1 + y2) = 1) (hl : l = (x1 * x1 + x1 * x1 + x1 * x1 + A) * n) : LineR A x1 y1 x2 y2 l := by
  subst hx
  have hd : (y1 + y2) * (y2 - y1) = (y1 + y2) * 0 := by
    have : (y1 + y2) * (y2 - y1) = y2 * y2 - y1 * y1 := by clear o1 o2 hy hn hl; grind
    rw [this, o1, o2]
    clear o1 o2 hy hn hl this
    grind
  have h0 := D.cancel hd hy
  subst hl
  refine ⟨?_, ?_⟩
  · rw [h0]
    clear o1 o2 hy hn hd h0
    grind
  · have e : (x1 * x1 + x1 * x1 + x1 * x1 + A) * n * (y1 + y2) = (x1 * x1 + x1 * x1 + x1 * x1 + A) * (n * (y1 + y2)) := by clear o1 o2 hy hn hd h0; grind
    rw [e, hn]
    clear o1 o2 hy hn hd h0 e
    grind
/-- There is a sum. -/
theorem sum_ex (D : Dom P) (I : Invs P) {A B : Fin P} : ∀ {p q : Option (Fin P × Fin P)}, OnR A B p → OnR A B q → ∃ r, SumR A p q r
  | none, q, _, _ => ⟨q, rfl⟩
  | some p, none, _, _ => ⟨some p, rfl⟩
  | some (x1, y1), some (x2, y2), o1, o2 => by
    by_cases h : x1 = x2 ∧ y1 + y2 = 0
    · exact ⟨none, .inl ⟨h.1, h.2, rfl⟩⟩
    · by_cases hx : x1 = x2
      · have hy : ¬ y1 + y2 = 0 := fun e => h ⟨hx, e⟩
        obtain ⟨n, hn⟩ := I _ hy
        exact ⟨_, .inr ⟨h, _, _, _, line_same D o1 o2 hx hy hn rfl, rfl, rfl, rfl⟩⟩
      · have hy : ¬ x2 - x1 = 0 := fun e => hx (zero_of e).symm
        obtain ⟨n, hn⟩ := I _ hy
        exact ⟨_, .inr ⟨h, _, _, _, line_apart o1 o2 hn rfl, rfl, rfl, rfl⟩⟩
/-- So often a point. -/
def Tm (A : Fin P) (G : Option (Fin P × Fin P)) : Nat → Option (Fin P × Fin P) → Prop
  | 0, q => q = none
  | k + 1, r => ∃ q, Tm A G k q ∧ SumR A q G r
theorem Tm.on {A B : Fin P} {G : Option (Fin P × Fin P)} (hG : OnR A B G) : ∀ (k : Nat) (q : Option (Fin P × Fin P)), Tm A G k q → OnR A B q
  | 0, q, h => by rw [show q = none from h]; trivial
  | k + 1, r, ⟨q, h, hs⟩ => sum_on (Tm.on hG k q h) hG hs
theorem Tm.ex (D : Dom P) (I : Invs P) {A B : Fin P} {G : Option (Fin P × Fin P)} (hG : OnR A B G) : ∀ k, ∃ q, Tm A G k q
  | 0 => ⟨none, rfl⟩
  | k + 1 => by
    obtain ⟨q, h⟩ := Tm.ex D I hG k
    obtain ⟨r, hr⟩ := sum_ex D I (Tm.on hG k q h) hG
    exact ⟨r, q, h, hr⟩
theorem Tm.uniq (D : Dom P) {A : Fin P} {G : Option (Fin P × Fin P)} : ∀ (k : Nat) (q r : Option (Fin P × Fin P)), Tm A G k q → Tm A G k r → q = r
  | 0, q, r, h, h' => by rw [show q = none from h, show r = none from h']
  | k + 1, q, r, ⟨q', h, hs⟩, ⟨r', h', hs'⟩ => by
    rw [Tm.uniq D k q' r' h h'] at hs
    exact sum_uniq D hs hs'
theorem sum_none {A : Fin P} : ∀ p : Option (Fin P × Fin P), SumR A p none p
  | none => rfl
  | some _ => rfl
/-- Sums of multiples are multiples. -/
theorem Tm.add (D : Dom P) (I : Invs P) {A B : Fin P} (S : Smooth A B) {G : Option (Fin P × Fin P)} (hG : OnR A B G) (a : Nat) (p : Option (Fin P × Fin P)) (ha : Tm A G a p) : ∀ (b : Nat) (q r : Option (Fin P × Fin P)), Tm A G b q → SumR A p q r → Tm A G (a + b) r
  | 0, q, r, h, hs => by
    rw [show q = none from h] at hs
    rw [← sum_uniq D (sum_none p) hs]
    exact ha
  | b + 1, q, r, ⟨q', h, hq⟩, hs => by
    have o1 := Tm.on hG a p ha
    have o2 := Tm.on hG b q' h
    obtain ⟨s, hs'⟩ := sum_ex D I o1 o2
    have h1 := Tm.add D I S hG a p ha b q' s h hs'
    obtain ⟨r', hr'⟩ := sum_ex D I (sum_on o1 o2 hs') hG
    have := sum_assoc D S o1 o2 hG hs' hr' hq hs
    subst this
    exact ⟨s, h1, hr'⟩
/-- A multiple that is nothing: so often more is where it was. -/
theorem Tm.round (D : Dom P) (I : Invs P) {A B : Fin P} (S : Smooth A B) {G : Option (Fin P × Fin P)} (hG : OnR A B G) {N : Nat} (hN : Tm A G N none) {a : Nat} {p : Option (Fin P × Fin P)} (ha : Tm A G a p) : Tm A G (a + N) p := Tm.add D I S hG a p ha N none p hN (sum_none p)
theorem Tm.times (D : Dom P) (I : Invs P) {A B : Fin P} (S : Smooth A B) {G : Option (Fin P × Fin P)} (hG : OnR A B G) {N : Nat} (hN : Tm A G N none) : ∀ k, Tm A G (k * N) none
  | 0 => by rw [Nat.zero_mul]; rfl
  | k + 1 => by rw [Nat.succ_mul]; exact Tm.round D I S hG hN (Tm.times D I S hG hN k)
/-- The opposite. -/
def negR : Option (Fin P × Fin P) → Option (Fin P × Fin P)
  | none => none
  | some (x, y) => some (x, -y)
theorem neg_on {A B : Fin P} : ∀ {p : Option (Fin P × Fin P)}, OnR A B p → OnR A B (negR p)
  | none, _ => trivial
  | some (x, y), h => by
    show -y * -y = _
    have h : y * y = _ := h
    rw [← h]
    grind
theorem neg_sum {A : Fin P} : ∀ {p q r : Option (Fin P × Fin P)}, SumR A p q r → SumR A (negR p) (negR q) (negR r)
  | none, q, r, h => by rw [show r = q from h]; rfl
  | some (x, y), none, r, h => by rw [show r = some (x, y) from h]; rfl
  | some (x1, y1), some (x2, y2), r, h => by
    rcases h with ⟨h1, h2, rfl⟩ | ⟨h1, l, x3, y3, hl, e3, e4, rfl⟩
    · exact .inl ⟨h1, by grind, rfl⟩
    · refine .inr ⟨fun ⟨e1, e2⟩ => h1 ⟨e1, by clear hl e3 e4; grind⟩, -l, x3, -y3, ⟨?_, ?_⟩, ?_, ?_, rfl⟩
      · have := hl.1
        clear e3 e4 h1 hl
        grind
      · have := hl.2
        clear e3 e4 h1 hl
        rw [← this]
        grind
      · rw [e3]; grind
      · rw [e4]; clear e4 hl h1; grind
theorem neg_self {A : Fin P} : ∀ p : Option (Fin P × Fin P), SumR A p (negR p) none
  | none => rfl
  | some (x, y) => .inl ⟨rfl, by grind, rfl⟩
/-- Bezout. -/
theorem bez (a b : Nat) : ∃ x y : Int, (Nat.gcd a b : Int) = a * x + b * y := by
  induction a, b using Nat.gcd.induction with
  | H0 n => exact ⟨0, 1, by simp⟩
  | H1 m n hm ih =>
    obtain ⟨x, y, h⟩ := ih
    refine ⟨y - (n / m : Nat) * x, x, ?_⟩
    rw [Nat.gcd_rec, h]
    have h1 : ((n % m : Nat) : Int) = n - m * (n / m : Nat) := by
      have := Nat.div_add_mod n m
      have h2 : ((m * (n / m) + n % m : Nat) : Int) = n := by rw [this]
      rw [Int.natCast_add, Int.natCast_mul] at h2
      omega
    rw [h1]
    grind
theorem prime_gcd {P a : Nat} (hp : PrimeN P) (h0 : 0 < a) (ha : a < P) : Nat.gcd P a = 1 := by
  obtain ⟨k, hk⟩ := Nat.gcd_dvd_left P a
  have hg : Nat.gcd P a ≤ a := Nat.le_of_dvd h0 (Nat.gcd_dvd_right P a)
  have hd : P ∣ Nat.gcd P a * k := ⟨1, by omega⟩
  rcases hp _ _ hd with h | h
  · have h3 : 0 < Nat.gcd P a := Nat.gcd_pos_of_pos_right _ h0
    have := Nat.le_of_dvd h3 h
    omega
  · have hk0 : 0 < k := by
      rcases Nat.eq_zero_or_pos k with e | e
      · rw [e, Nat.mul_zero] at hk; omega
      · exact e
    have h4 := Nat.le_of_dvd hk0 h
    have h5 : 0 < Nat.gcd P a := Nat.gcd_pos_of_pos_right _ h0
    generalize Nat.gcd P a = g at *
    rcases g with _ | _ | g
    · omega
    · rfl
    · have h6 : (g + 1 + 1) * k = g * k + k + k := by rw [Nat.add_mul, Nat.add_mul]; omega
      have h7 : 0 ≤ g * k := Nat.zero_le _
      omega
theorem fp_one (P : Nat) [NeZero P] : fp P 1 = 1 := by
  apply Fin.ext
  have h1 := fp_val P 1
  have h2 : ((1 : Fin P).val : Int) = ((1 % P : Nat) : Int) := rfl
  rw [Int.natCast_emod] at h2
  have : ((fp P 1).val : Int) = ((1 : Fin P).val : Int) := by rw [h1, h2]; rfl
  omega
theorem invs_fin {P : Nat} [NeZero P] (hp : PrimeN P) : Invs P := by
  intro a ha
  have h0 : 0 < a.val := by
    rcases Nat.eq_zero_or_pos a.val with e | e
    · exact absurd (Fin.ext (by simpa using e)) ha
    · exact e
  have hg := prime_gcd hp h0 a.isLt
  obtain ⟨x, y, h⟩ := bez P a.val
  rw [hg] at h
  refine ⟨fp P y, ?_⟩
  have h1 : fp P y * a = fp P (y * a.val) := by rw [fp_mul, fp_self]
  rw [h1, ← fp_one P, fp_eq]
  have h2 : y * (a.val : Int) = 1 + P * (-x) := by grind
  rw [h2, Int.add_mul_emod_self_left]
end Go.Proofs.Ytdojbknkaoiioaa
