/-
  Points of a curve in a ring without divisors of nothing: sums, in any order. No program in sight.
-/
import Derived.WalkKit
namespace Go.Proofs.Ytdojbknkaoiioaa
set_option linter.unusedVariables false
set_option linter.unusedSimpArgs false

/-- A ring in which a product is 0 only if one of the two is, and 2 isn't. -/
structure Dom (P : Nat) [NeZero P] : Prop where
  dom : ∀ a b : Fin P, a * b = 0 → a = 0 ∨ b = 0
  two : ∀ a : Fin P, a + a = 0 → a = 0
variable {P : Nat} [NeZero P]
theorem Dom.cancel (D : Dom P) {a b c : Fin P} (h : a * b = a * c) (ha : ¬ a = 0) : b = c := by
  have h1 : a * (b - c) = 0 := by grind
  rcases D.dom _ _ h1 with h2 | h2
  · exact absurd h2 ha
  · grind
/-- A point is on the curve. -/
def OnR (A B : Fin P) : Option (Fin P × Fin P) → Prop
  | none => True
  | some (x, y) => y * y = x * x * x + A * x + B
/-- The line through two points. -/
def LineR (A x1 y1 x2 y2 l : Fin P) : Prop := y2 - y1 = l * (x2 - x1) ∧ l * (y1 + y2) = x1 * x1 + x1 * x2 + x2 * x2 + A
/-- The sum of two points. -/
def SumR (A : Fin P) : Option (Fin P × Fin P) → Option (Fin P × Fin P) → Option (Fin P × Fin P) → Prop
  | none, q, r => r = q
  | some p, none, r => r = some p
  | some (x1, y1), some (x2, y2), r => (x1 = x2 ∧ y1 + y2 = 0 ∧ r = none) ∨ (¬ (x1 = x2 ∧ y1 + y2 = 0) ∧ ∃ l x3 y3, LineR A x1 y1 x2 y2 l ∧ x3 = l * l - x1 - x2 ∧ y3 = l * (x1 - x3) - y1 ∧ r = some (x3, y3))
/-- No point of the curve is singular. -/
def Smooth (A B : Fin P) : Prop := ∀ x : Fin P, x * x * x + A * x + B = 0 → x * x + x * x + x * x + A = 0 → False
theorem zero_of {a b : Fin P} (h : a - b = 0) : a = b := by grind
theorem sub_of {a b : Fin P} (h : a = b) : a - b = 0 := by rw [h]; grind
theorem eq_add {a b c : Fin P} (h : a - b = c) : a = b + c := by grind
theorem eq_sub {a b c : Fin P} (h : a = b + c) : c = a - b := by grind
theorem id_on (x1 y1 x2 l : Fin P) : (l * (x1 - (l * l - x1 - x2)) - y1) * (l * (x1 - (l * l - x1 - x2)) - y1) = (l * l - x1 - x2) * (l * l - x1 - x2) * (l * l - x1 - x2) + (l * (y1 + (y1 + l * (x2 - x1))) - (x1 * x1 + x1 * x2 + x2 * x2)) * (l * l - x1 - x2) + (y1 * y1 - x1 * x1 * x1 - (l * (y1 + (y1 + l * (x2 - x1))) - (x1 * x1 + x1 * x2 + x2 * x2)) * x1) := by grind
theorem line_on {A B x1 y1 x2 y2 l x3 y3 : Fin P} (h1 : y1 * y1 = x1 * x1 * x1 + A * x1 + B) (hl : LineR A x1 y1 x2 y2 l) (e3 : x3 = l * l - x1 - x2) (e4 : y3 = l * (x1 - x3) - y1) : y3 * y3 = x3 * x3 * x3 + A * x3 + B := by
  obtain ⟨a, b⟩ := hl
  obtain rfl := eq_add a
  obtain rfl := eq_sub b
  have hB : B = y1 * y1 - x1 * x1 * x1 - (l * (y1 + (y1 + l * (x2 - x1))) - (x1 * x1 + x1 * x2 + x2 * x2)) * x1 := by
    clear e3 e4 a b
    generalize (l * (y1 + (y1 + l * (x2 - x1))) - (x1 * x1 + x1 * x2 + x2 * x2)) = A at *
    grind
  subst hB
  subst e3 e4
  exact id_on x1 y1 x2 l
/-- What two lines through one point tell of its Y. -/
theorem mid_id (x1 x2 x3 y2 l m : Fin P) : (y2 + y2) * (l - m) - ((x1 - x2) * (x1 + x2 + x3 - l * l) + (x2 - x3) * (x1 + x2 + x3 - m * m)) = (l * ((y2 + l * (x1 - x2)) + y2) - (x1 * x1 + x1 * x2 + x2 * x2)) - (m * (y2 + (y2 + m * (x3 - x2))) - (x2 * x2 + x2 * x3 + x3 * x3)) := by grind
theorem mid_eq {A x1 y1 x2 y2 x3 y3 l m : Fin P} (h : LineR A x1 y1 x2 y2 l) (k : LineR A x2 y2 x3 y3 m) : (y2 + y2) * (l - m) = (x1 - x2) * (x1 + x2 + x3 - l * l) + (x2 - x3) * (x1 + x2 + x3 - m * m) := by
  obtain ⟨a, b⟩ := h
  obtain ⟨c, d⟩ := k
  have e1 : y1 = y2 + l * (x1 - x2) := by clear b c d; grind
  have e3 := eq_add c
  have e := mid_id x1 x2 x3 y2 l m
  rw [← e1, ← e3, b, d] at e
  clear a b c d e1 e3
  grind
/-- The slope from the sum of the first two on to the third. -/
theorem far_id (x1 x2 x3 y2 l m : Fin P) : (l - m) * ((y2 + m * (x3 - x2)) - (l * (x2 - (l * l - x1 - x2)) - y2)) - (x3 - (l * l - x1 - x2)) * (x1 - x3 - (l - m) * l) = (y2 + y2) * (l - m) - ((x1 - x2) * (x1 + x2 + x3 - l * l) + (x2 - x3) * (x1 + x2 + x3 - m * m)) := by grind
theorem line_comm {A x1 y1 x2 y2 l : Fin P} (h : LineR A x1 y1 x2 y2 l) : LineR A x2 y2 x1 y1 l := by
  obtain ⟨a, b⟩ := h
  constructor <;> grind
theorem line_uniq (D : Dom P) {A x1 y1 x2 y2 l m : Fin P} (h : LineR A x1 y1 x2 y2 l) (k : LineR A x1 y1 x2 y2 m) (hn : ¬ (x1 = x2 ∧ y1 + y2 = 0)) : l = m := by
  obtain ⟨a, b⟩ := h
  obtain ⟨c, d⟩ := k
  by_cases hx : x1 = x2
  · have hy : ¬ y1 + y2 = 0 := fun e => hn ⟨hx, e⟩
    exact D.cancel (a := y1 + y2) (by grind) hy
  · exact D.cancel (a := x2 - x1) (by grind) (fun e => hx (by grind))
theorem far_eq {A x1 y1 x2 y2 x3 y3 l m x12 y12 g : Fin P} (h : LineR A x1 y1 x2 y2 l) (k : LineR A x2 y2 x3 y3 m) (e12 : x12 = l * l - x1 - x2) (f12 : y12 = l * (x1 - x12) - y1) (hg : y3 - y12 = g * (x3 - x12)) : (x3 - x12) * (g * (l - m)) = (x3 - x12) * (x1 - x3 - (l - m) * l) := by
  have e := far_id x1 x2 x3 y2 l m
  have e0 := mid_eq h k
  have e1 : y1 = y2 + l * (x1 - x2) := by have a := h.1; clear h k e12 f12 hg e e0; grind
  have e3 : y3 = y2 + m * (x3 - x2) := eq_add k.1
  have f : y12 = l * (x2 - x12) - y2 := by clear h k e12 hg e e0 e3; grind
  rw [← e12, ← f, ← e3, e0, hg] at e
  clear h k e12 f12 hg e0 e1 e3 f
  grind
theorem fin_x {x1 x2 x3 l m t : Fin P} (ht : t * (l - m) = x1 - x3) : (t - l) * (t - l) - (l * l - x1 - x2) - x3 = (t - m) * (t - m) - x1 - (m * m - x2 - x3) := by grind
theorem fin_y {x1 x2 x3 y2 l m t : Fin P} (ht : t * (l - m) = x1 - x3) : (t - l) * (x3 - ((t - l) * (t - l) - (l * l - x1 - x2) - x3)) - (y2 + m * (x3 - x2)) = (t - m) * (x1 - ((t - m) * (t - m) - x1 - (m * m - x2 - x3))) - (y2 + l * (x1 - x2)) := by grind
theorem sum_comm {A : Fin P} : ∀ {p q r : Option (Fin P × Fin P)}, SumR A p q r → SumR A q p r
  | none, none, r, h => h
  | none, some q, r, h => h
  | some p, none, r, h => h
  | some (x1, y1), some (x2, y2), r, h => by
    rcases h with ⟨h1, h2, h3⟩ | ⟨h0, l, x3, y3, hl, e3, e4, e5⟩
    · exact .inl ⟨h1.symm, by rw [← h2]; grind, h3⟩
    · refine .inr ⟨fun e => h0 ⟨e.1.symm, by rw [← e.2]; grind⟩, l, x3, y3, line_comm hl, by rw [e3]; grind, ?_, e5⟩
      have a := hl.1
      rw [e4]
      clear hl e3 e4 e5 h0
      grind
theorem sum_uniq (D : Dom P) {A : Fin P} : ∀ {p q r r' : Option (Fin P × Fin P)}, SumR A p q r → SumR A p q r' → r = r'
  | none, q, r, r', h, k => h.trans k.symm
  | some p, none, r, r', h, k => h.trans k.symm
  | some (x1, y1), some (x2, y2), r, r', h, k => by
    rcases h with ⟨h1, h2, h3⟩ | ⟨h0, l, x3, y3, hl, e3, e4, e5⟩
    · rcases k with ⟨k1, k2, k3⟩ | ⟨k0, _⟩
      · rw [h3, k3]
      · exact absurd ⟨h1, h2⟩ k0
    · rcases k with ⟨k1, k2, k3⟩ | ⟨k0, m, x4, y4, hm, f3, f4, f5⟩
      · exact absurd ⟨k1, k2⟩ h0
      · obtain rfl := line_uniq D hl hm h0
        rw [e5, f5, e4, f4, e3, f3]
theorem sum_on {A B : Fin P} : ∀ {p q r : Option (Fin P × Fin P)}, OnR A B p → OnR A B q → SumR A p q r → OnR A B r
  | none, q, r, hp, hq, h => by rw [show r = q from h]; exact hq
  | some p, none, r, hp, hq, h => by rw [show r = some p from h]; exact hp
  | some (x1, y1), some (x2, y2), r, hp, hq, h => by
    rcases h with ⟨h1, h2, h3⟩ | ⟨h0, l, x3, y3, hl, e3, e4, e5⟩
    · rw [h3]; trivial
    · rw [e5]; exact line_on hp hl e3 e4
/-- The slope on to the third point, wherever it is. -/
theorem claimG (D : Dom P) {A B x1 y1 x2 y2 x3 y3 l m x12 y12 : Fin P} {r : Option (Fin P × Fin P)} (o1 : y1 * y1 = x1 * x1 * x1 + A * x1 + B) (o3 : y3 * y3 = x3 * x3 * x3 + A * x3 + B) (h : LineR A x1 y1 x2 y2 l) (k : LineR A x2 y2 x3 y3 m) (hlm : ¬ l - m = 0) (n23 : ¬ (x2 = x3 ∧ y2 + y3 = 0)) (e12 : x12 = l * l - x1 - x2) (f12 : y12 = l * (x1 - x12) - y1) (hs : SumR A (some (x12, y12)) (some (x3, y3)) r) :
    ∃ g X Y, LineR A x12 y12 x3 y3 g ∧ X = g * g - x12 - x3 ∧ Y = g * (x12 - X) - y12 ∧ r = some (X, Y) ∧ g * (l - m) = x1 - x3 - (l - m) * l := by
  have e0 := mid_eq h k
  have e1 : y1 = y2 + l * (x1 - x2) := by have a := h.1; clear h k e12 f12 hs e0 o1 o3; grind
  have e3 : y3 = y2 + m * (x3 - x2) := eq_add k.1
  have f : y12 = l * (x2 - x12) - y2 := by clear h k e12 hs e0 e3 o1 o3; grind
  by_cases hu : x3 - x12 = 0
  · have hx : x12 = x3 := by clear h k e12 f12 hs e0 e1 e3 f o1 o3; grind
    -- not each other's opposites
    have hn : ¬ (x12 = x3 ∧ y12 + y3 = 0) := fun ⟨_, hy⟩ => by
      have h1 : (l - m) * (x3 - x2) = 0 := by
        rw [hx] at f
        clear h k e12 f12 hs e0 e1 o1 o3 hu hx
        grind
      rcases D.dom _ _ h1 with h2 | h2
      · exact hlm h2
      have h3 : x2 = x3 := by clear h k e12 f12 hs e0 e1 e3 f o1 o3 hu hx hy h1; grind
      have h4 : y2 = y3 := by clear h k e12 f12 hs e0 e1 f o1 o3 hu hx hy h1 h2; grind
      have h5 : (y2 + y2) * (l - m) = 0 := by
        have h6 : x1 + x2 + x3 - l * l = 0 := by clear h k f12 hs e0 e1 e3 f o1 o3 hy h1 h2 h3 h4; grind
        rw [e0, h6, h3]
        clear h k f12 hs e0 e1 e3 f o1 o3 hy h1 h2 h3 h4 h6
        grind
      rcases D.dom _ _ h5 with h6 | h6
      · exact n23 ⟨h3, by rw [← h4]; exact h6⟩
      · exact hlm h6
    rcases hs with ⟨a, b, _⟩ | ⟨_, g, X, Y, hl, eX, eY, eR⟩
    · exact absurd ⟨a, b⟩ hn
    · refine ⟨g, X, Y, hl, eX, eY, eR, ?_⟩
      have o12 := line_on o1 h e12 f12
      have hp : (y12 - y3) * (y12 + y3) = 0 := by
        rw [hx] at o12
        clear h k e12 f12 e0 e1 e3 f hl eX eY eR o1 hu hx
        grind
      have hy : y12 = y3 := by
        rcases D.dom _ _ hp with h1 | h1
        · exact zero_of h1
        · exact absurd ⟨hx, h1⟩ hn
      have hg := hl.2
      rw [hx, hy] at hg
      have hA : A = m * (y2 + y3) - (x2 * x2 + x2 * x3 + x3 * x3) := by have a := k.2; clear h k e12 f12 e0 e1 e3 f hl eX eY eR o1 o3 hu hx o12 hp hy hg; grind
      -- 2 y3 = (l - m) (x2 - x3)
      have h2y : y3 + y3 = (l - m) * (x2 - x3) := by
        rw [hx, hy] at f
        clear h k e12 f12 e0 e1 hl eX eY eR o1 o3 hu hx o12 hp hy hg hA
        grind
      have hll : l * l = x1 + x2 + x3 := by rw [hx] at e12; clear h k f12 e0 e1 e3 f hl eX eY eR o1 o3 hu hx o12 hp hy hg hA h2y; grind
      have hq : ¬ x2 - x3 = 0 := fun e => by
        rw [e] at h2y
        have h3 : y3 + y3 = 0 := by rw [h2y]; clear h k e12 f12 e0 e1 e3 f hl eX eY eR o1 o3 hu hx o12 hp hy hg hA h2y hll e; grind
        exact hn ⟨hx, by rw [hy]; exact h3⟩
      refine D.cancel (a := x2 - x3) ?_ hq
      have h4 : (x2 - x3) * (g * (l - m)) = g * (y3 + y3) := by rw [h2y]; clear h k e12 f12 e0 e1 e3 f hl eX eY eR o1 o3 hu hx o12 hp hy hg hA h2y hll hq; grind
      rw [h4, hg, hA]
      have h5 : y2 + y3 = l * (x2 - x3) := by rw [hx, hy] at f; clear h k e12 f12 e0 e1 e3 hl eX eY eR o1 o3 hu hx o12 hp hy hg hA h2y hll hq h4; grind
      rw [h5]
      clear h k e12 f12 e0 e1 e3 f hl eX eY eR o1 o3 hu hx o12 hp hy hg hA h2y hq h4 h5
      grind
  · rcases hs with ⟨a, b, _⟩ | ⟨_, g, X, Y, hl, eX, eY, eR⟩
    · exact absurd (by rw [a]; clear h k e12 f12 e0 e1 e3 f o1 o3; grind) hu
    · exact ⟨g, X, Y, hl, eX, eY, eR, D.cancel (far_eq h k e12 f12 hl.1) hu⟩
/-- A point, and the opposite of another one behind their sum. -/
theorem opp_line {A x2 y2 x3 y3 m x23 y23 : Fin P} (k : LineR A x2 y2 x3 y3 m) (e : x23 = m * m - x2 - x3) (f : y23 = m * (x2 - x23) - y2) : LineR A x2 (-y2) x23 y23 (-m) := by
  obtain ⟨c, d⟩ := k
  have e3 := eq_add c
  subst e3
  have hA := eq_sub d
  subst hA
  subst f
  subst e
  constructor
  · clear c d; grind
  · clear c d; grind
theorem sum_back (D : Dom P) {A B : Fin P} (S : Smooth A B) {x2 y2 : Fin P} (o2 : y2 * y2 = x2 * x2 * x2 + A * x2 + B) : ∀ {p3 p23 r : Option (Fin P × Fin P)}, SumR A (some (x2, y2)) p3 p23 → SumR A (some (x2, -y2)) p23 r → r = p3
  | none, p23, r, h, k => by
    rw [show p23 = some (x2, y2) from h] at k
    rcases k with ⟨_, _, k3⟩ | ⟨k0, _⟩
    · exact k3
    · exact absurd ⟨rfl, by clear o2; grind⟩ k0
  | some (x3, y3), p23, r, h, k => by
    rcases h with ⟨h1, h2, h3⟩ | ⟨h0, m, x23, y23, hl, e3, e4, e5⟩
    · rw [h3] at k
      rw [show r = some (x2, -y2) from k, h1, show -y2 = y3 by clear o2; grind]
    · rw [e5] at k
      have hop := opp_line hl e3 e4
      rcases k with ⟨k1, k2, _⟩ | ⟨k0, g, X, Y, hg, eX, eY, eR⟩
      · exfalso
        have hy : y2 = 0 := D.two _ (by rw [← k1] at e4; clear o2 hl hop e3 e5 h0; grind)
        have hm : m * m = x2 + x2 + x3 := by rw [← k1] at e3; clear o2 hl hop e4 e5 h0 k2 hy; grind
        have h3 : y3 = m * (x3 - x2) := by have c := hl.1; rw [hy] at c; clear o2 hl hop e3 e4 e5 h0 k2 hm; grind
        have h4 : m * (m * (x3 - x2)) = x2 * x2 + x2 * x3 + x3 * x3 + A := by have d := hl.2; rw [hy, h3] at d; clear o2 hl hop e3 e4 e5 h0 k2 hm h3; grind
        have h5 : (x2 + x2 + x3) * (x3 - x2) = x2 * x2 + x2 * x3 + x3 * x3 + A := by rw [← hm, ← h4]; clear o2 hl hop e3 e4 e5 h0 k2 hm h3 h4; grind
        refine S x2 ?_ ?_
        · rw [← o2, hy]; clear o2 hl hop e3 e4 e5 h0 k2 hm h3 h4 h5; grind
        · clear o2 hl hop e3 e4 e5 h0 k2 hm h3 h4; grind
      · obtain rfl := line_uniq D hg hop k0
        rw [eR]
        have hX : X = x3 := by rw [eX, e3]; clear o2 hl hop e3 e4 e5 h0 k0 hg eX eY eR; grind
        have hY : Y = y3 := by rw [eY, hX]; have c := hl.1; clear o2 hl hop e3 e4 e5 h0 k0 hg eX eY eR hX; grind
        rw [hX, hY]
/-- Sums in any order. -/
theorem sum_assoc (D : Dom P) {A B : Fin P} (S : Smooth A B) {p1 p2 p3 p12 p23 r r' : Option (Fin P × Fin P)} (o1 : OnR A B p1) (o2 : OnR A B p2) (o3 : OnR A B p3) (h12 : SumR A p1 p2 p12) (h123 : SumR A p12 p3 r) (h23 : SumR A p2 p3 p23) (h123' : SumR A p1 p23 r') : r = r' := by
  match p1, p2, p3, o1, o2, o3, h12, h23 with
  | none, p2, p3, o1, o2, o3, h12, h23 =>
    rw [show p12 = p2 from h12] at h123
    rw [show r' = p23 from h123']
    exact sum_uniq D h123 h23
  | some p1, none, p3, o1, o2, o3, h12, h23 =>
    rw [show p12 = some p1 from h12] at h123
    rw [show p23 = p3 from h23] at h123'
    exact sum_uniq D h123 h123'
  | some p1, some p2, none, o1, o2, o3, h12, h23 =>
    rw [show p23 = some p2 from h23] at h123'
    have h4 := sum_comm h123
    rw [show r = p12 from h4]
    exact sum_uniq D h12 h123'
  | some (x1, y1), some (x2, y2), some (x3, y3), o1, o2, o3, h12, h23 =>
    have h12c := h12
    have h23c := h23
    rcases h12 with ⟨a1, a2, a3⟩ | ⟨n12, l, x12, y12, hl, e12, f12, rfl⟩
    · subst a3
      rw [show r = some (x3, y3) from h123]
      obtain rfl := a1
      obtain rfl : y1 = -y2 := by clear o1 o2 o3 h23 h23c h123 h123' h12c; grind
      exact (sum_back D S o2 h23c h123').symm
    rcases h23 with ⟨a1, a2, a3⟩ | ⟨n23, m, x23, y23, hm, e23, f23, rfl⟩
    · subst a3
      rw [show r' = some (x1, y1) from h123']
      obtain rfl := a1
      obtain rfl : y3 = -y2 := by clear o1 o2 o3 h12c h123 h123' h23c hl e12 f12; grind
      exact sum_back D S o2 (sum_comm h12c) (sum_comm h123)
    by_cases hlm : l - m = 0
    · have elm : l = m := zero_of hlm
      subst elm
      have e0 := mid_eq hl hm
      have e1 : y1 = y2 + l * (x1 - x2) := by have a := hl.1; clear o1 o2 o3 hl hm e12 f12 e23 f23 e0 h123 h123' h12c h23c; grind
      have e3 : y3 = y2 + l * (x3 - x2) := eq_add hm.1
      have hz : (x1 - x3) * (x1 + x2 + x3 - l * l) = 0 := by clear o1 o2 o3 hl hm e12 f12 e23 f23 e1 e3 h123 h123' h12c h23c; grind
      rcases D.dom _ _ hz with hx | hu
      · obtain rfl : x1 = x3 := zero_of hx
        obtain rfl : y1 = y3 := by rw [e1, e3]
        have h5 := sum_uniq D (sum_comm h23c) h12c
        rw [h5] at h123'
        exact sum_uniq D h123 (sum_comm h123')
      · have hx3 : x12 = x3 := by rw [e12]; clear o1 o2 o3 hl hm e12 f12 e23 f23 e0 e1 e3 h123 h123' hz hlm h12c h23c; grind
        have hx1 : x1 = x23 := by rw [e23]; clear o1 o2 o3 hl hm e12 f12 e23 f23 e0 e1 e3 h123 h123' hz hlm hx3 h12c h23c; grind
        have hy3 : y12 + y3 = 0 := by rw [f12, hx3, e1, e3]; clear o1 o2 o3 hl hm e12 f12 e23 f23 e0 e1 e3 h123 h123' hz hlm hx1 hu h12c h23c hx3; grind
        have hy1 : y1 + y23 = 0 := by rw [f23, ← hx1, e1]; clear o1 o2 o3 hl hm e12 f12 e23 f23 e0 e1 e3 h123 h123' hz hlm hx1 hu hx3 hy3 h12c h23c; grind
        rcases h123 with ⟨_, _, b3⟩ | ⟨b0, _⟩
        · rcases h123' with ⟨_, _, c3⟩ | ⟨c0, _⟩
          · rw [b3, c3]
          · exact absurd ⟨hx1, hy1⟩ c0
        · exact absurd ⟨hx3, hy3⟩ b0
    · obtain ⟨g, X, Y, hg, eX, eY, eR, hgt⟩ := claimG D o1 o3 hl hm hlm n23 e12 f12 h123
      have f23' : y23 = m * (x3 - x23) - y3 := by rw [f23]; have c := hm.1; clear o1 o2 o3 hl hm e12 f12 e23 f23 h123 h123' hg eX eY eR hgt h12c h23c; grind
      obtain ⟨d, X', Y', hd, eX', eY', eR', hdt⟩ := claimG D (x1 := x3) (y1 := y3) (x3 := x1) (y3 := y1) (l := m) (m := l) o3 o1 (line_comm hm) (line_comm hl) (fun e => hlm (by clear o1 o2 o3 hl hm e12 f12 e23 f23 h123 h123' hg eX eY eR hgt f23' h12c h23c; grind)) (fun e => n12 ⟨e.1.symm, by rw [← e.2]; clear o1 o2 o3 hl hm e12 f12 e23 f23 h123 h123' hg eX eY eR hgt f23' h12c h23c; grind⟩) (by rw [e23]; clear o1 o2 o3 hl hm e12 f12 e23 f23 h123 h123' hg eX eY eR hgt f23' h12c h23c; grind) f23' (sum_comm h123')
      have ht : (g + l) * (l - m) = x1 - x3 := by clear o1 o2 o3 hl hm e12 f12 e23 f23 h123 h123' hg eX eY eR f23' hd eX' eY' eR' hdt h12c h23c; grind
      have hdg : d + m = g + l := by
        refine D.cancel (a := l - m) ?_ hlm
        clear o1 o2 o3 hl hm e12 f12 e23 f23 h123 h123' hg eX eY eR f23' hd eX' eY' eR' h12c h23c hgt
        grind
      obtain ⟨t, htt⟩ : ∃ t, g + l = t := ⟨_, rfl⟩
      rw [htt] at ht hdg
      have hg' : g = t - l := by clear o1 o2 o3 hl hm e12 f12 e23 f23 h123 h123' hg eX eY eR f23' hd eX' eY' eR' h12c h23c hgt hdt ht hdg; grind
      have hd' : d = t - m := by clear o1 o2 o3 hl hm e12 f12 e23 f23 h123 h123' hg eX eY eR f23' hd eX' eY' eR' h12c h23c hgt hdt ht htt hg'; grind
      have e1 : y1 = y2 + l * (x1 - x2) := by have a := hl.1; clear o1 o2 o3 hl hm e12 f12 e23 f23 h123 h123' h12c h23c hg eX eY eR f23' hd eX' eY' eR' hgt hdt ht htt hg' hdg hd'; grind
      have e3 : y3 = y2 + m * (x3 - x2) := eq_add hm.1
      have hX : X = X' := by
        have := fin_x (x2 := x2) ht
        rw [eX, eX', hg', hd', e12, e23, this]
        clear o1 o2 o3 hl hm e12 f12 e23 f23 h123 h123' h12c h23c hg eX eY eR f23' hd eX' eY' eR' hgt hdt ht htt hg' hdg hd' e1 e3 this
        grind
      have hY : Y = Y' := by
        have h1 : Y = g * (x3 - X) - y3 := by rw [eY]; have c := hg.1; clear o1 o2 o3 hl hm e12 f12 e23 f23 h123 h123' h12c h23c hg eX eY eR f23' hd eX' eY' eR' hgt hdt ht htt hg' hdg hd' e1 e3 hX; grind
        have h2 : Y' = d * (x1 - X') - y1 := by rw [eY']; have c := hd.1; clear o1 o2 o3 hl hm e12 f12 e23 f23 h123 h123' h12c h23c hg eX eY eR f23' hd eX' eY' eR' hgt hdt ht htt hg' hdg hd' e1 e3 hX h1; grind
        have h3 := fin_y (x2 := x2) (y2 := y2) ht
        have h4 : X' = (t - m) * (t - m) - x1 - (m * m - x2 - x3) := by rw [eX', hd', e23]; clear o1 o2 o3 hl hm e12 f12 e23 f23 h123 h123' h12c h23c hg eX eY eR f23' hd eX' eY' eR' hgt hdt ht htt hg' hdg hd' e1 e3 hX h1 h2 h3; grind
        have h5 : X = (t - l) * (t - l) - (l * l - x1 - x2) - x3 := by rw [eX, hg', e12]
        rw [h1, h2, h4, h5, hg', hd', e1, e3]
        exact h3
      rw [eR, eR', hX, hY]
end Go.Proofs.Ytdojbknkaoiioaa
