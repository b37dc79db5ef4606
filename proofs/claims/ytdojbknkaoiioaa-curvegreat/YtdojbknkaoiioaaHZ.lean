/-
  Right curves: what Mul and Add answer of multiples; sums, products, differences of numbers as values.
-/
import Derived.Test.YtdojbknkaoiioaaHX
namespace Go.Proofs.Ytdojbknkaoiioaa
open Go.Shelf Go.RowKit
set_option linter.unusedVariables false
set_option linter.unusedSimpArgs false

theorem nadd_nv (a b : Value) (x y : Int) (L : Nat) (w : World) (ha : Nv w a x L) (hb : Nv w b y L) (hs : L ≤ 1000) : Calls Try.prog 24 #[a, b] w fun e w' => ∃ v, e = .returned v ∧ Na w w' v (x + y) (L + 1) := by
  obtain ⟨ao, la, ca, xs, rfl, h1, rfl, h2⟩ := ha
  obtain ⟨bo, lb, cb, ys, rfl, k1, rfl, k2⟩ := hb
  refine (Add_any ao bo la ca lb cb xs ys w h1 k1 (by omega)).mono ?_
  rintro e w' ⟨v, rfl, h⟩
  exact ⟨v, rfl, h.na.1.up (by omega), h.na.2⟩
theorem nmul_nv (a b : Value) (x y : Int) (L : Nat) (w : World) (ha : Nv w a x L) (hb : Nv w b y L) (hs : L ≤ 1000) : Calls Try.prog 25 #[a, b] w fun e w' => ∃ v, e = .returned v ∧ Na w w' v (x * y) (L + L) := by
  obtain ⟨ao, la, ca, xs, rfl, h1, rfl, h2⟩ := ha
  obtain ⟨bo, lb, cb, ys, rfl, k1, rfl, k2⟩ := hb
  refine (Mul_any ao bo la ca lb cb xs ys w h1 k1 (by omega)).mono ?_
  rintro e w' ⟨v, rfl, h⟩
  exact ⟨v, rfl, h.na.1.up (by omega), h.na.2⟩
theorem nsub_nv (a b : Value) (x y : Int) (L : Nat) (w : World) (ha : Nv w a x L) (hb : Nv w b y L) (hle : y ≤ x) : Calls Try.prog 26 #[a, b] w fun e w' => ∃ v, e = .returned (.tuple #[v, .bool true]) ∧ Na w w' v (x - y) L := by
  obtain ⟨ao, la, ca, xs, rfl, h1, rfl, h2⟩ := ha
  obtain ⟨bo, lb, cb, ys, rfl, k1, rfl, k2⟩ := hb
  refine (Sub_yes ao bo la ca lb cb xs ys w h1 k1 hle).mono ?_
  rintro e w' ⟨v, rfl, h⟩
  exact ⟨v, rfl, h.na.1.up (by omega), h.na.2⟩
theorem Cu.up {w : World} {c : Value} {K : Cz} {L L' : Nat} (h : Cu w c K L) (hl : L ≤ L') : Cu w c K L' := by
  obtain ⟨g1, g2, oo, lo, co, vp, va, vb, vx, vy, vn, e, h1, h2, h3, h4, h5, h6⟩ := h
  exact ⟨g1, g2, oo, lo, co, vp, va, vb, vx, vy, vn, e, h1.up hl, h2.up hl, h3.up hl, h4.up hl, h5.up hl, h6.up hl⟩
theorem Cu.nums {w : World} {v0 v1 v2 v3 v4 v5 v6 v7 v8 : Value} {K : Cz} {L : Nat} (h : Cu w (.agg #[v0, v1, v2, v3, v4, v5, v6, v7, v8]) K L) : Nv w v3 K.p L ∧ Nv w v8 K.n L := by
  obtain ⟨g1, g2, oo, lo, co, vp, va, vb, vx, vy, vn, e, h1, h2, h3, h4, h5, h6⟩ := h
  injection e with e
  have el := congrArg Array.toList e
  simp only [List.cons.injEq, and_true] at el
  obtain ⟨_, _, _, rfl, _, _, _, _, rfl⟩ := el
  exact ⟨h1, h6⟩
theorem curRight (j : Nat) (hj : j < 3) : ∃ P N, ∃ _ : NeZero P, RightK (curZ j) P N := by
  match j, hj with
  | 0, _ => exact ⟨251, 271, inferInstance, right0⟩
  | 1, _ => exact ⟨10007, 9851, inferInstance, right1⟩
  | 2, _ => exact ⟨65521, 65761, inferInstance, right2⟩
theorem GoodK.p0 {K : Cz} {P : Nat} [NeZero P] (g : GoodK K P) : K.p ≠ 0 := by rw [g.p]; have := ppos P; omega
theorem Mul_right {P N : Nat} [NeZero P] {K : Cz} (R : RightK K P N) (c k p : Value) (n : Int) (m L : Nat) (w : World) (hc : Cu w c K L) (hk : Nv w k n L) (hp : Pv w p (baseZ K) L) (hL : 1 ≤ L ∧ L ≤ 70) (hn : n = (m : Int)) :
    Calls Try.prog 17 #[c, k, p] w fun e w' => ∃ s, Mt K P (baseZ K) m s ∧ Below w.heap.size w w' ∧ ∃ v, e = .returned v ∧ Pr w' v (some s) L := by
  subst hn
  refine (Mul_pt c k p K m (baseZ K) L w hc hk hp hL R.good.p0).mono ?_
  rintro e w' ⟨r, hr, hpa⟩
  obtain ⟨s, rfl, hs⟩ := mul_good R.good R.base hr
  exact ⟨s, hs, hpa.pr⟩
theorem Add_right {P N : Nat} [NeZero P] {K : Cz} (R : RightK K P N) (c p q : Value) (p' q' : Pz) (a b L : Nat) (w : World) (hc : Cu w c K L) (hp : Pv w p p' L) (hq : Pv w q q' L) (hL : 1 ≤ L ∧ L ≤ 70) (ha : Mt K P (baseZ K) a p') (hb : Mt K P (baseZ K) b q') :
    Calls Try.prog 20 #[c, p, q] w fun e w' => ∃ s, Mt K P (baseZ K) (a + b) s ∧ Below w.heap.size w w' ∧ ∃ v, e = .returned v ∧ Pr w' v (some s) L := by
  refine (Add_pt c p q K p' q' L w hc hp hq (by omega)).mono ?_
  rintro e w' ⟨r, hr, hpa⟩
  obtain ⟨s, rfl, hs⟩ := Mt.add R.good R.base ha hb hr
  exact ⟨s, hs, hpa.pr⟩
/-- The opposite. -/
def negZ (K : Cz) (p : Pz) : Pz := if p.inf ∨ p.y = 0 then p else ⟨p.x, K.p - p.y, p.inf⟩
theorem neg_rd {P : Nat} [NeZero P] {K : Cz} (g : GoodK K P) {p : Pz} (h : RdP P p) : RdP P (negZ K p) := by
  unfold negZ
  by_cases hc : p.inf ∨ p.y = 0
  · rw [if_pos hc]; exact h
  · rw [if_neg hc]
    have hi : p.inf = false := by cases hp : p.inf with
      | true => exact absurd (Or.inl hp) hc
      | false => rfl
    have hy : p.y ≠ 0 := fun e => hc (.inr e)
    unfold RdP at h ⊢
    rw [hi, if_neg (by simp)] at h ⊢
    rw [g.p]
    refine ⟨h.1, h.2.1, ?_, ?_⟩ <;> simp only <;> omega
theorem neg_pt {P : Nat} [NeZero P] {K : Cz} (g : GoodK K P) {p : Pz} (h : RdP P p) : ptR P (negZ K p) = negR (ptR P p) := by
  unfold negZ
  by_cases hc : p.inf ∨ p.y = 0
  · rw [if_pos hc]
    unfold ptR
    cases hi : p.inf with
    | true => rw [if_pos rfl]; rfl
    | false =>
      have hy : p.y = 0 := by
        rcases hc with hc | hc
        · rw [hi] at hc; cases hc
        · exact hc
      rw [if_neg (by simp)]
      show some (fp P p.x, fp P p.y) = some (fp P p.x, - fp P p.y)
      rw [hy, fp_zero]
      congr 2
      grind
  · rw [if_neg hc]
    have hi : p.inf = false := by cases hp : p.inf with
      | true => exact absurd (Or.inl hp) hc
      | false => rfl
    unfold ptR
    simp only
    rw [hi, if_neg (by simp), if_neg (by simp)]
    show some (fp P p.x, fp P (K.p - p.y)) = some (fp P p.x, - fp P p.y)
    rw [g.p, fp_sub]
    have : fp P (P : Int) = 0 := by rw [← fp_zero P, fp_eq, Int.emod_self, Int.zero_emod]
    rw [this]
    congr 2
    try grind
theorem neg_gd {P : Nat} [NeZero P] {K : Cz} (g : GoodK K P) {p : Pz} (h : Gd K P p) : Gd K P (negZ K p) := ⟨neg_rd g h.1, by rw [neg_pt g h.1]; exact neg_on h.2⟩
/-- A point and its opposite are nothing. -/
theorem add_neg {P : Nat} [NeZero P] {K : Cz} (g : GoodK K P) {p : Pz} {r : Option Pz} (hp : Gd K P p) (h : AddZ K p (negZ K p) r) : r = some noZ := by
  obtain ⟨s, rfl, hs, hsum⟩ := add_good g h hp (neg_gd g hp)
  rw [neg_pt g hp.1] at hsum
  have := sum_uniq (dom_fin g.prime g.odd) hsum (neg_self _)
  rw [ptR_inj hs RdP.no (this.trans ptR_no.symm)]
/-- The sum of opposites. -/
theorem neg_add {P : Nat} [NeZero P] {K : Cz} (g : GoodK K P) {p q s : Pz} {r r' : Option Pz} (hp : Gd K P p) (hq : Gd K P q) (h : AddZ K p q r) (hr : r = some s) (h' : AddZ K (negZ K p) (negZ K q) r') : r' = some (negZ K s) := by
  obtain ⟨s1, e1, hs1, hsum1⟩ := add_good g h hp hq
  obtain ⟨s2, rfl, hs2, hsum2⟩ := add_good g h' (neg_gd g hp) (neg_gd g hq)
  rw [hr] at e1
  injection e1 with e1
  subst e1
  rw [neg_pt g hp.1, neg_pt g hq.1] at hsum2
  have := sum_uniq (dom_fin g.prime g.odd) hsum2 (neg_sum hsum1)
  rw [ptR_inj hs2 (neg_rd g hs1) (this.trans (neg_pt g hs1).symm)]
/-- A point and the one with the other Y. -/
theorem add_opp {K : Cz} (h0 : K.p ≠ 0) {p : Pz} (hi : p.inf = false) {r : Option Pz} (h : AddZ K p ⟨p.x, K.p - p.y, false⟩ r) : r = some noZ := by
  unfold AddZ at h
  rw [if_neg h0, hi, if_neg (by simp), if_neg (by simp)] at h
  unfold AddN at h
  have hr : runZ K p ⟨p.x, K.p - p.y, false⟩ = 0 := by
    unfold runZ
    simp only
    rw [Int.sub_self, Int.zero_emod, if_neg (by simp), show p.y + (K.p - p.y) = K.p by omega, Int.emod_self]
  rw [if_pos hr] at h
  exact h
end Go.Proofs.Ytdojbknkaoiioaa
