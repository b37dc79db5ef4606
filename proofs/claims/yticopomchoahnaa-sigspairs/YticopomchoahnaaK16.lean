import Derived.Test.YticopomchoahnaaK15
import Derived.Test.YticopomchoahnaaK10
import Derived.Test.YticopomchoahnaaK12
/-
  The three curves are right ones; a point that is on the curve.
-/
namespace Go.Proofs.Yticopomchoahnaa
set_option linter.unusedVariables false
set_option linter.unusedSimpArgs false

/-- A prime: no divisor up to the root. -/
theorem prime_root {P : Nat} (h : ∀ d, 2 ≤ d → d * d ≤ P → P % d ≠ 0) : PrimeN P := by
  refine prime_of fun a ha h0 => ?_
  obtain ⟨k, hk⟩ := Nat.gcd_dvd_left P a
  have hg : Nat.gcd P a ≤ a := Nat.le_of_dvd (by omega) (Nat.gcd_dvd_right P a)
  have hp : 0 < Nat.gcd P a := Nat.gcd_pos_of_pos_right _ (by omega)
  generalize Nat.gcd P a = g at *
  rcases Nat.lt_or_ge g 2 with h2 | h2
  · omega
  · exfalso
    have hk2 : 2 ≤ k := by
      rcases k with _ | _ | k
      · rw [Nat.mul_zero] at hk; omega
      · rw [Nat.mul_one] at hk; omega
      · omega
    rcases Nat.le_total g k with hgk | hgk
    · refine h g h2 ?_ ?_
      · rw [hk]; exact Nat.mul_le_mul (Nat.le_refl _) hgk
      · rw [hk]; exact Nat.mul_mod_right g k
    · refine h k hk2 ?_ ?_
      · rw [hk]; exact Nat.mul_le_mul hgk (Nat.le_refl _)
      · rw [hk]; exact Nat.mul_mod_left g k
theorem prime_below {P : Nat} (hP : P < 65536) (h : ∀ d, d < 256 → 2 ≤ d → P % d ≠ 0 ∨ P < d * d) : PrimeN P := by
  refine prime_root fun d h2 hd => ?_
  have hl : d < 256 := by
    rcases Nat.lt_or_ge d 256 with h3 | h3
    · exact h3
    · have := Nat.mul_le_mul h3 h3
      omega
  rcases h d hl h2 with h4 | h4
  · exact h4
  · omega
section
variable {P : Nat} [NeZero P] {K : Cz}
/-- A sum with its slope. -/
def addL (A : Fin P) (p q : Fin P × Fin P) (l : Fin P) : Option (Fin P × Fin P) := if q.2 - p.2 = l * (q.1 - p.1) ∧ l * (p.2 + q.2) = p.1 * p.1 + p.1 * q.1 + q.1 * q.1 + A ∧ ¬ (p.1 = q.1 ∧ p.2 + q.2 = 0) then some (l * l - p.1 - q.1, l * (p.1 - (l * l - p.1 - q.1)) - p.2) else none
theorem addL_sum {A : Fin P} {p q r : Fin P × Fin P} {l : Fin P} (h : addL A p q l = some r) : SumR A (some p) (some q) (some r) := by
  unfold addL at h
  split at h
  · rename_i hc
    injection h with h
    obtain ⟨px, py⟩ := p
    obtain ⟨qx, qy⟩ := q
    exact .inr ⟨hc.2.2, l, _, _, ⟨hc.1, hc.2.1⟩, rfl, rfl, by rw [← h]⟩
  · cases h
/-- Steps: twice, and one more. -/
def runL (A : Fin P) (G : Fin P × Fin P) : List (Bool × Fin P) → Nat → Fin P × Fin P → Option (Nat × (Fin P × Fin P))
  | [], m, p => some (m, p)
  | (true, l) :: r, m, p => match addL A p p l with
    | some q => runL A G r (m + m) q
    | none => none
  | (false, l) :: r, m, p => match addL A p G l with
    | some q => runL A G r (m + 1) q
    | none => none
theorem runL_tm (D : Dom P) (I : Invs P) {A B : Fin P} (S : Smooth A B) {G : Fin P × Fin P} (hG : OnR A B (some G)) : ∀ (l : List (Bool × Fin P)) (m : Nat) (p : Fin P × Fin P) (m' : Nat) (p' : Fin P × Fin P), Tm A (some G) m (some p) → runL A G l m p = some (m', p') → Tm A (some G) m' (some p')
  | [], m, p, m', p', h, hr => by
    unfold runL at hr
    injection hr with hr
    injection hr with h1 h2
    rw [← h1, ← h2]
    exact h
  | (true, l) :: r, m, p, m', p', h, hr => by
    unfold runL at hr
    cases ha : addL A p p l with
    | none => rw [ha] at hr; cases hr
    | some q =>
      rw [ha] at hr
      exact runL_tm D I S hG r (m + m) q m' p' (Tm.add D I S hG m _ h m _ _ h (addL_sum ha)) hr
  | (false, l) :: r, m, p, m', p', h, hr => by
    unfold runL at hr
    cases ha : addL A p G l with
    | none => rw [ha] at hr; cases hr
    | some q =>
      rw [ha] at hr
      exact runL_tm D I S hG r (m + 1) q m' p' ⟨_, h, addL_sum ha⟩ hr
theorem tm_end {A : Fin P} {G p : Fin P × Fin P} {m : Nat} (h : Tm A (some G) m (some p)) (h1 : p.1 = G.1) (h2 : p.2 + G.2 = 0) : Tm A (some G) (m + 1) none := by
  obtain ⟨px, py⟩ := p
  obtain ⟨gx, gy⟩ := G
  exact ⟨_, h, .inl ⟨h1, h2, rfl⟩⟩
/-- A right curve, its point and how often it comes back. -/
structure RightK (K : Cz) (P N : Nat) [NeZero P] : Prop where
  good : GoodK K P
  base : Gd K P (baseZ K)
  ord : Mt K P (baseZ K) N noZ
  n : K.n = (N : Int)
theorem right_of (hp : PrimeN P) (ho : P % 2 = 1) (hK : K.p = (P : Int)) (hs : ¬ (4 : Fin P) * (fp P K.a * fp P K.a * fp P K.a) + 27 * (fp P K.b * fp P K.b) = 0) (hx : 0 ≤ K.gx ∧ K.gx < P ∧ 0 ≤ K.gy ∧ K.gy < P) (hon : fp P K.gy * fp P K.gy = fp P K.gx * fp P K.gx * fp P K.gx + fp P K.a * fp P K.gx + fp P K.b) (l : List (Bool × Fin P)) (m : Nat) (q : Fin P × Fin P) (hr : runL (fp P K.a) (fp P K.gx, fp P K.gy) l 1 (fp P K.gx, fp P K.gy) = some (m, q)) (h1 : q.1 = fp P K.gx) (h2 : q.2 + fp P K.gy = 0) (hn : K.n = ((m + 1 : Nat) : Int)) : RightK K P (m + 1) := by
  have hS := smooth_of hs
  have hb : ptR P (baseZ K) = some (fp P K.gx, fp P K.gy) := by unfold ptR baseZ; rw [if_neg (by simp)]
  have hon2 : OnR (fp P K.a) (fp P K.b) (some (fp P K.gx, fp P K.gy)) := hon
  have hG : Gd K P (baseZ K) := ⟨by unfold RdP baseZ; rw [if_neg (by simp)]; exact hx, by rw [hb]; exact hon2⟩
  refine ⟨⟨hK, hp, ho, hS⟩, hG, ⟨RdP.no, ?_⟩, hn⟩
  rw [ptR_no, hb]
  exact tm_end (runL_tm (dom_fin hp ho) (invs_fin hp) hS hon2 l 1 _ m q ⟨none, rfl, rfl⟩ hr) h1 h2
/-- On the curve. -/
theorem on_good (g : GoodK K P) {p : Pz} (h : Gd K P p) : onB K p = true := by
  have hP := ppos P
  obtain ⟨hr, ho⟩ := h
  unfold onB
  have h0 : K.p ≠ 0 := by rw [g.p]; omega
  unfold RdP at hr
  cases hi : p.inf with
  | true => simp [h0]
  | false =>
    rw [hi, if_neg (by simp)] at hr
    have e : ptR P p = some (fp P p.x, fp P p.y) := by unfold ptR; rw [hi, if_neg (by simp)]
    rw [e] at ho
    have ho2 : fp P p.y * fp P p.y = fp P p.x * fp P p.x * fp P p.x + fp P K.a * fp P p.x + fp P K.b := ho
    have e2 : fp P (rightZ K p.x) = fp P p.x * fp P p.x * fp P p.x + fp P K.a * fp P p.x + fp P K.b := by
      unfold rightZ
      rw [g.p]
      simp only [fp_mod, fp_mul, fp_add]
      grind
    rw [← fp_mul, ← e2, fp_eq] at ho2
    have e3 : rightZ K p.x % P = rightZ K p.x := by
      unfold rightZ
      rw [g.p, Int.emod_emod]
    rw [e3] at ho2
    have h1 : p.x < K.p := by rw [g.p]; exact hr.2.1
    have h2 : p.y < K.p := by rw [g.p]; exact hr.2.2.2
    have h3 : (p.y * p.y) % K.p = rightZ K p.x := by rw [g.p]; exact ho2
    simp [h0, h1, h2, h3]
end
theorem prime0 : PrimeN 251 := prime_below (by decide) (by decide +kernel)
theorem right0 : RightK (curZ 0) 251 271 :=
  right_of (K := curZ 0) (P := 251) prime0 (by decide) rfl (by decide +kernel) (by decide) (by decide +kernel) [(true, 88), (true, 71), (true, 218), (true, 25), (true, 184), (false, 212), (true, 110), (false, 24), (true, 226), (false, 19), (true, 179)] 270 (7, 176) (by decide +kernel) (by decide +kernel) (by decide +kernel) rfl
theorem prime1 : PrimeN 10007 := prime_below (by decide) (by decide +kernel)
theorem right1 : RightK (curZ 1) 10007 9851 :=
  right_of (K := curZ 1) (P := 10007) prime1 (by decide) rfl (by decide +kernel) (by decide) (by decide +kernel) [(true, 7894), (true, 7106), (true, 6381), (false, 3253), (true, 5988), (false, 6168), (true, 41), (true, 2020), (true, 8353), (false, 6217), (true, 7711), (false, 7511), (true, 9968), (false, 9252), (true, 2663), (false, 1707), (true, 6207), (true, 7954), (false, 9950), (true, 2455)] 9850 (2, 5425) (by decide +kernel) (by decide +kernel) (by decide +kernel) rfl
theorem prime2 : PrimeN 65521 := prime_below (by decide) (by decide +kernel)
theorem right2 : RightK (curZ 2) 65521 65761 :=
  right_of (K := curZ 2) (P := 65521) prime2 (by decide) rfl (by decide +kernel) (by decide) (by decide +kernel) [(true, 18817), (true, 30502), (true, 48961), (true, 1840), (true, 29070), (true, 50334), (true, 21585), (true, 14561), (true, 20990), (false, 35079), (true, 21204), (false, 43150), (true, 4380), (false, 35337), (true, 22097), (true, 15959), (true, 26250), (true, 12344), (true, 55072)] 65760 (2, 36051) (by decide +kernel) (by decide +kernel) (by decide +kernel) rfl
end Go.Proofs.Yticopomchoahnaa
/-
  The statements' Awake of layer 7.
-/
namespace Go.Proofs.Yticopomchoahnaa
open Go.Shelf Go.RowKit
set_option linter.unusedVariables false
set_option linter.unusedSimpArgs false

theorem mul_goodI {P : Nat} [NeZero P] {K : Cz} (g : GoodK K P) {G : Pz} (hG : Gd K P G) {n : Int} (hn : 0 ≤ n) {r : Option Pz} (h : MulZ K G (bitsOf n (blen n.toNat) (blen n.toNat)) r) : ∃ s, r = some s ∧ Mt K P G n.toNat s := by
  obtain ⟨m, rfl⟩ : ∃ m : Nat, n = (m : Int) := ⟨n.toNat, by omega⟩
  exact mul_good g hG h
end Go.Proofs.Yticopomchoahnaa
/-
  Right curves: what Mul and Add answer of multiples; sums, products, differences of numbers as values.
-/
namespace Go.Proofs.Yticopomchoahnaa
open Go.Shelf Go.RowKit
set_option linter.unusedVariables false
set_option linter.unusedSimpArgs false

theorem nadd_nv (a b : Value) (x y : Int) (L : Nat) (w : World) (ha : Nv w a x L) (hb : Nv w b y L) (hs : L ≤ 1000) : Calls Try.prog 125 #[a, b] w fun e w' => ∃ v, e = .returned v ∧ Na w w' v (x + y) (L + 1) := by
  obtain ⟨ao, la, ca, xs, rfl, h1, rfl, h2⟩ := ha
  obtain ⟨bo, lb, cb, ys, rfl, k1, rfl, k2⟩ := hb
  refine (Add_any ao bo la ca lb cb xs ys w h1 k1 (by omega)).mono ?_
  rintro e w' ⟨v, rfl, h⟩
  exact ⟨v, rfl, h.na.1.up (by omega), h.na.2⟩
theorem nmul_nv (a b : Value) (x y : Int) (L : Nat) (w : World) (ha : Nv w a x L) (hb : Nv w b y L) (hs : L ≤ 1000) : Calls Try.prog 121 #[a, b] w fun e w' => ∃ v, e = .returned v ∧ Na w w' v (x * y) (L + L) := by
  obtain ⟨ao, la, ca, xs, rfl, h1, rfl, h2⟩ := ha
  obtain ⟨bo, lb, cb, ys, rfl, k1, rfl, k2⟩ := hb
  refine (Mul_any ao bo la ca lb cb xs ys w h1 k1 (by omega)).mono ?_
  rintro e w' ⟨v, rfl, h⟩
  exact ⟨v, rfl, h.na.1.up (by omega), h.na.2⟩
theorem Cu.up {w : World} {c : Value} {K : Cz} {L L' : Nat} (h : Cu w c K L) (hl : L ≤ L') : Cu w c K L' := by
  obtain ⟨g1, g2, oo, lo, co, vp, va, vb, vx, vy, vn, e, h1, h2, h3, h4, h5, h6⟩ := h
  exact ⟨g1, g2, oo, lo, co, vp, va, vb, vx, vy, vn, e, h1.up hl, h2.up hl, h3.up hl, h4.up hl, h5.up hl, h6.up hl⟩
theorem Cu.nums {w : World} {v0 v1 v2 v3 v4 v5 v6 v7 v8 : Value} {K : Cz} {L : Nat} (h : Cu w (.agg #[v0, v1, v2, v3, v4, v5, v6, v7, v8]) K L) : Nv w v3 K.p L ∧ Nv w v8 K.n L := by
  obtain ⟨g1, g2, oo, lo, co, vp, va, vb, vx, vy, vn, e, h1, h2, h3, h4, h5, h6⟩ := h
  injection e with e
  have el := congrArg Array.toList e
  simp only [List.cons.injEq, and_true] at el
  obtain ⟨_, _, _, rfl, _, _, _, _, rfl⟩ := el
  exact ⟨h1, h6⟩
theorem curRight (j : Nat) (hj : j < 3) : ∃ P N, ∃ _ : NeZero P, RightK (curZ j) P N := by
  match j, hj with
  | 0, _ => exact ⟨251, 271, inferInstance, right0⟩
  | 1, _ => exact ⟨10007, 9851, inferInstance, right1⟩
  | 2, _ => exact ⟨65521, 65761, inferInstance, right2⟩
theorem GoodK.p0 {K : Cz} {P : Nat} [NeZero P] (g : GoodK K P) : K.p ≠ 0 := by rw [g.p]; have := ppos P; omega
/-- The opposite. -/
def negZ (K : Cz) (p : Pz) : Pz := if p.inf ∨ p.y = 0 then p else ⟨p.x, K.p - p.y, p.inf⟩
theorem neg_rd {P : Nat} [NeZero P] {K : Cz} (g : GoodK K P) {p : Pz} (h : RdP P p) : RdP P (negZ K p) := by
  unfold negZ
  by_cases hc : p.inf ∨ p.y = 0
  · rw [if_pos hc]; exact h
  · rw [if_neg hc]
    have hi : p.inf = false := by cases hp : p.inf with
      | true => exact absurd (Or.inl hp) hc
      | false => rfl
    have hy : p.y ≠ 0 := fun e => hc (.inr e)
    unfold RdP at h ⊢
    rw [hi, if_neg (by simp)] at h ⊢
    rw [g.p]
    refine ⟨h.1, h.2.1, ?_, ?_⟩ <;> simp only <;> omega
theorem neg_pt {P : Nat} [NeZero P] {K : Cz} (g : GoodK K P) {p : Pz} (h : RdP P p) : ptR P (negZ K p) = negR (ptR P p) := by
  unfold negZ
  by_cases hc : p.inf ∨ p.y = 0
  · rw [if_pos hc]
    unfold ptR
    cases hi : p.inf with
    | true => rw [if_pos rfl]; rfl
    | false =>
      have hy : p.y = 0 := by
        rcases hc with hc | hc
        · rw [hi] at hc; cases hc
        · exact hc
      rw [if_neg (by simp)]
      show some (fp P p.x, fp P p.y) = some (fp P p.x, - fp P p.y)
      rw [hy, fp_zero]
      congr 2
      grind
  · rw [if_neg hc]
    have hi : p.inf = false := by cases hp : p.inf with
      | true => exact absurd (Or.inl hp) hc
      | false => rfl
    unfold ptR
    simp only
    rw [hi, if_neg (by simp), if_neg (by simp)]
    show some (fp P p.x, fp P (K.p - p.y)) = some (fp P p.x, - fp P p.y)
    rw [g.p, fp_sub]
    have : fp P (P : Int) = 0 := by rw [← fp_zero P, fp_eq, Int.emod_self, Int.zero_emod]
    rw [this]
    congr 2
    try grind
theorem neg_gd {P : Nat} [NeZero P] {K : Cz} (g : GoodK K P) {p : Pz} (h : Gd K P p) : Gd K P (negZ K p) := ⟨neg_rd g h.1, by rw [neg_pt g h.1]; exact neg_on h.2⟩
/-- A point and its opposite are nothing. -/
theorem add_neg {P : Nat} [NeZero P] {K : Cz} (g : GoodK K P) {p : Pz} {r : Option Pz} (hp : Gd K P p) (h : AddZ K p (negZ K p) r) : r = some noZ := by
  obtain ⟨s, rfl, hs, hsum⟩ := add_good g h hp (neg_gd g hp)
  rw [neg_pt g hp.1] at hsum
  have := sum_uniq (dom_fin g.prime g.odd) hsum (neg_self _)
  rw [ptR_inj hs RdP.no (this.trans ptR_no.symm)]
/-- The sum of opposites. -/
theorem neg_add {P : Nat} [NeZero P] {K : Cz} (g : GoodK K P) {p q s : Pz} {r r' : Option Pz} (hp : Gd K P p) (hq : Gd K P q) (h : AddZ K p q r) (hr : r = some s) (h' : AddZ K (negZ K p) (negZ K q) r') : r' = some (negZ K s) := by
  obtain ⟨s1, e1, hs1, hsum1⟩ := add_good g h hp hq
  obtain ⟨s2, rfl, hs2, hsum2⟩ := add_good g h' (neg_gd g hp) (neg_gd g hq)
  rw [hr] at e1
  injection e1 with e1
  subst e1
  rw [neg_pt g hp.1, neg_pt g hq.1] at hsum2
  have := sum_uniq (dom_fin g.prime g.odd) hsum2 (neg_sum hsum1)
  rw [ptR_inj hs2 (neg_rd g hs1) (this.trans (neg_pt g hs1).symm)]
/-- A point and the one with the other Y. -/
theorem add_opp {K : Cz} (h0 : K.p ≠ 0) {p : Pz} (hi : p.inf = false) {r : Option Pz} (h : AddZ K p ⟨p.x, K.p - p.y, false⟩ r) : r = some noZ := by
  unfold AddZ at h
  rw [if_neg h0, hi, if_neg (by simp), if_neg (by simp)] at h
  unfold AddN at h
  have hr : runZ K p ⟨p.x, K.p - p.y, false⟩ = 0 := by
    unfold runZ
    simp only
    rw [Int.sub_self, Int.zero_emod, if_neg (by simp), show p.y + (K.p - p.y) = K.p by omega, Int.emod_self]
  rw [if_pos hr] at h
  exact h
end Go.Proofs.Yticopomchoahnaa
/-
  The curve P-256, as the law has it.
-/
namespace Go.Proofs.Yticopomchoahnaa
set_option linter.unusedVariables false
set_option linter.unusedSimpArgs false
/-- A product. -/
def prodL (l : List Nat) : Nat := l.foldr (fun a b => a * b) 1
theorem perm_prod {l1 l2 : List Nat} (h : l1.Perm l2) : prodL l1 = prodL l2 := by
  induction h with
  | nil => rfl
  | cons x _ ih => show x * prodL _ = x * prodL _; rw [ih]
  | swap x y l => show y * (x * prodL l) = x * (y * prodL l); rw [← Nat.mul_assoc, Nat.mul_comm y x, Nat.mul_assoc]
  | trans _ _ ih1 ih2 => exact ih1.trans ih2
theorem prod_mul (a p : Nat) : ∀ l : List Nat, prodL (l.map fun i => a * i % p) % p = a ^ l.length * prodL l % p
  | [] => rfl
  | x :: l => by
    show (a * x % p * prodL (l.map fun i => a * i % p)) % p = a ^ (l.length + 1) * (x * prodL l) % p
    rw [Nat.mul_mod, Nat.mod_mod, prod_mul a p l, ← Nat.mul_mod, Nat.pow_succ]
    congr 1
    rw [Nat.mul_mul_mul_comm, Nat.mul_comm a]
theorem prime_prod {p : Nat} (hp : PrimeN p) (h1 : 1 < p) : ∀ l : List Nat, (∀ x ∈ l, ¬ p ∣ x) → ¬ p ∣ prodL l
  | [], _, h => by
    have := Nat.le_of_dvd (by decide : 0 < prodL []) h
    have e : prodL [] = 1 := rfl
    omega
  | x :: l, hl, h => by
    rcases hp x (prodL l) h with h2 | h2
    · exact hl x List.mem_cons_self h2
    · exact prime_prod hp h1 l (fun y hy => hl y (List.mem_cons_of_mem _ hy)) h2
/-- An inverse. -/
theorem prime_inv {p a : Nat} (hp : PrimeN p) (ha : ¬ p ∣ a) (h1 : 1 < p) : ∃ b, b * a % p = 1 := by
  have h0 : 0 < a % p := Nat.pos_of_ne_zero fun e => ha (Nat.dvd_of_mod_eq_zero e)
  have hg := prime_gcd hp h0 (Nat.mod_lt _ (by omega))
  obtain ⟨x, y, h⟩ := bez p (a % p)
  rw [hg] at h
  refine ⟨(y % p).toNat, ?_⟩
  have hy : 0 ≤ y % (p : Int) := Int.emod_nonneg _ (by omega)
  have e1 : (y % (p : Int) * (a : Int)) % p = (y * a) % p := by rw [Int.mul_emod, Int.emod_emod, ← Int.mul_emod]
  have e2 : (y * ((a % p : Nat) : Int)) % p = (y * a) % p := by rw [Int.natCast_emod, Int.mul_emod, Int.emod_emod, ← Int.mul_emod]
  have e : (((y % p).toNat * a % p : Nat) : Int) = 1 := by
    rw [Int.natCast_emod, Int.natCast_mul, Int.toNat_of_nonneg hy, e1, ← e2]
    have : y * ((a % p : Nat) : Int) = 1 + (p : Int) * (-x) := by
      have h' : (1 : Int) = p * x + ((a % p : Nat) : Int) * y := h
      rw [Int.mul_comm y, Int.mul_neg]
      omega
    rw [this, Int.add_mul_emod_self_left]
    exact Int.emod_eq_of_lt (by omega) (by omega)
  omega
/-- Fermat. -/
theorem fermat {p a : Nat} (hp : PrimeN p) (h1 : 1 < p) (ha : ¬ p ∣ a) : a ^ (p - 1) % p = 1 := by
  obtain ⟨b, hb⟩ := prime_inv hp ha h1
  have hinj : ∀ x y, x < p → y < p → a * x % p = a * y % p → x = y := by
    intro x y hx hy e
    have h2 : b * (a * x) % p = b * (a * y) % p := by rw [Nat.mul_mod, e, ← Nat.mul_mod]
    rw [← Nat.mul_assoc, ← Nat.mul_assoc, Nat.mul_mod, hb, Nat.mul_mod (b * a) y, hb, Nat.one_mul, Nat.one_mul, Nat.mod_mod, Nat.mod_mod, Nat.mod_eq_of_lt hx, Nat.mod_eq_of_lt hy] at h2
    exact h2
  obtain ⟨L, hL⟩ : ∃ L, (List.range (p - 1)).map (fun i => i + 1) = L := ⟨_, rfl⟩
  have hmem : ∀ x, x ∈ L ↔ 0 < x ∧ x < p := by
    intro x
    rw [← hL, List.mem_map]
    constructor
    · rintro ⟨i, hi, rfl⟩
      rw [List.mem_range] at hi
      omega
    · intro h
      exact ⟨x - 1, List.mem_range.2 (by omega), by omega⟩
  have hnd : L.Nodup := by
    rw [← hL]
    refine List.Pairwise.map (R := fun x y => x ≠ y) _ (fun x y h e => h (by omega)) List.nodup_range
  have hnot : ∀ x, 0 < x → x < p → ¬ p ∣ x := fun x h0 hx h => by have := Nat.le_of_dvd h0 h; omega
  have hnd2 : (L.map fun i => a * i % p).Nodup := by
    refine List.Pairwise.map (R := fun x y => x ≠ y ∧ x ∈ L ∧ y ∈ L) _ (fun x y h e => h.1 (hinj x y ((hmem x).1 h.2.1).2 ((hmem y).1 h.2.2).2 e)) ?_
    have : ∀ l : List Nat, (∀ x ∈ l, x ∈ L) → l.Nodup → l.Pairwise (fun x y => x ≠ y ∧ x ∈ L ∧ y ∈ L) := by
      intro l
      induction l with
      | nil => intro _ _; exact List.Pairwise.nil
      | cons x l ih =>
        intro hl hn
        rw [List.nodup_cons] at hn
        refine List.Pairwise.cons (fun y hy => ⟨fun e => hn.1 (e ▸ hy), hl x List.mem_cons_self, hl y (List.mem_cons_of_mem _ hy)⟩) (ih (fun y hy => hl y (List.mem_cons_of_mem _ hy)) hn.2)
    exact this L (fun x h => h) hnd
  have hperm : (L.map fun i => a * i % p).Perm L := by
    rw [List.perm_ext_iff_of_nodup hnd2 hnd]
    intro x
    rw [List.mem_map, hmem]
    constructor
    · rintro ⟨i, hi, rfl⟩
      rw [hmem] at hi
      refine ⟨Nat.pos_of_ne_zero fun e => ?_, Nat.mod_lt _ (by omega)⟩
      rcases hp a i (Nat.dvd_of_mod_eq_zero e) with h | h
      · exact ha h
      · exact hnot i hi.1 hi.2 h
    · intro hx
      refine ⟨b * x % p, ?_, ?_⟩
      · rw [hmem]
        refine ⟨Nat.pos_of_ne_zero fun e => ?_, Nat.mod_lt _ (by omega)⟩
        rcases hp b x (Nat.dvd_of_mod_eq_zero e) with h | h
        · obtain ⟨k, hk⟩ := h
          rw [hk, Nat.mul_assoc, Nat.mul_mod_right] at hb
          omega
        · exact hnot x hx.1 hx.2 h
      · rw [Nat.mul_mod, Nat.mod_mod, ← Nat.mul_mod, ← Nat.mul_assoc, Nat.mul_comm a b, Nat.mul_mod, hb, Nat.one_mul, Nat.mod_mod, Nat.mod_eq_of_lt hx.2]
  have hlen : L.length = p - 1 := by rw [← hL]; simp
  have hprod := prod_mul a p L
  rw [perm_prod hperm, hlen] at hprod
  have hn := prime_prod hp h1 L (fun x hx => hnot x ((hmem x).1 hx).1 ((hmem x).1 hx).2)
  obtain ⟨c, hc⟩ := prime_inv hp hn h1
  have h3 : c * prodL L % p = c * (a ^ (p - 1) * prodL L) % p := by rw [Nat.mul_mod, hprod, ← Nat.mul_mod]
  rw [hc, Nat.mul_left_comm, Nat.mul_mod, hc, Nat.mul_one, Nat.mod_mod] at h3
  exact h3.symm
/-- Where two powers are 1, so is the one of their greatest divisor. -/
theorem pow_gcd {p a : Nat} (h1 : 1 < p) (x y : Nat) : a ^ x % p = 1 → a ^ y % p = 1 → a ^ Nat.gcd x y % p = 1 := by
  induction x, y using Nat.gcd.induction with
  | H0 n => intro _ h; rw [Nat.gcd_zero_left]; exact h
  | H1 m n hm ih =>
    intro hx hy
    rw [Nat.gcd_rec]
    refine ih ?_ hx
    have e : a ^ n = (a ^ m) ^ (n / m) * a ^ (n % m) := by rw [← Nat.pow_mul, ← Nat.pow_add, Nat.div_add_mod]
    rw [e, Nat.mul_mod, Nat.pow_mod, hx, Nat.one_pow, Nat.mod_eq_of_lt h1, Nat.one_mul, Nat.mod_mod] at hy
    exact hy
/-- A prime divisor. -/
theorem prime_div (d : Nat) (h2 : 2 ≤ d) : ∃ p, 2 ≤ p ∧ PrimeN p ∧ p ∣ d := by
  induction d using Nat.strongRecOn with
  | ind d ih =>
    by_cases h : ∃ e, 2 ≤ e ∧ e < d ∧ e ∣ d
    · obtain ⟨e, he, hed, hdv⟩ := h
      obtain ⟨p, hp, hpp, hpd⟩ := ih e hed he
      exact ⟨p, hp, hpp, Nat.dvd_trans hpd hdv⟩
    · refine ⟨d, h2, prime_of fun a ha h0 => ?_, Nat.dvd_refl d⟩
      have hg := Nat.gcd_dvd_left d a
      have hl := Nat.le_of_dvd (by omega) (Nat.gcd_dvd_right d a)
      have hp : 0 < Nat.gcd d a := Nat.gcd_pos_of_pos_right _ (by omega)
      rcases Nat.lt_or_ge (Nat.gcd d a) 2 with h3 | h3
      · omega
      · exact absurd ⟨_, h3, by omega, hg⟩ h
/-- A power, by squares. -/
def powm (N : Nat) : Nat → Nat → Nat → Nat
  | 0, _, _ => 1 % N
  | f + 1, a, e => if e = 0 then 1 % N else if e % 2 = 0 then powm N f (a * a % N) (e / 2) else a * powm N f (a * a % N) (e / 2) % N
theorem powm_eq (N : Nat) : ∀ f a e, e < 2 ^ f → powm N f a e = a ^ e % N
  | 0, a, e, h => by
    have : e = 0 := by simpa using h
    subst this
    rfl
  | f + 1, a, e, h => by
    unfold powm
    by_cases h0 : e = 0
    · rw [if_pos h0, h0]; rfl
    · rw [if_neg h0]
      have hlt : e / 2 < 2 ^ f := by rw [Nat.pow_succ] at h; omega
      rw [powm_eq N f (a * a % N) (e / 2) hlt, ← Nat.pow_mod]
      have hsq : (a * a) ^ (e / 2) = a ^ (2 * (e / 2)) := by rw [← Nat.pow_two, ← Nat.pow_mul]
      rw [hsq]
      by_cases h2 : e % 2 = 0
      · rw [if_pos h2, show 2 * (e / 2) = e by omega]
      · rw [if_neg h2, Nat.mul_mod, Nat.mod_mod, ← Nat.mul_mod, ← Nat.pow_succ', show (2 * (e / 2)).succ = e by omega]
/-- What a factor of N - 1 tells of N's divisors. -/
theorem pock_div {N q R : Nat} (hN : 1 < N) (hq : PrimeN q) (hR : N - 1 = q * R) (h1 : powm N 256 2 (N - 1) = 1) (h2 : Nat.gcd (powm N 256 2 R + (N - 1)) N = 1) (hl : N < 2 ^ 256) {p : Nat} (hp : PrimeN p) (hp2 : 2 ≤ p) (hd : p ∣ N) : q ∣ p - 1 := by
  have hR0 : 0 < R := Nat.pos_of_ne_zero fun e => by rw [e] at hR; omega
  have hq0 : 0 < q := Nat.pos_of_ne_zero fun e => by rw [e] at hR; omega
  have hRl : R ≤ N - 1 := by rw [hR]; exact Nat.le_mul_of_pos_left _ hq0
  rw [powm_eq N 256 2 (N - 1) (by omega)] at h1
  rw [powm_eq N 256 2 R (by omega)] at h2
  have m1 : 2 ^ (N - 1) % p = 1 := by
    rw [← Nat.mod_mod_of_dvd _ hd, h1]
    exact Nat.mod_eq_of_lt (by omega)
  have hna : ¬ p ∣ 2 := fun h => by
    have : 2 ^ (N - 1) % p = 0 := by
      rw [Nat.pow_mod, Nat.mod_eq_zero_of_dvd h, Nat.zero_pow (by omega), Nat.zero_mod]
    omega
  have m2 := fermat hp (by omega) hna
  apply Classical.byContradiction
  intro hnq
  have hg : Nat.gcd (N - 1) (p - 1) ∣ R := by
    have hc : Nat.Coprime q (p - 1) := by
      have hgd := Nat.gcd_dvd_left q (p - 1)
      obtain ⟨k, hk⟩ := hgd
      have hdq : q ∣ Nat.gcd q (p - 1) * k := ⟨1, by omega⟩
      rcases hq _ _ hdq with h | h
      · exact absurd (Nat.dvd_trans h (Nat.gcd_dvd_right q (p - 1))) hnq
      · have hk0 : 0 < k := Nat.pos_of_ne_zero fun e => by rw [e] at hk; omega
        have hle := Nat.le_of_dvd hk0 h
        have hgp : 0 < Nat.gcd q (p - 1) := Nat.gcd_pos_of_pos_left _ hq0
        show Nat.gcd q (p - 1) = 1
        generalize Nat.gcd q (p - 1) = g at *
        rcases g with _ | _ | g
        · omega
        · rfl
        · have h6 : (g + 1 + 1) * k = g * k + k + k := by rw [Nat.add_mul, Nat.add_mul]; omega
          have h7 : 0 ≤ g * k := Nat.zero_le _
          omega
    have hcg : Nat.Coprime (Nat.gcd (N - 1) (p - 1)) q := Nat.Coprime.coprime_dvd_left (Nat.gcd_dvd_right _ _) hc.symm
    have hdv : Nat.gcd (N - 1) (p - 1) ∣ q * R := by rw [← hR]; exact Nat.gcd_dvd_left _ _
    exact hcg.dvd_of_dvd_mul_left hdv
  have m3 := pow_gcd (by omega) _ _ m1 m2
  obtain ⟨k, hk⟩ := hg
  have m4 : 2 ^ R % p = 1 := by
    rw [hk, Nat.pow_mul, Nat.pow_mod, m3, Nat.one_pow]
    exact Nat.mod_eq_of_lt (by omega)
  have hdd : p ∣ 2 ^ R % N + (N - 1) := by
    have e1 : (2 ^ R % N) % p = 1 := by rw [Nat.mod_mod_of_dvd _ hd]; exact m4
    obtain ⟨c, hc⟩ := hd
    refine Nat.dvd_of_mod_eq_zero ?_
    have e2 : 2 ^ R % N = p * (2 ^ R % N / p) + 1 := by have := Nat.div_add_mod (2 ^ R % N) p; omega
    have hc0 : 0 < c := Nat.pos_of_ne_zero fun e => by rw [e] at hc; omega
    have e3 : 2 ^ R % N + (N - 1) = p * (2 ^ R % N / p) + p * c := by
      have : 0 < p * c := Nat.mul_pos (by omega) hc0
      omega
    rw [e3, ← Nat.mul_add, Nat.mul_mod_right]
  have := Nat.dvd_gcd hdd hd
  rw [h2] at this
  have := Nat.le_of_dvd (by decide) this
  omega
/-- A prime, by one great factor of N - 1. -/
theorem pock1 {N q R : Nat} (hN : 1 < N) (hq : PrimeN q) (hR : N - 1 = q * R) (h1 : powm N 256 2 (N - 1) = 1) (h2 : Nat.gcd (powm N 256 2 R + (N - 1)) N = 1) (hl : N < 2 ^ 256) (hF : N ≤ q * q) : PrimeN N := by
  refine prime_root fun d hd2 hdd hm => ?_
  obtain ⟨p, hp2, hp, hpd⟩ := prime_div d hd2
  have h3 := pock_div hN hq hR h1 h2 hl hp hp2 (Nat.dvd_trans hpd (Nat.dvd_of_mod_eq_zero hm))
  have h4 := Nat.le_of_dvd (by omega) h3
  have h5 := Nat.le_of_dvd (by omega) hpd
  have h6 : q * q < d * d := Nat.mul_lt_mul'' (by omega) (by omega)
  omega
/-- By two. -/
theorem pock2 {N q R q' R' : Nat} (hN : 1 < N) (hq : PrimeN q) (hR : N - 1 = q * R) (h1 : powm N 256 2 (N - 1) = 1) (h2 : Nat.gcd (powm N 256 2 R + (N - 1)) N = 1) (hq' : PrimeN q') (hR' : N - 1 = q' * R') (h2' : Nat.gcd (powm N 256 2 R' + (N - 1)) N = 1) (hc : Nat.Coprime q q') (hl : N < 2 ^ 256) (hF : N ≤ (q * q') * (q * q')) : PrimeN N := by
  refine prime_root fun d hd2 hdd hm => ?_
  obtain ⟨p, hp2, hp, hpd⟩ := prime_div d hd2
  have hpN := Nat.dvd_trans hpd (Nat.dvd_of_mod_eq_zero hm)
  have h3 := pock_div hN hq hR h1 h2 hl hp hp2 hpN
  have h3' := pock_div hN hq' hR' h1 h2' hl hp hp2 hpN
  have h4 := Nat.le_of_dvd (by omega) (Nat.Coprime.mul_dvd_of_dvd_of_dvd hc h3 h3')
  have h5 := Nat.le_of_dvd (by omega) hpd
  have h6 : (q * q') * (q * q') < d * d := Nat.mul_lt_mul'' (by omega) (by omega)
  omega
theorem gp0 : PrimeN 704251 := pock2 (q := 313) (R := 2250) (q' := 5) (R' := 140850) (by decide) (prime_below (P := 313) (by decide) (by decide +kernel)) (by decide +kernel) (by decide +kernel) (by decide +kernel) (prime_below (P := 5) (by decide) (by decide +kernel)) (by decide +kernel) (by decide +kernel) (by decide +kernel) (by decide) (by decide)
theorem gp1 : PrimeN 78283 := pock1 (q := 4349) (R := 18) (by decide) (prime_below (P := 4349) (by decide) (by decide +kernel)) (by decide +kernel) (by decide +kernel) (by decide +kernel) (by decide) (by decide)
theorem gp2 : PrimeN 66417393611 := pock2 (q := 3677) (R := 18062930) (q' := 197) (R' := 337144130) (by decide) (prime_below (P := 3677) (by decide) (by decide +kernel)) (by decide +kernel) (by decide +kernel) (by decide +kernel) (prime_below (P := 197) (by decide) (by decide +kernel)) (by decide +kernel) (by decide +kernel) (by decide +kernel) (by decide) (by decide)
theorem gp3 : PrimeN 11290956913871 := pock1 (q := 66417393611) (R := 170) (by decide) gp2 (by decide +kernel) (by decide +kernel) (by decide +kernel) (by decide) (by decide)
theorem gp4 : PrimeN 46076956964474543 := pock2 (q := 704251) (R := 65426896042) (q' := 78283) (R' := 588594675274) (by decide) gp0 (by decide +kernel) (by decide +kernel) (by decide +kernel) gp1 (by decide +kernel) (by decide +kernel) (by decide +kernel) (by decide) (by decide)
theorem gp5 : PrimeN 774023187263532362759620327192479577272145303 := pock2 (q := 46076956964474543) (R := 16798487535978261528513091914) (q' := 11290956913871) (R' := 68552487904071337216976429044362) (by decide) gp4 (by decide +kernel) (by decide +kernel) (by decide +kernel) gp3 (by decide +kernel) (by decide +kernel) (by decide +kernel) (by decide) (by decide)
theorem gp6 : PrimeN 835945042244614951780389953367877943453916927241 := pock1 (q := 774023187263532362759620327192479577272145303) (R := 1080) (by decide) gp5 (by decide +kernel) (by decide +kernel) (by decide +kernel) (by decide) (by decide)
theorem gp7 : PrimeN 115792089210356248762697446949407573530086143415290314195533631308867097853951 := pock1 (q := 835945042244614951780389953367877943453916927241) (R := 138516389665330497628477975950) (by decide) gp6 (by decide +kernel) (by decide +kernel) (by decide +kernel) (by decide) (by decide)
open Go.Shelf Go.RowKit

def greatZ : Cz := ⟨115792089210356248762697446949407573530086143415290314195533631308867097853951, 115792089210356248762697446949407573530086143415290314195533631308867097853948, 41058363725152142129326129780047268409114441015993725554835256314039467401291, 48439561293906451759052585252797914202762949526041747995844080717082404635286, 36134250956749795798585127919587881956611106672985015071877198253568414405109, 115792089210356248762697446949407573529996955224135760342422259061068512044369⟩
theorem great_good : GoodK greatZ 115792089210356248762697446949407573530086143415290314195533631308867097853951 := ⟨rfl, gp7, by decide, smooth_of (by decide +kernel)⟩
theorem great_base : Gd greatZ 115792089210356248762697446949407573530086143415290314195533631308867097853951 (baseZ greatZ) := by
  have hb : ptR 115792089210356248762697446949407573530086143415290314195533631308867097853951 (baseZ greatZ) = some (fp 115792089210356248762697446949407573530086143415290314195533631308867097853951 greatZ.gx, fp 115792089210356248762697446949407573530086143415290314195533631308867097853951 greatZ.gy) := by unfold ptR baseZ; rw [if_neg (by simp)]
  refine ⟨by unfold RdP baseZ; rw [if_neg (by simp)]; decide, ?_⟩
  rw [hb]
  show fp 115792089210356248762697446949407573530086143415290314195533631308867097853951 greatZ.gy * fp 115792089210356248762697446949407573530086143415290314195533631308867097853951 greatZ.gy = fp 115792089210356248762697446949407573530086143415290314195533631308867097853951 greatZ.gx * fp 115792089210356248762697446949407573530086143415290314195533631308867097853951 greatZ.gx * fp 115792089210356248762697446949407573530086143415290314195533631308867097853951 greatZ.gx + fp 115792089210356248762697446949407573530086143415290314195533631308867097853951 greatZ.a * fp 115792089210356248762697446949407573530086143415290314195533631308867097853951 greatZ.gx + fp 115792089210356248762697446949407573530086143415290314195533631308867097853951 greatZ.b
  decide +kernel
theorem sizeCu : (Try.prog.info? 69).map (·.size) = some 9 := by kernel_rfl
theorem ret_cu {fn : Func} {p : Tmp} (h : fn.results = #[.cell p 69]) (tmps : Array Value) (w : World) (g : Nat) (c0 c1 c2 c3 c4 c5 c6 c7 c8 : Value) (hp : tmps.getD p undef = .pointer (some ⟨g, 0, none⟩)) (hg : w.heap[g]? = some (.cells #[c0, c1, c2, c3, c4, c5, c6, c7, c8] 69 (0, 0))) :
    (results fn tmps).run Try.prog w = .ok (.agg #[c0, c1, c2, c3, c4, c5, c6, c7, c8]) w :=
  results_cell_row h tmps w g 69 _ (0, 0) _ hp hg Try.underlying69 rfl sizeCu
/-- Four limbs in a new place. -/
theorem nv4 (w : World) (a b c d : Int) (n : Int) (ha : 0 ≤ a ∧ a < B64) (hb : 0 ≤ b ∧ b < B64) (hc : 0 ≤ c ∧ c < B64) (hd : 0 ≤ d ∧ d < B64) (hn : val B64 [a, b, c, d] = n) : Nv (w.alloc (.cells #[.int .u64 a, .int .u64 b, .int .u64 c, .int .u64 d] 38)) (.slice (some ⟨w.heap.size, 0, none⟩) 4 4) n 4 := by
  refine ⟨_, 4, 4, [a, b, c, d], rfl, ⟨⟨rfl, .inr ⟨w.heap.size, 0, rfl, by rw [alloc_sz7]; omega, fun i hi => ?_⟩⟩, Nat.le_refl _, by unfold maxLen; omega, fun h => (by cases h), ?_, by omega⟩, hn, Nat.le_refl _⟩
  · rw [cell_of_row _ _ _ _ _ _ (heap_alloc_new w _)]
    match i, hi with
    | 0, _ => rfl
    | 1, _ => rfl
    | 2, _ => rfl
    | 3, _ => rfl
  · intro x hx
    simp only [List.mem_cons, List.not_mem_nil, or_false] at hx
    rcases hx with rfl | rfl | rfl | rfl
    · exact ha
    · exact hb
    · exact hc
    · exact hd
end Go.Proofs.Yticopomchoahnaa
/-
  ecdsa's isFactor and sumOfMultiples.
-/
namespace Go.Proofs.Yticopomchoahnaa
open Go.Shelf Go.RowKit
set_option linter.unusedVariables false
set_option linter.unusedSimpArgs false
end Go.Proofs.Yticopomchoahnaa
