/-
  The three curves are right ones; a point that is on the curve.
-/
import Derived.Test.YtdojbknkaoiioaaHG
import Derived.Test.YtdojbknkaoiioaaHP
import Derived.Test.YtdojbknkaoiioaaHN
namespace Go.Proofs.Ytdojbknkaoiioaa
set_option linter.unusedVariables false
set_option linter.unusedSimpArgs false

/-- A prime: no divisor up to the root. -/
theorem prime_root {P : Nat} (h : ∀ d, 2 ≤ d → d * d ≤ P → P % d ≠ 0) : PrimeN P := by
  refine prime_of fun a ha h0 => ?_
  obtain ⟨k, hk⟩ := Nat.gcd_dvd_left P a
  have hg : Nat.gcd P a ≤ a := Nat.le_of_dvd (by omega) (Nat.gcd_dvd_right P a)
  have hp : 0 < Nat.gcd P a := Nat.gcd_pos_of_pos_right _ (by omega)
  generalize Nat.gcd P a = g at *
  rcases Nat.lt_or_ge g 2 with h2 | h2
  · omega
  · exfalso
    have hk2 : 2 ≤ k := by
      rcases k with _ | _ | k
      · rw [Nat.mul_zero] at hk; omega
      · rw [Nat.mul_one] at hk; omega
      · omega
    rcases Nat.le_total g k with hgk | hgk
    · refine h g h2 ?_ ?_
      · rw [hk]; exact Nat.mul_le_mul (Nat.le_refl _) hgk
      · rw [hk]; exact Nat.mul_mod_right g k
    · refine h k hk2 ?_ ?_
      · rw [hk]; exact Nat.mul_le_mul hgk (Nat.le_refl _)
      · rw [hk]; exact Nat.mul_mod_left g k
theorem prime_below {P : Nat} (hP : P < 65536) (h : ∀ d, d < 256 → 2 ≤ d → P % d ≠ 0 ∨ P < d * d) : PrimeN P := by
  refine prime_root fun d h2 hd => ?_
  have hl : d < 256 := by
    rcases Nat.lt_or_ge d 256 with h3 | h3
    · exact h3
    · have := Nat.mul_le_mul h3 h3
      omega
  rcases h d hl h2 with h4 | h4
  · exact h4
  · omega
section
variable {P : Nat} [NeZero P] {K : Cz}
/-- A sum with its slope. -/
def addL (A : Fin P) (p q : Fin P × Fin P) (l : Fin P) : Option (Fin P × Fin P) := if q.2 - p.2 = l * (q.1 - p.1) ∧ l * (p.2 + q.2) = p.1 * p.1 + p.1 * q.1 + q.1 * q.1 + A ∧ ¬ (p.1 = q.1 ∧ p.2 + q.2 = 0) then some (l * l - p.1 - q.1, l * (p.1 - (l * l - p.1 - q.1)) - p.2) else none
theorem addL_sum {A : Fin P} {p q r : Fin P × Fin P} {l : Fin P} (h : addL A p q l = some r) : SumR A (some p) (some q) (some r) := by
  unfold addL at h
  split at h
  · rename_i hc
    injection h with h
    obtain ⟨px, py⟩ := p
    obtain ⟨qx, qy⟩ := q
    exact .inr ⟨hc.2.2, l, _, _, ⟨hc.1, hc.2.1⟩, rfl, rfl, by rw [← h]⟩
  · cases h
/-- Steps: twice, and one more. -/
def runL (A : Fin P) (G : Fin P × Fin P) : List (Bool × Fin P) → Nat → Fin P × Fin P → Option (Nat × (Fin P × Fin P))
  | [], m, p => some (m, p)
  | (true, l) :: r, m, p => match addL A p p l with
    | some q => runL A G r (m + m) q
    | none => none
  | (false, l) :: r, m, p => match addL A p G l with
    | some q => runL A G r (m + 1) q
    | none => none
theorem runL_tm (D : Dom P) (I : Invs P) {A B : Fin P} (S : Smooth A B) {G : Fin P × Fin P} (hG : OnR A B (some G)) : ∀ (l : List (Bool × Fin P)) (m : Nat) (p : Fin P × Fin P) (m' : Nat) (p' : Fin P × Fin P), Tm A (some G) m (some p) → runL A G l m p = some (m', p') → Tm A (some G) m' (some p')
  | [], m, p, m', p', h, hr => by
    unfold runL at hr
    injection hr with hr
    injection hr with h1 h2
    rw [← h1, ← h2]
    exact h
  | (true, l) :: r, m, p, m', p', h, hr => by
    unfold runL at hr
    cases ha : addL A p p l with
    | none => rw [ha] at hr; cases hr
    | some q =>
      rw [ha] at hr
      exact runL_tm D I S hG r (m + m) q m' p' (Tm.add D I S hG m _ h m _ _ h (addL_sum ha)) hr
  | (false, l) :: r, m, p, m', p', h, hr => by
    unfold runL at hr
    cases ha : addL A p G l with
    | none => rw [ha] at hr; cases hr
    | some q =>
      rw [ha] at hr
      exact runL_tm D I S hG r (m + 1) q m' p' ⟨_, h, addL_sum ha⟩ hr
theorem tm_end {A : Fin P} {G p : Fin P × Fin P} {m : Nat} (h : Tm A (some G) m (some p)) (h1 : p.1 = G.1) (h2 : p.2 + G.2 = 0) : Tm A (some G) (m + 1) none := by
  obtain ⟨px, py⟩ := p
  obtain ⟨gx, gy⟩ := G
  exact ⟨_, h, .inl ⟨h1, h2, rfl⟩⟩
/-- A right curve, its point and how often it comes back. -/
structure RightK (K : Cz) (P N : Nat) [NeZero P] : Prop where
  good : GoodK K P
  base : Gd K P (baseZ K)
  ord : Mt K P (baseZ K) N noZ
  n : K.n = (N : Int)
theorem right_of (hp : PrimeN P) (ho : P % 2 = 1) (hK : K.p = (P : Int)) (hs : ¬ (4 : Fin P) * (fp P K.a * fp P K.a * fp P K.a) + 27 * (fp P K.b * fp P K.b) = 0) (hx : 0 ≤ K.gx ∧ K.gx < P ∧ 0 ≤ K.gy ∧ K.gy < P) (hon : fp P K.gy * fp P K.gy = fp P K.gx * fp P K.gx * fp P K.gx + fp P K.a * fp P K.gx + fp P K.b) (l : List (Bool × Fin P)) (m : Nat) (q : Fin P × Fin P) (hr : runL (fp P K.a) (fp P K.gx, fp P K.gy) l 1 (fp P K.gx, fp P K.gy) = some (m, q)) (h1 : q.1 = fp P K.gx) (h2 : q.2 + fp P K.gy = 0) (hn : K.n = ((m + 1 : Nat) : Int)) : RightK K P (m + 1) := by
  have hS := smooth_of hs
  have hb : ptR P (baseZ K) = some (fp P K.gx, fp P K.gy) := by unfold ptR baseZ; rw [if_neg (by simp)]
  have hon2 : OnR (fp P K.a) (fp P K.b) (some (fp P K.gx, fp P K.gy)) := hon
  have hG : Gd K P (baseZ K) := ⟨by unfold RdP baseZ; rw [if_neg (by simp)]; exact hx, by rw [hb]; exact hon2⟩
  refine ⟨⟨hK, hp, ho, hS⟩, hG, ⟨RdP.no, ?_⟩, hn⟩
  rw [ptR_no, hb]
  exact tm_end (runL_tm (dom_fin hp ho) (invs_fin hp) hS hon2 l 1 _ m q ⟨none, rfl, rfl⟩ hr) h1 h2
/-- On the curve. -/
theorem on_good (g : GoodK K P) {p : Pz} (h : Gd K P p) : onB K p = true := by
  have hP := ppos P
  obtain ⟨hr, ho⟩ := h
  unfold onB
  have h0 : K.p ≠ 0 := by rw [g.p]; omega
  unfold RdP at hr
  cases hi : p.inf with
  | true => simp [h0]
  | false =>
    rw [hi, if_neg (by simp)] at hr
    have e : ptR P p = some (fp P p.x, fp P p.y) := by unfold ptR; rw [hi, if_neg (by simp)]
    rw [e] at ho
    have ho2 : fp P p.y * fp P p.y = fp P p.x * fp P p.x * fp P p.x + fp P K.a * fp P p.x + fp P K.b := ho
    have e2 : fp P (rightZ K p.x) = fp P p.x * fp P p.x * fp P p.x + fp P K.a * fp P p.x + fp P K.b := by
      unfold rightZ
      rw [g.p]
      simp only [fp_mod, fp_mul, fp_add]
      grind
    rw [← fp_mul, ← e2, fp_eq] at ho2
    have e3 : rightZ K p.x % P = rightZ K p.x := by
      unfold rightZ
      rw [g.p, Int.emod_emod]
    rw [e3] at ho2
    have h1 : p.x < K.p := by rw [g.p]; exact hr.2.1
    have h2 : p.y < K.p := by rw [g.p]; exact hr.2.2.2
    have h3 : (p.y * p.y) % K.p = rightZ K p.x := by rw [g.p]; exact ho2
    simp [h0, h1, h2, h3]
end
theorem prime0 : PrimeN 251 := prime_below (by decide) (by decide +kernel)
theorem right0 : RightK (curZ 0) 251 271 :=
  right_of (K := curZ 0) (P := 251) prime0 (by decide) rfl (by decide +kernel) (by decide) (by decide +kernel) [(true, 88), (true, 71), (true, 218), (true, 25), (true, 184), (false, 212), (true, 110), (false, 24), (true, 226), (false, 19), (true, 179)] 270 (7, 176) (by decide +kernel) (by decide +kernel) (by decide +kernel) rfl
theorem prime1 : PrimeN 10007 := prime_below (by decide) (by decide +kernel)
theorem right1 : RightK (curZ 1) 10007 9851 :=
  right_of (K := curZ 1) (P := 10007) prime1 (by decide) rfl (by decide +kernel) (by decide) (by decide +kernel) [(true, 7894), (true, 7106), (true, 6381), (false, 3253), (true, 5988), (false, 6168), (true, 41), (true, 2020), (true, 8353), (false, 6217), (true, 7711), (false, 7511), (true, 9968), (false, 9252), (true, 2663), (false, 1707), (true, 6207), (true, 7954), (false, 9950), (true, 2455)] 9850 (2, 5425) (by decide +kernel) (by decide +kernel) (by decide +kernel) rfl
theorem prime2 : PrimeN 65521 := prime_below (by decide) (by decide +kernel)
theorem right2 : RightK (curZ 2) 65521 65761 :=
  right_of (K := curZ 2) (P := 65521) prime2 (by decide) rfl (by decide +kernel) (by decide) (by decide +kernel) [(true, 18817), (true, 30502), (true, 48961), (true, 1840), (true, 29070), (true, 50334), (true, 21585), (true, 14561), (true, 20990), (false, 35079), (true, 21204), (false, 43150), (true, 4380), (false, 35337), (true, 22097), (true, 15959), (true, 26250), (true, 12344), (true, 55072)] 65760 (2, 36051) (by decide +kernel) (by decide +kernel) (by decide +kernel) rfl
end Go.Proofs.Ytdojbknkaoiioaa
