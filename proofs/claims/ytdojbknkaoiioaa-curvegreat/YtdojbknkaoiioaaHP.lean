/-
  What the code's sums and multiples are, over a prime: sums and multiples of points.
-/
import Derived.Test.YtdojbknkaoiioaaHF
import Derived.Test.YtdojbknkaoiioaaHL
namespace Go.Proofs.Ytdojbknkaoiioaa
set_option linter.unusedVariables false
set_option linter.unusedSimpArgs false

/-- A right curve. -/
structure GoodK (K : Cz) (P : Nat) [NeZero P] : Prop where
  p : K.p = (P : Int)
  prime : PrimeN P
  odd : P % 2 = 1
  smooth : Smooth (fp P K.a) (fp P K.b)
/-- A point's numbers below P. -/
def ptR (P : Nat) [NeZero P] (p : Pz) : Option (Fin P × Fin P) := if p.inf then none else some (fp P p.x, fp P p.y)
/-- A point as it is answered. -/
def RdP (P : Nat) (p : Pz) : Prop := if p.inf then p = noZ else 0 ≤ p.x ∧ p.x < P ∧ 0 ≤ p.y ∧ p.y < P
/-- Such a point, and it is on the curve. -/
def Gd (K : Cz) (P : Nat) [NeZero P] (p : Pz) : Prop := RdP P p ∧ OnR (fp P K.a) (fp P K.b) (ptR P p)
theorem RdP.own {P : Nat} {p : Pz} (h : RdP P p) : ownZ p = p := by
  unfold RdP at h
  unfold ownZ
  cases hi : p.inf with
  | true => rw [hi, if_pos rfl] at h; rw [if_pos rfl, h]
  | false => rw [if_neg (by simp)]
theorem RdP.no {P : Nat} : RdP P noZ := by unfold RdP noZ; rw [if_pos rfl]
theorem gd_prime {P : Nat} (hp : PrimeN P) (a : Int) (h0 : 0 < a) (h1 : a < P) : gd P (a % P) = 1 := by
  rw [Int.emod_eq_of_lt (by omega) h1]
  unfold gd
  rw [show ((P : Int)).toNat = P by omega, prime_gcd hp (by omega) (by omega)]
  rfl
section
variable {P : Nat} [NeZero P] {K : Cz}
theorem ppos (P : Nat) [NeZero P] : (0 : Int) < P := by have := Nat.pos_of_ne_zero (NeZero.ne P); omega
theorem ptR_no : ptR P noZ = none := by unfold ptR noZ; rw [if_pos rfl]
theorem Gd.no : Gd K P noZ := ⟨RdP.no, by rw [ptR_no]; trivial⟩
theorem ptR_inj {p q : Pz} (hp : RdP P p) (hq : RdP P q) (h : ptR P p = ptR P q) : p = q := by
  unfold RdP at hp hq
  unfold ptR at h
  cases hpi : p.inf with
  | true =>
    rw [hpi, if_pos rfl] at hp
    cases hqi : q.inf with
    | true => rw [hqi, if_pos rfl] at hq; rw [hp, hq]
    | false => rw [hpi, hqi, if_pos rfl, if_neg (by simp)] at h; cases h
  | false =>
    cases hqi : q.inf with
    | true => rw [hpi, hqi, if_pos rfl, if_neg (by simp)] at h; cases h
    | false =>
      rw [hpi, hqi, if_neg (by simp), if_neg (by simp)] at h
      rw [hpi, if_neg (by simp)] at hp
      rw [hqi, if_neg (by simp)] at hq
      have h1 := congrArg (fun o => o.map Prod.fst) h
      have h2 := congrArg (fun o => o.map Prod.snd) h
      simp only [Option.map_some, Option.some.injEq] at h1 h2
      rw [fp_eq, Int.emod_eq_of_lt hp.1 hp.2.1, Int.emod_eq_of_lt hq.1 hq.2.1] at h1
      rw [fp_eq, Int.emod_eq_of_lt hp.2.2.1 hp.2.2.2, Int.emod_eq_of_lt hq.2.2.1 hq.2.2.2] at h2
      obtain ⟨px, py, pi⟩ := p
      obtain ⟨qx, qy, qi⟩ := q
      simp only at h1 h2 hpi hqi
      rw [h1, h2, hpi, hqi]
theorem sum_fp (g : GoodK K P) (p q : Pz) (s : Int) : fp P (sumX K p q s) = fp P s * fp P s - fp P p.x - fp P q.x ∧ fp P (sumY K p q s) = fp P s * (fp P p.x - fp P (sumX K p q s)) - fp P p.y := by
  refine ⟨?_, ?_⟩
  · unfold sumX
    rw [g.p]
    simp only [fp_mod, fp_sub, fp_mul]
  · unfold sumY
    rw [g.p]
    simp only [fp_mod, fp_sub, fp_mul]
theorem sum_rd (g : GoodK K P) (p q : Pz) (s : Int) : RdP P ⟨sumX K p q s, sumY K p q s, false⟩ := by
  have h := ppos P
  unfold RdP sumY
  rw [if_neg (by simp)]
  simp only
  unfold sumX
  rw [g.p]
  exact ⟨Int.emod_nonneg _ (by omega), Int.emod_lt_of_pos _ h, Int.emod_nonneg _ (by omega), Int.emod_lt_of_pos _ h⟩
theorem inv_fp {n a : Int} (h : Cg P (n * a) 1) : fp P n * fp P a = 1 := by
  rw [← fp_mul, ← fp_one P, fp_eq]
  exact h.emod
theorem add_good (g : GoodK K P) {p q : Pz} {r : Option Pz} (h : AddZ K p q r) (hp : Gd K P p) (hq : Gd K P q) : ∃ s, r = some s ∧ RdP P s ∧ SumR (fp P K.a) (ptR P p) (ptR P q) (ptR P s) := by
  have hP := ppos P
  have D := dom_fin g.prime g.odd
  obtain ⟨rp, op⟩ := hp
  obtain ⟨rq, oq⟩ := hq
  unfold AddZ at h
  rw [if_neg (by rw [g.p]; omega)] at h
  cases hpi : p.inf with
  | true =>
    rw [hpi, if_pos rfl, rq.own] at h
    exact ⟨q, h, rq, by rw [show ptR P p = none by unfold ptR; rw [if_pos hpi]]; rfl⟩
  | false =>
    rw [hpi, if_neg (by simp)] at h
    cases hqi : q.inf with
    | true =>
      rw [hqi, if_pos rfl, rp.own] at h
      exact ⟨p, h, rp, by rw [show ptR P q = none by unfold ptR; rw [if_pos hqi]]; exact sum_none _⟩
    | false =>
      rw [hqi, if_neg (by simp)] at h
      have ep : ptR P p = some (fp P p.x, fp P p.y) := by unfold ptR; rw [hpi, if_neg (by simp)]
      have eq : ptR P q = some (fp P q.x, fp P q.y) := by unfold ptR; rw [hqi, if_neg (by simp)]
      have es : ∀ x y, ptR P ⟨x, y, false⟩ = some (fp P x, fp P y) := fun x y => by unfold ptR; rw [if_neg (by simp)]
      rw [ep] at op ⊢
      rw [eq] at oq ⊢
      unfold AddN at h
      have ex : fp P q.x - fp P p.x = fp P ((q.x - p.x) % K.p) := by rw [g.p, fp_mod, fp_sub]
      have ey : fp P p.y + fp P q.y = fp P ((p.y + q.y) % K.p) := by rw [g.p, fp_mod, fp_add]
      by_cases hx : (q.x - p.x) % K.p = 0
      · have hru : runZ K p q = (p.y + q.y) % K.p := by unfold runZ; rw [if_neg (by simp [hx])]
        have hri : riseZ K p q = ((3 * ((p.x * p.x) % K.p)) % K.p + K.a) % K.p := by unfold riseZ; rw [if_neg (by simp [hx])]
        have hxx : fp P p.x = fp P q.x := (zero_of (by rw [ex, hx, fp_zero])).symm
        by_cases hy : runZ K p q = 0
        · rw [if_pos hy] at h
          exact ⟨noZ, h, RdP.no, by rw [ptR_no]; exact .inl ⟨hxx, by rw [ey, ← hru, hy, fp_zero], rfl⟩⟩
        · rw [if_neg hy] at h
          have h1 : 0 ≤ runZ K p q := by rw [hru, g.p]; exact Int.emod_nonneg _ (by omega)
          have h2 : runZ K p q < P := by rw [hru, g.p]; exact Int.emod_lt_of_pos _ hP
          rw [g.p, if_neg (by rw [gd_prime g.prime _ (by omega) h2]; simp), ← g.p] at h
          obtain ⟨n, hn0, hn1, hn, rfl⟩ := h
          rw [g.p] at hn
          have hnn := inv_fp hn
          have hy' : ¬ fp P p.y + fp P q.y = 0 := fun e => by
            rw [ey, ← hru, ← fp_zero P, fp_eq, Int.zero_emod, Int.emod_eq_of_lt h1 h2] at e
            exact hy e
          rw [hru, ← ey] at hnn
          have hl := line_same D op oq hxx hy' hnn rfl
          have el : fp P ((riseZ K p q * n) % K.p) = (fp P p.x * fp P p.x + fp P p.x * fp P p.x + fp P p.x * fp P p.x + fp P K.a) * fp P n := by
            rw [hri, g.p]
            simp only [fp_mod, fp_mul, fp_add]
            have : fp P 3 = 1 + 1 + 1 := by rw [show (3 : Int) = 1 + 1 + 1 by rfl, fp_add, fp_add, fp_one]
            rw [this]
            grind
          rw [← el] at hl
          obtain ⟨e1, e2⟩ := sum_fp g p q ((riseZ K p q * n) % K.p)
          exact ⟨_, rfl, sum_rd g p q _, by rw [es]; exact .inr ⟨fun e => hy' e.2, _, _, _, hl, e1, e2, rfl⟩⟩
      · have hru : runZ K p q = (q.x - p.x) % K.p := by unfold runZ; rw [if_pos hx]
        have hri : riseZ K p q = (q.y - p.y) % K.p := by unfold riseZ; rw [if_pos hx]
        have hy : runZ K p q ≠ 0 := by rw [hru]; exact hx
        rw [if_neg hy] at h
        have h1 : 0 ≤ runZ K p q := by rw [hru, g.p]; exact Int.emod_nonneg _ (by omega)
        have h2 : runZ K p q < P := by rw [hru, g.p]; exact Int.emod_lt_of_pos _ hP
        rw [g.p, if_neg (by rw [gd_prime g.prime _ (by omega) h2]; simp), ← g.p] at h
        obtain ⟨n, hn0, hn1, hn, rfl⟩ := h
        rw [g.p] at hn
        have hnn := inv_fp hn
        rw [hru, ← ex] at hnn
        have hx' : ¬ fp P p.x = fp P q.x := fun e => by
          rw [fp_eq] at e
          apply hx
          rw [g.p, Int.sub_emod, e, Int.sub_self, Int.zero_emod]
        have hl := line_apart op oq hnn rfl
        have el : fp P ((riseZ K p q * n) % K.p) = (fp P q.y - fp P p.y) * fp P n := by
          rw [hri, g.p]
          simp only [fp_mod, fp_mul, fp_sub]
        rw [← el] at hl
        obtain ⟨e1, e2⟩ := sum_fp g p q ((riseZ K p q * n) % K.p)
        exact ⟨_, rfl, sum_rd g p q _, by rw [es]; exact .inr ⟨fun e => hx' e.1, _, _, _, hl, e1, e2, rfl⟩⟩
/-- A multiple of the point G, as it is answered. -/
def Mt (K : Cz) (P : Nat) [NeZero P] (G : Pz) (m : Nat) (q : Pz) : Prop := RdP P q ∧ Tm (fp P K.a) (ptR P G) m (ptR P q)
theorem Mt.gd {G : Pz} (hG : Gd K P G) {m : Nat} {q : Pz} (h : Mt K P G m q) : Gd K P q := ⟨h.1, Tm.on hG.2 m _ h.2⟩
theorem Mt.uniq (g : GoodK K P) {G : Pz} {m : Nat} {q q' : Pz} (h : Mt K P G m q) (h' : Mt K P G m q') : q = q' := ptR_inj h.1 h'.1 (Tm.uniq (dom_fin g.prime g.odd) m _ _ h.2 h'.2)
theorem Mt.zero {G : Pz} : Mt K P G 0 noZ := ⟨RdP.no, ptR_no⟩
theorem Mt.add (g : GoodK K P) {G : Pz} (hG : Gd K P G) {a b : Nat} {p q : Pz} {r : Option Pz} (ha : Mt K P G a p) (hb : Mt K P G b q) (h : AddZ K p q r) : ∃ s, r = some s ∧ Mt K P G (a + b) s := by
  obtain ⟨s, hs, h1, h2⟩ := add_good g h (ha.gd hG) (hb.gd hG)
  exact ⟨s, hs, h1, Tm.add (dom_fin g.prime g.odd) (invs_fin g.prime) g.smooth hG.2 a _ ha.2 b _ _ hb.2 h2⟩
theorem Mt.one (g : GoodK K P) {G : Pz} (hG : Gd K P G) : Mt K P G 1 G := ⟨hG.1, none, rfl, rfl⟩
/-- A step. -/
def nb (m : Nat) (x : Int × Bool) : Nat := 2 * m + if x.2 then 1 else 0
theorem step_good (g : GoodK K P) {G : Pz} (hG : Gd K P G) {m : Nat} {q : Pz} (hq : Mt K P G m q) (x : Int × Bool) {r : Option Pz} (h : stepR K G x.2 q r) : ∃ s, r = some s ∧ Mt K P G (nb m x) s := by
  obtain ⟨d, hd, h⟩ := h
  obtain ⟨e, he, he2⟩ := Mt.add g hG hq hq hd
  rcases h with ⟨h1, _⟩ | ⟨e', h1, h2⟩
  · rw [h1] at he; cases he
  · rw [h1] at he
    cases he
    unfold nb
    cases hx : x.2 with
    | true =>
      rw [hx, if_pos rfl] at h2
      rw [if_pos rfl, Nat.two_mul]
      exact Mt.add g hG he2 (Mt.one g hG) h2
    | false =>
      rw [hx, if_neg (by simp)] at h2
      rw [if_neg (by simp), Nat.two_mul]
      exact ⟨_, h2, he2⟩
theorem fold_good (g : GoodK K P) {G : Pz} (hG : Gd K P G) : ∀ (l : List (Int × Bool)) (m : Nat) (S : Pz → Prop), (∀ q, S q → Mt K P G m q) → ∀ q, l.foldl (fun S x => fun q' => ∃ q, S q ∧ stepR K G x.2 q (some q')) S q → Mt K P G (l.foldl nb m) q
  | [], m, S, hS, q, h => hS q h
  | x :: l, m, S, hS, q, h => by
    refine fold_good g hG l (nb m x) _ ?_ q h
    rintro q' ⟨q0, h0, h1⟩
    obtain ⟨s, e, hs⟩ := step_good g hG (hS q0 h0) x h1
    cases e
    exact hs
theorem mf_good (g : GoodK K P) {G : Pz} (hG : Gd K P G) (l : List (Int × Bool)) (q : Pz) (h : MF K G l q) : Mt K P G (l.foldl nb 0) q := fold_good g hG l 0 _ (by rintro q rfl; exact Mt.zero) q h
theorem nb_bits (V : Int) (h0 : 0 ≤ V) (L : Nat) (hL : V < 2 ^ L) : ∀ k, k ≤ L → (((bitsOf V L k).foldl nb 0 : Nat) : Int) = V / 2 ^ (L - k)
  | 0, _ => by
    rw [Nat.sub_zero, Int.ediv_eq_zero_of_lt h0 hL]
    rfl
  | k + 1, hk => by
    have ih := nb_bits V h0 L hL k (by omega)
    rw [bitsOf_succ, List.foldl_append]
    have e : L - k = (L - (k + 1)) + 1 := by omega
    have e2 : L - 1 - k = L - (k + 1) := by omega
    rw [e, Int.pow_succ, ← Int.ediv_ediv_of_nonneg (by exact Int.le_of_lt (Int.pow_pos (by decide)))] at ih
    show ((nb _ (bitOf V L k) : Nat) : Int) = _
    unfold nb bitOf
    rw [e2]
    simp only
    obtain ⟨Y, hY⟩ : ∃ Y, V / 2 ^ (L - (k + 1)) = Y := ⟨_, rfl⟩
    have hb : bitAt V (L - (k + 1)) = Y % 2 := by unfold bitAt; rw [hY]
    rw [hY] at ih ⊢
    rw [hb]
    obtain ⟨m, hm⟩ : ∃ m, List.foldl nb 0 (bitsOf V L k) = m := ⟨_, rfl⟩
    rw [hm] at ih
    have hq : Y % 2 = 0 ∨ Y % 2 = 1 := by omega
    rw [show List.foldl (fun m x => 2 * m + if x.2 = true then 1 else 0) 0 (bitsOf V L k) = m from hm]
    rcases hq with h | h
    · rw [h, if_neg (by decide)]; omega
    · rw [h, if_pos (by decide)]; omega
/-- What Mul answers. -/
theorem mul_good (g : GoodK K P) {G : Pz} (hG : Gd K P G) {n : Nat} {r : Option Pz} (h : MulZ K G (bitsOf (n : Int) (blen n) (blen n)) r) : ∃ s, r = some s ∧ Mt K P G n s := by
  rcases h with ⟨q, rfl, hq⟩ | ⟨rfl, pre, x, q, _, hq, hs⟩
  · have h1 := mf_good g hG _ q hq
    have h2 := nb_bits (n : Int) (by omega) (blen n) (by exact_mod_cast blen_lt n) (blen n) (Nat.le_refl _)
    rw [Nat.sub_self, Int.pow_zero, Int.ediv_one] at h2
    rw [show (bitsOf (n : Int) (blen n) (blen n)).foldl nb 0 = n by omega] at h1
    exact ⟨q, rfl, h1⟩
  · obtain ⟨s, e, _⟩ := step_good g hG (mf_good g hG pre q hq) x hs
    cases e
theorem Mt.round (g : GoodK K P) {G : Pz} (hG : Gd K P G) {N : Nat} (hN : Mt K P G N noZ) {a : Nat} {p : Pz} (h : Mt K P G a p) : Mt K P G (a + N) p := ⟨h.1, Tm.round (dom_fin g.prime g.odd) (invs_fin g.prime) g.smooth hG.2 (by have := hN.2; rw [ptR_no] at this; exact this) h.2⟩
theorem Mt.times (g : GoodK K P) {G : Pz} (hG : Gd K P G) {N : Nat} (hN : Mt K P G N noZ) (k : Nat) : Mt K P G (k * N) noZ := ⟨RdP.no, by rw [ptR_no]; exact Tm.times (dom_fin g.prime g.odd) (invs_fin g.prime) g.smooth hG.2 (by have := hN.2; rw [ptR_no] at this; exact this) k⟩
end
end Go.Proofs.Ytdojbknkaoiioaa
