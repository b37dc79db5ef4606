import Derived.Test.YticopomchoahnaaK19
import Derived.Test.YticopomchoahnaaK18
import Derived.Test.YticopomchoahnaaK16
import Derived.Test.YticopomchoahnaaK12
import Derived.Test.YticopomchoahnaaK09
import Derived.Test.YticopomchoahnaaK08
import Derived.Test.YticopomchoahnaaK07
import Derived.Deep.MidRow
import Derived.Deep.WholeRow
import Derived.Deep.LoopGhost
/-
  What a right signer signs is right: the equation of the sums. No program in sight.
-/
namespace Go.Proofs.Yticopomchoahnaa
open Go.RowKit Go.Shelf
set_option linter.unusedVariables false
set_option linter.unusedSimpArgs false

section
variable {P N : Nat} [NeZero P] {K : Cz}
theorem mt_rounds (g : GoodK K P) {G : Pz} (hG : Gd K P G) (hN : Mt K P G N noZ) {a : Nat} {p : Pz} (h : Mt K P G a p) (k : Nat) : Mt K P G (a + k * N) p := by
  induction k with
  | zero => rwa [Nat.zero_mul, Nat.add_zero]
  | succ k ih => rw [Nat.succ_mul, ← Nat.add_assoc]; exact Mt.round g hG hN ih
theorem mt_same (g : GoodK K P) {G : Pz} (hG : Gd K P G) (hN : Mt K P G N noZ) {a b : Nat} (hab : a % N = b % N) {p : Pz} (h : Mt K P G a p) : Mt K P G b p := by
  obtain ⟨q, hq⟩ := mt_ex g hG (a % N)
  have h1 := mt_rounds g hG hN hq (a / N)
  have h2 := mt_rounds g hG hN hq (b / N)
  rw [Nat.mul_comm, Nat.mod_add_div] at h1
  rw [hab, Nat.mul_comm, Nat.mod_add_div] at h2
  have h2' : Mt K P G b q := by
    have := mt_rounds g hG hN hq (b / N)
    rw [hab, Nat.mul_comm, Nat.mod_add_div] at this
    exact this
  rwa [Mt.uniq g h h1]
theorem mt_comp (g : GoodK K P) {G : Pz} (hG : Gd K P G) {a : Nat} {q : Pz} (hq : Mt K P G a q) (k : Nat) : ∀ p, Mt K P q k p → Mt K P G (k * a) p := by
  have hgq := hq.gd hG
  induction k with
  | zero =>
    intro p hp
    rw [Nat.zero_mul, Mt.uniq g hp Mt.zero]
    exact Mt.zero
  | succ k ih =>
    intro p hp
    obtain ⟨p0, h0⟩ := mt_ex g hgq k
    obtain ⟨s, hs⟩ := add_some g p0 q
    obtain ⟨s1, e1, h1⟩ := Mt.add g hgq h0 (Mt.one g hgq) hs
    injection e1 with e1
    subst e1
    rw [Mt.uniq g hp h1, Nat.succ_mul]
    obtain ⟨s2, e2, h2⟩ := Mt.add g hG (ih p0 h0) hq hs
    injection e2 with e2
    subst e2
    exact h2
/-- Below a prime order no multiple is the point at infinity. -/
theorem mt_fin (R : RightK K P N) (hp : PrimeN N) (hb : (baseZ K).inf = false) {m : Nat} (h0 : 0 < m) (hm : m < N) {q : Pz} (h : Mt K P (baseZ K) m q) : q.inf = false := by
  cases hi : q.inf with
  | false => rfl
  | true =>
    exfalso
    have hN0 : 0 < N := by omega
    have e : q = noZ := by
      have h1 := h.1
      unfold RdP at h1
      rw [hi, if_pos rfl] at h1
      first
        | exact h1
        | (obtain ⟨qx, qy, qi⟩ := q
           simp only at h1 hi
           unfold noZ
           obtain ⟨ha, hb⟩ := h1
           subst ha hb hi
           rfl)
    rw [e] at h
    have hg := gd_prime hp (m : Int) (by omega) (by omega)
    obtain ⟨i, hi0, hi1, hi2⟩ := inv_ex (m := (N : Int)) (a := (m : Int)) (by omega) hg
    have h2 := Mt.times R.good R.base h i.toNat
    have e2 : (i.toNat * m) % N = 1 % N := by
      have := hi2.emod
      have e3 : ((i.toNat * m : Nat) : Int) = i * m := by rw [Int.natCast_mul]; congr 1; omega
      rw [← e3] at this
      exact_mod_cast this
    have h3 := mt_same R.good R.base R.ord e2 h2
    have h4 := Mt.uniq R.good h3 (Mt.one R.good R.base)
    rw [← h4] at hb
    cases hb
theorem sgn_ver (R : RightK K P N) (hp : PrimeN N) {z secret draw r s : Int} {q : Pz} (h1 : 0 < secret) (h2 : secret < N) (hd : 0 < draw ∧ draw < N) (hq : Mt K P (baseZ K) secret.toNat q) (h : SgnZ K P z secret draw r s) : VerZ K P q z r s true := by
  obtain ⟨p, i, hpp, hpi, rfl, hr0, ⟨hi0, hi1, hi2⟩, hs, hs0⟩ := h
  have hN0 : (0 : Int) < N := by omega
  have hqi := mt_fin R hp rfl (by omega) (by omega) hq
  have hon := on_good R.good (hq.gd R.base)
  have hn := R.n
  rw [hn] at hi1 hi2 hs hr0 ⊢
  obtain ⟨r, hr⟩ : ∃ r, p.x % (N : Int) = r := ⟨_, rfl⟩
  rw [hr] at hs hr0 ⊢
  have rr : 0 ≤ r ∧ r < N := by rw [← hr]; exact ⟨Int.emod_nonneg _ (by omega), Int.emod_lt_of_pos _ hN0⟩
  have rs : 0 ≤ s ∧ s < N := by rw [hs]; exact ⟨Int.emod_nonneg _ (by omega), Int.emod_lt_of_pos _ hN0⟩
  have hg := gd_prime hp s (by omega) rs.2
  obtain ⟨y, hy0, hy1, hy2⟩ := inv_ex (m := (N : Int)) (a := s) hN0 hg
  obtain ⟨p1, hp1⟩ := mt_ex R.good R.base ((z * y) % (N : Int)).toNat
  obtain ⟨p2, hp2⟩ := mt_ex R.good (hq.gd R.base) ((r * y) % (N : Int)).toNat
  obtain ⟨p3, hp3⟩ := add_some R.good p1 p2
  have hc := mt_comp R.good R.base hq _ _ hp2
  obtain ⟨p4, e4, h4⟩ := Mt.add R.good R.base hp1 hc hp3
  injection e4 with e4
  subst e4
  have g1 := Int.emod_nonneg (z * y) (b := (N : Int)) (by omega)
  have g2 := Int.emod_nonneg (r * y) (b := (N : Int)) (by omega)
  have key : Cg (N : Int) ((z * y) % N + (r * y) % N * secret) draw := by
    have c1 : Cg (N : Int) ((z * y) % N + (r * y) % N * secret) (z * y + r * y * secret) := (Cg.mod _ _).add ((Cg.mod _ _).mul (Cg.refl _ _))
    have c2 : Cg (N : Int) s ((z + r * secret) * i) := by
      rw [hs]
      exact (Cg.mod _ _).trans (((Cg.mod _ _).trans ((Cg.refl _ _).add (Cg.mod _ _))).mul (Cg.refl _ _))
    have c3 : Cg (N : Int) (y * ((z + r * secret) * i) * draw) draw := by
      have := ((Cg.refl (N : Int) y).mul c2).symm.trans hy2
      have := this.mul (Cg.refl _ draw)
      rwa [Int.one_mul] at this
    have c4 : Cg (N : Int) (y * ((z + r * secret) * i) * draw) (z * y + r * y * secret) := by
      have := (Cg.refl (N : Int) (z * y + r * y * secret)).mul hi2
      rw [Int.mul_one] at this
      refine Cg.trans (Cg.of_eq ?_) this
      grind
    exact c1.trans (c4.symm.trans c3)
  have e5 : (((z * y) % (N : Int)).toNat + ((r * y) % (N : Int)).toNat * secret.toNat) % N = draw.toNat % N := by
    have := key.emod
    have e6 : (((((z * y) % (N : Int)).toNat + ((r * y) % (N : Int)).toNat * secret.toNat : Nat)) : Int) = (z * y) % N + (r * y) % N * secret := by
      rw [Int.natCast_add, Int.natCast_mul, Int.toNat_of_nonneg g1, Int.toNat_of_nonneg g2, Int.toNat_of_nonneg (by omega)]
    have e7 : ((draw.toNat : Nat) : Int) = draw := by omega
    rw [← e6, ← e7] at this
    exact_mod_cast this
  have h5 := mt_same R.good R.base R.ord e5 h4
  have e8 := Mt.uniq R.good h5 hpp
  subst e8
  refine .inr ⟨?_, y, p1, p2, p3, ?_, ?_, ?_, hp3, ?_⟩
  · unfold VerNo
    rw [hn, hqi, hon, hg]
    intro hno
    rcases hno with h | h | h | h | h
    · cases h
    · cases h
    · exact h ⟨by omega, rr.2⟩
    · exact h ⟨by omega, rs.2⟩
    · exact h rfl
  · rw [hn]; exact ⟨hy0, hy1, hy2⟩
  · rw [hn]; exact hp1
  · rw [hn]; exact hp2
  · rw [hpi, hn, hr]; simp
end
theorem curS31 (j : Nat) : S31 (curZ j).p ∧ S31 (curZ j).a ∧ S31 (curZ j).b ∧ S31 (curZ j).gx ∧ S31 (curZ j).gy ∧ S31 (curZ j).n := by
  unfold curZ S31
  split <;> decide
theorem curN (j : Nat) (hj : j < 3) : 0 < (curZ j).n := by
  match j, hj with
  | 0, _ => decide
  | 1, _ => decide
  | 2, _ => decide
theorem primeN0 : PrimeN 271 := prime_below (by decide) (by decide +kernel)
theorem primeN1 : PrimeN 9851 := prime_below (by decide) (by decide +kernel)
theorem primeN2 : PrimeN 65761 := by
  refine prime_root fun d h2 hd => ?_
  have hl : d < 300 := by
    rcases Nat.lt_or_ge d 300 with h3 | h3
    · exact h3
    · have := Nat.mul_le_mul h3 h3
      omega
  have h : ∀ d, d < 300 → 2 ≤ d → 65761 % d ≠ 0 ∨ 65761 < d * d := by decide +kernel
  rcases h d hl h2 with h4 | h4
  · exact h4
  · omega
theorem curRightN (j : Nat) (hj : j < 3) : ∃ P N, ∃ _ : NeZero P, RightK (curZ j) P N ∧ PrimeN N ∧ 270 < N ∧ N < 65762 ∧ 2 < P := by
  match j, hj with
  | 0, _ => exact ⟨251, 271, inferInstance, right0, primeN0, by decide, by decide, by decide⟩
  | 1, _ => exact ⟨10007, 9851, inferInstance, right1, primeN1, by decide, by decide, by decide⟩
  | 2, _ => exact ⟨65521, 65761, inferInstance, right2, primeN2, by decide, by decide, by decide⟩
end Go.Proofs.Yticopomchoahnaa
/-
  With the opposite of s it is a signature just as well; what is none. No program in sight.
-/
namespace Go.Proofs.Yticopomchoahnaa
open Go.RowKit Go.Shelf
set_option linter.unusedVariables false
set_option linter.unusedSimpArgs false

section
variable {P N : Nat} [NeZero P] {K : Cz}
/-- Points whose sum is none have one X. -/
theorem none_x (g : GoodK K P) {p q : Pz} (hp : Gd K P p) (hq : Gd K P q) (hpi : p.inf = false) (hqi : q.inf = false) (h : AddZ K p q (some noZ)) : q.x = p.x := by
  unfold AddZ at h
  rw [if_neg (good_p0 g), hpi, hqi, if_neg (by simp), if_neg (by simp)] at h
  unfold AddN at h
  by_cases hr : runZ K p q = 0
  · unfold runZ at hr
    by_cases hx : (q.x - p.x) % K.p ≠ 0
    · rw [if_pos hx] at hr
      exact absurd hr hx
    · have hx' : (q.x - p.x) % K.p = 0 := Classical.byContradiction hx
      exact (same_x g hq hp hqi hpi hx').1
  · rw [if_neg hr] at h
    split at h
    · cases h
    · obtain ⟨n, _, _, _, h⟩ := h
      injection h with h
      unfold noZ at h
      injection h with _ _ h
      cases h
/-- The opposite multiple has the same X. -/
theorem mt_opp (R : RightK K P N) (hp : PrimeN N) {a b : Nat} (hab : (a + b) % N = 0) (ha : a % N ≠ 0) {p q : Pz} (h : Mt K P (baseZ K) a p) (h' : Mt K P (baseZ K) b q) (hpi : p.inf = false) : q.x = p.x ∧ q.inf = false := by
  have hN0 : 0 < N := by
    rcases Nat.eq_zero_or_pos N with h0 | h0
    · subst h0
      rw [Nat.mod_zero] at hab ha
      omega
    · exact h0
  have hb : b % N ≠ 0 := fun e => ha (by have := Nat.add_mod a b N; rw [hab, e, Nat.add_zero, Nat.mod_mod] at this; exact this.symm)
  have h2 : Mt K P (baseZ K) (b % N) q := mt_same R.good R.base R.ord (Nat.mod_mod b N).symm h'
  have hqi := mt_fin R hp rfl (by omega) (Nat.mod_lt b hN0) h2
  obtain ⟨s, hs⟩ := add_some R.good p q
  obtain ⟨s1, e1, h1⟩ := Mt.add R.good R.base h h' hs
  injection e1 with e1
  subst e1
  have h3 : Mt K P (baseZ K) 0 s := mt_same R.good R.base R.ord (by rw [hab, Nat.zero_mod]) h1
  rw [Mt.uniq R.good h3 Mt.zero] at hs
  exact ⟨none_x R.good (h.gd R.base) (h'.gd R.base) hpi hqi hs, hqi⟩
theorem sgn_rng (R : RightK K P N) (hN0 : 0 < N) {z secret draw r s : Int} (h : SgnZ K P z secret draw r s) : 0 < r ∧ r < N ∧ 0 < s ∧ s < N := by
  obtain ⟨p, i, hpp, hpi, hr, hr0, _, hs, hs0⟩ := h
  rw [R.n] at hr hs
  have a1 := Int.emod_nonneg p.x (b := (N : Int)) (by omega)
  have a2 := Int.emod_lt_of_pos p.x (b := (N : Int)) (by omega)
  have a3 := Int.emod_nonneg (((z + (r * secret) % (N : Int)) % (N : Int)) * i) (b := (N : Int)) (by omega)
  have a4 := Int.emod_lt_of_pos (((z + (r * secret) % (N : Int)) % (N : Int)) * i) (b := (N : Int)) (by omega)
  rw [← hr] at a1 a2
  rw [← hs] at a3 a4
  omega
theorem sgn_neg (R : RightK K P N) (hp : PrimeN N) {z secret draw r s : Int} {q : Pz} (h1 : 0 < secret) (h2 : secret < N) (hd : 0 < draw ∧ draw < N) (hq : Mt K P (baseZ K) secret.toNat q) (h : SgnZ K P z secret draw r s) : VerZ K P q z r (K.n - s) true := by
  have hrng := sgn_rng R (by omega) h
  obtain ⟨p, i, hpp, hpi, rfl, hr0, ⟨hi0, hi1, hi2⟩, hs, hs0⟩ := h
  have hN0 : (0 : Int) < N := by omega
  have hqi := mt_fin R hp rfl (by omega) (by omega) hq
  have hon := on_good R.good (hq.gd R.base)
  have hn := R.n
  rw [hn] at hi1 hi2 hs hr0 hrng ⊢
  obtain ⟨r, hr⟩ : ∃ r, p.x % (N : Int) = r := ⟨_, rfl⟩
  rw [hr] at hs hr0 hrng ⊢
  have hg := gd_prime hp ((N : Int) - s) (by omega) (by omega)
  obtain ⟨y, hy0, hy1, hy2⟩ := inv_ex (m := (N : Int)) (a := (N : Int) - s) hN0 hg
  obtain ⟨p1, hp1⟩ := mt_ex R.good R.base ((z * y) % (N : Int)).toNat
  obtain ⟨p2, hp2⟩ := mt_ex R.good (hq.gd R.base) ((r * y) % (N : Int)).toNat
  obtain ⟨p3, hp3⟩ := add_some R.good p1 p2
  have hc := mt_comp R.good R.base hq _ _ hp2
  obtain ⟨p4, e4, h4⟩ := Mt.add R.good R.base hp1 hc hp3
  injection e4 with e4
  subst e4
  have g1 := Int.emod_nonneg (z * y) (b := (N : Int)) (by omega)
  have g2 := Int.emod_nonneg (r * y) (b := (N : Int)) (by omega)
  have key : Cg (N : Int) (draw + ((z * y) % N + (r * y) % N * secret)) 0 := by
    have c1 : Cg (N : Int) ((z * y) % N + (r * y) % N * secret) (z * y + r * y * secret) := (Cg.mod _ _).add ((Cg.mod _ _).mul (Cg.refl _ _))
    have c2 : Cg (N : Int) s ((z + r * secret) * i) := by
      rw [hs]
      exact (Cg.mod _ _).trans (((Cg.mod _ _).trans ((Cg.refl _ _).add (Cg.mod _ _))).mul (Cg.refl _ _))
    have c0 : Cg (N : Int) (y * s) (-1) := by
      have e1 : Cg (N : Int) (y * s) (- (y * ((N : Int) - s))) := ⟨y, by grind⟩
      exact e1.trans hy2.neg
    have c3 : Cg (N : Int) (y * ((z + r * secret) * i) * draw) (-1 * draw) := (((Cg.refl (N : Int) y).mul c2).symm.trans c0).mul (Cg.refl _ draw)
    have c4 : Cg (N : Int) (y * ((z + r * secret) * i) * draw) (z * y + r * y * secret) := by
      have := (Cg.refl (N : Int) (z * y + r * y * secret)).mul hi2
      rw [Int.mul_one] at this
      refine Cg.trans (Cg.of_eq ?_) this
      grind
    have c5 := (Cg.refl (N : Int) draw).add (c1.trans (c4.symm.trans c3))
    rwa [show draw + -1 * draw = 0 by omega] at c5
  have e5 : (draw.toNat + (((z * y) % (N : Int)).toNat + ((r * y) % (N : Int)).toNat * secret.toNat)) % N = 0 := by
    have := key.emod
    have e6 : (((draw.toNat + (((z * y) % (N : Int)).toNat + ((r * y) % (N : Int)).toNat * secret.toNat) : Nat)) : Int) = draw + ((z * y) % N + (r * y) % N * secret) := by
      rw [Int.natCast_add, Int.natCast_add, Int.natCast_mul, Int.toNat_of_nonneg g1, Int.toNat_of_nonneg g2, Int.toNat_of_nonneg (by omega), Int.toNat_of_nonneg (by omega)]
    rw [← e6, Int.zero_emod] at this
    exact_mod_cast this
  obtain ⟨hx, h3i⟩ := mt_opp R hp e5 (by rw [Nat.mod_eq_of_lt (by omega)]; omega) hpp h4 hpi
  refine .inr ⟨?_, y, p1, p2, p3, ?_, ?_, ?_, hp3, ?_⟩
  · unfold VerNo
    rw [hn, hqi, hon, hg]
    intro hno
    rcases hno with h | h | h | h | h
    · cases h
    · cases h
    · exact h ⟨hrng.1, hrng.2.1⟩
    · exact h ⟨by omega, by omega⟩
    · exact h rfl
  · rw [hn]; exact ⟨hy0, hy1, hy2⟩
  · rw [hn]; exact hp1
  · rw [hn]; exact hp2
  · rw [h3i, hn, hx, hr]; simp
end
end Go.Proofs.Yticopomchoahnaa
/-
  The document's curve of small numbers.
-/
namespace Go.Proofs.Yticopomchoahnaa
open Go.RowKit Go.Shelf
set_option linter.unusedVariables false
set_option linter.unusedSimpArgs false

abbrev zero6 : Array Value := #[.int .i64 0, .int .i64 0, .int .i64 0, .int .i64 0, .int .i64 0, .int .i64 0]
/-- The blocks of the document's Small. -/
structure Sm6 (W : World) (b : Nat) (r0 r1 r2 r3 r4 r5 : Value) (n0 n1 n2 n3 n4 n5 : Int) : Prop where
  r : W.heap[b + 1]? = some (.cells #[.int .i64 0, .int .i64 0, .int .i64 0, .int .i64 0, .int .i64 0, .int .i64 0] 73 (0, 0))
  o : W.heap[b + 1 + 1]? = some (.cells #[.int .i64 0, .int .i64 0, .int .i64 0, .int .i64 0, .int .i64 0, .int .i64 0] 73 (0, 0))
  l : W.heap[b + 1 + 1 + 1]? = some (.cells #[r0, r1, r2, r3, r4, r5] 29 (0, 0))
  a : W.heap[b + 1 + 1 + 1 + 1]? = some (.cells #[.int .i64 n0, .int .i64 n1, .int .i64 n2, .int .i64 n3, .int .i64 n4, .int .i64 n5] 110 (0, 0))
theorem Sm6.keep {W W' : World} {b : Nat} {r0 r1 r2 r3 r4 r5 : Value} {n0 n1 n2 n3 n4 n5 : Int} (h : Sm6 W b r0 r1 r2 r3 r4 r5 n0 n1 n2 n3 n4 n5) (hb : Below W.heap.size W W') : Sm6 W' b r0 r1 r2 r3 r4 r5 n0 n1 n2 n3 n4 n5 := ⟨blk_old h.r hb, blk_old h.o hb, blk_old h.l hb, blk_old h.a hb⟩
theorem row6 {W : World} {b : Nat} {c0 c1 c2 c3 c4 c5 : Value} {t : TypeId} (h : W.heap[b]? = some (.cells #[c0, c1, c2, c3, c4, c5] t (0, 0))) : (W.cell? ⟨b, 0, none⟩ = some c0 ∧ W.cell? ⟨b, 1, none⟩ = some c1 ∧ W.cell? ⟨b, 2, none⟩ = some c2 ∧ W.cell? ⟨b, 3, none⟩ = some c3 ∧ W.cell? ⟨b, 4, none⟩ = some c4 ∧ W.cell? ⟨b, 5, none⟩ = some c5) ∧ W.frozen? ⟨b, 0, none⟩ = false ∧ W.frozen? ⟨b, 1, none⟩ = false ∧ W.frozen? ⟨b, 2, none⟩ = false ∧ W.frozen? ⟨b, 3, none⟩ = false ∧ W.frozen? ⟨b, 4, none⟩ = false ∧ W.frozen? ⟨b, 5, none⟩ = false := by
  refine ⟨⟨?_, ?_, ?_, ?_, ?_, ?_⟩, frozen_of_row W b 0 _ _ h, frozen_of_row W b 1 _ _ h, frozen_of_row W b 2 _ _ h, frozen_of_row W b 3 _ _ h, frozen_of_row W b 4 _ _ h, frozen_of_row W b 5 _ _ h⟩ <;> (rw [cell_of_row _ _ _ _ _ _ h]; rfl)
theorem sm6_new (w : World) (o : Obj) (r0 r1 r2 r3 r4 r5 : Value) : Sm6 (((((w.alloc o).alloc (.cells zero6 73)).alloc (.cells zero6 73)).alloc (.cells #[r0, r1, r2, r3, r4, r5] 29)).alloc (.cells zero6 110)) w.heap.size r0 r1 r2 r3 r4 r5 0 0 0 0 0 0 ∧ Below w.heap.size w (((((w.alloc o).alloc (.cells zero6 73)).alloc (.cells zero6 73)).alloc (.cells #[r0, r1, r2, r3, r4, r5] 29)).alloc (.cells zero6 110)) := by
  obtain ⟨w1, e1⟩ : ∃ x, w.alloc o = x := ⟨_, rfl⟩
  obtain ⟨w2, e2⟩ : ∃ x, w1.alloc (.cells zero6 73) = x := ⟨_, rfl⟩
  obtain ⟨w3, e3⟩ : ∃ x, w2.alloc (.cells zero6 73) = x := ⟨_, rfl⟩
  obtain ⟨w4, e4⟩ : ∃ x, w3.alloc (.cells #[r0, r1, r2, r3, r4, r5] 29) = x := ⟨_, rfl⟩
  have z1 : w1.heap.size = w.heap.size + 1 := by rw [← e1]; exact alloc_sz7 _ _
  have z2 : w2.heap.size = w.heap.size + 1 + 1 := by rw [← e2, alloc_sz7, z1]
  have z3 : w3.heap.size = w.heap.size + 1 + 1 + 1 := by rw [← e3, alloc_sz7, z2]
  have z4 : w4.heap.size = w.heap.size + 1 + 1 + 1 + 1 := by rw [← e4, alloc_sz7, z3]
  have n2 : w2.heap[w.heap.size + 1]? = some (.cells zero6 73 (0, 0)) := by rw [← e2, ← z1]; exact heap_alloc_new w1 _
  have n3 : w3.heap[w.heap.size + 1 + 1]? = some (.cells zero6 73 (0, 0)) := by rw [← e3, ← z2]; exact heap_alloc_new w2 _
  have n4 : w4.heap[w.heap.size + 1 + 1 + 1]? = some (.cells #[r0, r1, r2, r3, r4, r5] 29 (0, 0)) := by rw [← e4, ← z3]; exact heap_alloc_new w3 _
  have n5 := heap_alloc_new w4 (.cells zero6 110)
  rw [z4] at n5
  have m2 : w3.heap[w.heap.size + 1]? = some (.cells zero6 73 (0, 0)) := by rw [← e3]; exact heap_new n2 (by omega)
  have k2 : w4.heap[w.heap.size + 1]? = some (.cells zero6 73 (0, 0)) := by rw [← e4]; exact heap_new m2 (by omega)
  have k3 : w4.heap[w.heap.size + 1 + 1]? = some (.cells zero6 73 (0, 0)) := by rw [← e4]; exact heap_new n3 (by omega)
  have bb : Below w.heap.size w (w4.alloc (.cells zero6 110)) := by
    rw [← e4, ← e3, ← e2, ← e1]
    exact (((((Below.refl w.heap.size w).alloc (Nat.le_refl _) _).alloc (by rw [alloc_sz7]; omega) _).alloc (by rw [alloc_sz7, alloc_sz7]; omega) _).alloc (by rw [alloc_sz7, alloc_sz7, alloc_sz7]; omega) _).alloc (by rw [alloc_sz7, alloc_sz7, alloc_sz7, alloc_sz7]; omega) _
  rw [e1, e2, e3, e4]
  exact ⟨⟨heap_new k2 (by omega), heap_new k3 (by omega), heap_new n4 (by omega), n5⟩, bb⟩
theorem sizeCv : (Try.prog.info? 73).map (·.size) = some 6 := by kernel_rfl
theorem ret_cv {fn : Func} {p u : Tmp} (h : fn.results = #[.cell p 73, .tmp u]) (tmps : Array Value) (w : World) (g : Nat) (c0 c1 c2 c3 c4 c5 : Value) (hp : tmps.getD p undef = .pointer (some ⟨g, 0, none⟩)) (hg : w.heap[g]? = some (.cells #[c0, c1, c2, c3, c4, c5] 73 (0, 0))) :
    (results fn tmps).run Try.prog w = .ok (.tuple #[.agg #[c0, c1, c2, c3, c4, c5], tmps.getD u undef]) w := by
  rw [results_cell_tmp h, hp]
  have hl := run_loadVar_row (P := Try.prog) w g 73 73 #[c0, c1, c2, c3, c4, c5] (0, 0) _ hg Try.underlying73 rfl sizeCv
  simp [asAddr, Result.andThen, hl]
abbrev set6 (W : World) (g : Nat) (d0 d1 d2 d3 d4 d5 : Value) : World := (((((W.setCell ⟨g, 0, none⟩ d0).setCell ⟨g, 1, none⟩ d1).setCell ⟨g, 2, none⟩ d2).setCell ⟨g, 3, none⟩ d3).setCell ⟨g, 4, none⟩ d4).setCell ⟨g, 5, none⟩ d5
theorem bt_set6 (W : World) (g : Nat) (d0 d1 d2 d3 d4 d5 : Value) : Bt g W (set6 W g d0 d1 d2 d3 d4 d5) := (((((Bt.setCell g W 0 d0).trans (Bt.setCell g _ 1 d1)).trans (Bt.setCell g _ 2 d2)).trans (Bt.setCell g _ 3 d3)).trans (Bt.setCell g _ 4 d4)).trans (Bt.setCell g _ 5 d5)
theorem row_set6 {W : World} {g : Nat} {c0 c1 c2 c3 c4 c5 : Value} {t : TypeId} (h : W.heap[g]? = some (.cells #[c0, c1, c2, c3, c4, c5] t (0, 0))) (d0 d1 d2 d3 d4 d5 : Value) : (set6 W g d0 d1 d2 d3 d4 d5).heap[g]? = some (.cells #[d0, d1, d2, d3, d4, d5] t (0, 0)) := by
  have h1 := heap_set7 W g 0 d0 _ _ _ h
  have h2 := heap_set7 _ g 1 d1 _ _ _ h1
  have h3 := heap_set7 _ g 2 d2 _ _ _ h2
  have h4 := heap_set7 _ g 3 d3 _ _ _ h3
  have h5 := heap_set7 _ g 4 d4 _ _ _ h4
  exact heap_set7 _ g 5 d5 _ _ _ h5
/-- A number's place in the array. -/
def arr6 (K : Cz) (i k : Nat) : Int := if k < i then (match k with | 0 => K.p | 1 => K.a | 2 => K.b | 3 => K.gx | 4 => K.gy | _ => K.n) else 0
theorem num_small (v : Value) (x : Int) (L : Nat) (w : World) (h : Nv w v x L) (hs : S31 x) : Calls Try.prog 45 #[v] w fun e w' => e = .returned (.tuple #[.int .i64 x, .bool true]) ∧ Below w.heap.size w w' := by
  have := number_nv v x L w h
  rwa [if_pos hs.2, show decide (x < 2147483648) = true by simp [hs.2]] at this
set_option maxRecDepth 100000 in
set_option maxHeartbeats 4000000 in
theorem rSmallC_any (c : Value) (K : Cz) (L : Nat) (w : World) (hc : Cu w c K L) (h1 : S31 K.p) (h2 : S31 K.a) (h3 : S31 K.b) (h4 : S31 K.gx) (h5 : S31 K.gy) (h6 : S31 K.n) :
    Calls Try.prog 21 #[c] w fun e w' => e = .returned (.tuple #[rcv K, .bool true]) ∧ Below w.heap.size w w' := by
  obtain ⟨g1, g2, oo, lo, co, vp, va, vb, vx, vy, vn, rfl, c1, c2, c3, c4, c5, c6⟩ := hc
  have N0 := fun W (hW : Below w.heap.size w W) => num_small vp K.p L W (c1.old hW) h1
  have N1 := fun W (hW : Below w.heap.size w W) => num_small va K.a L W (c2.old hW) h2
  have N2 := fun W (hW : Below w.heap.size w W) => num_small vb K.b L W (c3.old hW) h3
  have N3 := fun W (hW : Below w.heap.size w W) => num_small vx K.gx L W (c4.old hW) h4
  have N4 := fun W (hW : Below w.heap.size w W) => num_small vy K.gy L W (c5.old hW) h5
  have N5 := fun W (hW : Below w.heap.size w W) => num_small vn K.n L W (c6.old hW) h6
  obtain ⟨a1, a2, a3, a4, rfl, a5⟩ := c1
  obtain ⟨b1, b2, b3, b4, rfl, b5⟩ := c2
  obtain ⟨d1, d2, d3, d4, rfl, d5⟩ := c3
  obtain ⟨e1, e2, e3, e4, rfl, e5⟩ := c4
  obtain ⟨f1, f2, f3, f4, rfl, f5⟩ := c5
  obtain ⟨j1, j2, j3, j4, rfl, j5⟩ := c6
  obtain ⟨kp, ka, kb, kx, ky, kn⟩ := K
  unfold rcv
  simp only at N0 N1 N2 N3 N4 N5 ⊢
  clear a5 b5 d5 e5 f5 j5 h1 h2 h3 h4 h5 h6
  obtain ⟨F0, B0⟩ := sm6_new w (.cells #[.int .i64 g1, .int .i64 g2, .slice oo lo co, .slice a1 a2 a3, .slice b1 b2 b3, .slice d1 d2 d3, .slice e1 e2 e3, .slice f1 f2 f3, .slice j1 j2 j3] 69) (.slice a1 a2 a3) (.slice b1 b2 b3) (.slice d1 d2 d3) (.slice e1 e2 e3) (.slice f1 f2 f3) (.slice j1 j2 j3)
  have HF : Hid (_ ∧ _) := ⟨F0, B0⟩
  clear F0 B0
  go_enter Try.func21, Try.ntmps21
  go_wp2_with fail
  go_loopw [5, 8] (fun vk vi wr => ∃ (i : Nat), i ≤ 6 ∧ vi = .int .i64 (i : Int) ∧ vk = .bool true ∧ Sm6 wr w.heap.size (.slice a1 a2 a3) (.slice b1 b2 b3) (.slice d1 d2 d3) (.slice e1 e2 e3) (.slice f1 f2 f3) (.slice j1 j2 j3) (arr6 ⟨kp, ka, kb, kx, ky, kn⟩ i 0) (arr6 ⟨kp, ka, kb, kx, ky, kn⟩ i 1) (arr6 ⟨kp, ka, kb, kx, ky, kn⟩ i 2) (arr6 ⟨kp, ka, kb, kx, ky, kn⟩ i 3) (arr6 ⟨kp, ka, kb, kx, ky, kn⟩ i 4) (arr6 ⟨kp, ka, kb, kx, ky, kn⟩ i 5) ∧ Below w.heap.size w wr) (fun _ vi _ => 6 - (intOf vi).toNat)
  case atStart => exact ⟨0, by omega, rfl, rfl, HF.out.1, HF.out.2⟩
  case round =>
    obtain ⟨i, hi, rfl, rfl, hs, hb⟩ := hrel
    have HB : Hid (Below w.heap.size w wr) := hb
    have hi7 : i = 0 ∨ i = 1 ∨ i = 2 ∨ i = 3 ∨ i = 4 ∨ i = 5 ∨ i = 6 := by omega
    clear hb hi
    rcases hi7 with rfl | rfl | rfl | rfl | rfl | rfl | rfl
    · have HS : Hid (Sm6 wr w.heap.size (.slice a1 a2 a3) (.slice b1 b2 b3) (.slice d1 d2 d3) (.slice e1 e2 e3) (.slice f1 f2 f3) (.slice j1 j2 j3) 0 0 0 0 0 0) := hs
      obtain ⟨⟨l0, l1, l2, l3, l4, l5⟩, -⟩ := row6 HS.out.l
      have HN := N0 wr HB.out
      clear hs
      go_wp2_with fail
      refine HN.mono ?_
      rintro e w2 ⟨rfl, hb2⟩
      have S2 := HS.out.keep hb2
      have B2 := HB.out.trans (hb2.mono HB.out.size)
      obtain ⟨⟨x0, x1, x2, x3, x4, x5⟩, y0, y1, y2, y3, y4, y5⟩ := row6 S2.a
      have bt := Bt.setCell (w.heap.size + 1 + 1 + 1 + 1) w2 0 (.int .i64 kp)
      have S3 : Sm6 (w2.setCell ⟨w.heap.size + 1 + 1 + 1 + 1, 0, none⟩ (.int .i64 kp)) w.heap.size (.slice a1 a2 a3) (.slice b1 b2 b3) (.slice d1 d2 d3) (.slice e1 e2 e3) (.slice f1 f2 f3) (.slice j1 j2 j3) kp 0 0 0 0 0 := ⟨bt_blk bt S2.r (by omega), bt_blk bt S2.o (by omega), bt_blk bt S2.l (by omega), heap_set7 w2 _ 0 (.int .i64 kp) _ _ _ S2.a⟩
      have HS3 : Hid (_ ∧ _) := ⟨S3, B2.trans (bt.below (by omega) B2.size)⟩
      clear l0 l1 l2 l3 l4 l5 S2 B2 bt S3 hb2 HN N0 N1 N2 N3 N4 N5 HS HB
      go_wp2
      go_roundw
      case rel => exact ⟨1, by omega, by go_num, rfl, HS3.out.1, HS3.out.2⟩
      case measure => simp [intOf]
    · have HS : Hid (Sm6 wr w.heap.size (.slice a1 a2 a3) (.slice b1 b2 b3) (.slice d1 d2 d3) (.slice e1 e2 e3) (.slice f1 f2 f3) (.slice j1 j2 j3) kp 0 0 0 0 0) := hs
      obtain ⟨⟨l0, l1, l2, l3, l4, l5⟩, -⟩ := row6 HS.out.l
      have HN := N1 wr HB.out
      clear hs
      go_wp2_with fail
      refine HN.mono ?_
      rintro e w2 ⟨rfl, hb2⟩
      have S2 := HS.out.keep hb2
      have B2 := HB.out.trans (hb2.mono HB.out.size)
      obtain ⟨⟨x0, x1, x2, x3, x4, x5⟩, y0, y1, y2, y3, y4, y5⟩ := row6 S2.a
      have bt := Bt.setCell (w.heap.size + 1 + 1 + 1 + 1) w2 1 (.int .i64 ka)
      have S3 : Sm6 (w2.setCell ⟨w.heap.size + 1 + 1 + 1 + 1, 1, none⟩ (.int .i64 ka)) w.heap.size (.slice a1 a2 a3) (.slice b1 b2 b3) (.slice d1 d2 d3) (.slice e1 e2 e3) (.slice f1 f2 f3) (.slice j1 j2 j3) kp ka 0 0 0 0 := ⟨bt_blk bt S2.r (by omega), bt_blk bt S2.o (by omega), bt_blk bt S2.l (by omega), heap_set7 w2 _ 1 (.int .i64 ka) _ _ _ S2.a⟩
      have HS3 : Hid (_ ∧ _) := ⟨S3, B2.trans (bt.below (by omega) B2.size)⟩
      clear l0 l1 l2 l3 l4 l5 S2 B2 bt S3 hb2 HN N0 N1 N2 N3 N4 N5 HS HB
      go_wp2
      go_roundw
      case rel => exact ⟨2, by omega, by go_num, rfl, HS3.out.1, HS3.out.2⟩
      case measure => simp [intOf]
    · have HS : Hid (Sm6 wr w.heap.size (.slice a1 a2 a3) (.slice b1 b2 b3) (.slice d1 d2 d3) (.slice e1 e2 e3) (.slice f1 f2 f3) (.slice j1 j2 j3) kp ka 0 0 0 0) := hs
      obtain ⟨⟨l0, l1, l2, l3, l4, l5⟩, -⟩ := row6 HS.out.l
      have HN := N2 wr HB.out
      clear hs
      go_wp2_with fail
      refine HN.mono ?_
      rintro e w2 ⟨rfl, hb2⟩
      have S2 := HS.out.keep hb2
      have B2 := HB.out.trans (hb2.mono HB.out.size)
      obtain ⟨⟨x0, x1, x2, x3, x4, x5⟩, y0, y1, y2, y3, y4, y5⟩ := row6 S2.a
      have bt := Bt.setCell (w.heap.size + 1 + 1 + 1 + 1) w2 2 (.int .i64 kb)
      have S3 : Sm6 (w2.setCell ⟨w.heap.size + 1 + 1 + 1 + 1, 2, none⟩ (.int .i64 kb)) w.heap.size (.slice a1 a2 a3) (.slice b1 b2 b3) (.slice d1 d2 d3) (.slice e1 e2 e3) (.slice f1 f2 f3) (.slice j1 j2 j3) kp ka kb 0 0 0 := ⟨bt_blk bt S2.r (by omega), bt_blk bt S2.o (by omega), bt_blk bt S2.l (by omega), heap_set7 w2 _ 2 (.int .i64 kb) _ _ _ S2.a⟩
      have HS3 : Hid (_ ∧ _) := ⟨S3, B2.trans (bt.below (by omega) B2.size)⟩
      clear l0 l1 l2 l3 l4 l5 S2 B2 bt S3 hb2 HN N0 N1 N2 N3 N4 N5 HS HB
      go_wp2
      go_roundw
      case rel => exact ⟨3, by omega, by go_num, rfl, HS3.out.1, HS3.out.2⟩
      case measure => simp [intOf]
    · have HS : Hid (Sm6 wr w.heap.size (.slice a1 a2 a3) (.slice b1 b2 b3) (.slice d1 d2 d3) (.slice e1 e2 e3) (.slice f1 f2 f3) (.slice j1 j2 j3) kp ka kb 0 0 0) := hs
      obtain ⟨⟨l0, l1, l2, l3, l4, l5⟩, -⟩ := row6 HS.out.l
      have HN := N3 wr HB.out
      clear hs
      go_wp2_with fail
      refine HN.mono ?_
      rintro e w2 ⟨rfl, hb2⟩
      have S2 := HS.out.keep hb2
      have B2 := HB.out.trans (hb2.mono HB.out.size)
      obtain ⟨⟨x0, x1, x2, x3, x4, x5⟩, y0, y1, y2, y3, y4, y5⟩ := row6 S2.a
      have bt := Bt.setCell (w.heap.size + 1 + 1 + 1 + 1) w2 3 (.int .i64 kx)
      have S3 : Sm6 (w2.setCell ⟨w.heap.size + 1 + 1 + 1 + 1, 3, none⟩ (.int .i64 kx)) w.heap.size (.slice a1 a2 a3) (.slice b1 b2 b3) (.slice d1 d2 d3) (.slice e1 e2 e3) (.slice f1 f2 f3) (.slice j1 j2 j3) kp ka kb kx 0 0 := ⟨bt_blk bt S2.r (by omega), bt_blk bt S2.o (by omega), bt_blk bt S2.l (by omega), heap_set7 w2 _ 3 (.int .i64 kx) _ _ _ S2.a⟩
      have HS3 : Hid (_ ∧ _) := ⟨S3, B2.trans (bt.below (by omega) B2.size)⟩
      clear l0 l1 l2 l3 l4 l5 S2 B2 bt S3 hb2 HN N0 N1 N2 N3 N4 N5 HS HB
      go_wp2
      go_roundw
      case rel => exact ⟨4, by omega, by go_num, rfl, HS3.out.1, HS3.out.2⟩
      case measure => simp [intOf]
    · have HS : Hid (Sm6 wr w.heap.size (.slice a1 a2 a3) (.slice b1 b2 b3) (.slice d1 d2 d3) (.slice e1 e2 e3) (.slice f1 f2 f3) (.slice j1 j2 j3) kp ka kb kx 0 0) := hs
      obtain ⟨⟨l0, l1, l2, l3, l4, l5⟩, -⟩ := row6 HS.out.l
      have HN := N4 wr HB.out
      clear hs
      go_wp2_with fail
      refine HN.mono ?_
      rintro e w2 ⟨rfl, hb2⟩
      have S2 := HS.out.keep hb2
      have B2 := HB.out.trans (hb2.mono HB.out.size)
      obtain ⟨⟨x0, x1, x2, x3, x4, x5⟩, y0, y1, y2, y3, y4, y5⟩ := row6 S2.a
      have bt := Bt.setCell (w.heap.size + 1 + 1 + 1 + 1) w2 4 (.int .i64 ky)
      have S3 : Sm6 (w2.setCell ⟨w.heap.size + 1 + 1 + 1 + 1, 4, none⟩ (.int .i64 ky)) w.heap.size (.slice a1 a2 a3) (.slice b1 b2 b3) (.slice d1 d2 d3) (.slice e1 e2 e3) (.slice f1 f2 f3) (.slice j1 j2 j3) kp ka kb kx ky 0 := ⟨bt_blk bt S2.r (by omega), bt_blk bt S2.o (by omega), bt_blk bt S2.l (by omega), heap_set7 w2 _ 4 (.int .i64 ky) _ _ _ S2.a⟩
      have HS3 : Hid (_ ∧ _) := ⟨S3, B2.trans (bt.below (by omega) B2.size)⟩
      clear l0 l1 l2 l3 l4 l5 S2 B2 bt S3 hb2 HN N0 N1 N2 N3 N4 N5 HS HB
      go_wp2
      go_roundw
      case rel => exact ⟨5, by omega, by go_num, rfl, HS3.out.1, HS3.out.2⟩
      case measure => simp [intOf]
    · have HS : Hid (Sm6 wr w.heap.size (.slice a1 a2 a3) (.slice b1 b2 b3) (.slice d1 d2 d3) (.slice e1 e2 e3) (.slice f1 f2 f3) (.slice j1 j2 j3) kp ka kb kx ky 0) := hs
      obtain ⟨⟨l0, l1, l2, l3, l4, l5⟩, -⟩ := row6 HS.out.l
      have HN := N5 wr HB.out
      clear hs
      go_wp2_with fail
      refine HN.mono ?_
      rintro e w2 ⟨rfl, hb2⟩
      have S2 := HS.out.keep hb2
      have B2 := HB.out.trans (hb2.mono HB.out.size)
      obtain ⟨⟨x0, x1, x2, x3, x4, x5⟩, y0, y1, y2, y3, y4, y5⟩ := row6 S2.a
      have bt := Bt.setCell (w.heap.size + 1 + 1 + 1 + 1) w2 5 (.int .i64 kn)
      have S3 : Sm6 (w2.setCell ⟨w.heap.size + 1 + 1 + 1 + 1, 5, none⟩ (.int .i64 kn)) w.heap.size (.slice a1 a2 a3) (.slice b1 b2 b3) (.slice d1 d2 d3) (.slice e1 e2 e3) (.slice f1 f2 f3) (.slice j1 j2 j3) kp ka kb kx ky kn := ⟨bt_blk bt S2.r (by omega), bt_blk bt S2.o (by omega), bt_blk bt S2.l (by omega), heap_set7 w2 _ 5 (.int .i64 kn) _ _ _ S2.a⟩
      have HS3 : Hid (_ ∧ _) := ⟨S3, B2.trans (bt.below (by omega) B2.size)⟩
      clear l0 l1 l2 l3 l4 l5 S2 B2 bt S3 hb2 HN N0 N1 N2 N3 N4 N5 HS HB
      go_wp2
      go_roundw
      case rel => exact ⟨6, by omega, by go_num, rfl, HS3.out.1, HS3.out.2⟩
      case measure => simp [intOf]
    · have HS : Hid (Sm6 wr w.heap.size (.slice a1 a2 a3) (.slice b1 b2 b3) (.slice d1 d2 d3) (.slice e1 e2 e3) (.slice f1 f2 f3) (.slice j1 j2 j3) kp ka kb kx ky kn) := hs
      obtain ⟨⟨x0, x1, x2, x3, x4, x5⟩, y0, y1, y2, y3, y4, y5⟩ := row6 HS.out.a
      obtain ⟨⟨o0, o1, o2, o3, o4, o5⟩, p0, p1, p2, p3, p4, p5⟩ := row6 HS.out.o
      obtain ⟨⟨r0, r1, r2, r3, r4, r5⟩, q0, q1, q2, q3, q4, q5⟩ := row6 HS.out.r
      clear hs N0 N1 N2 N3 N4 N5
      have R2 := row_set6 (bt_blk (bt_set6 wr (w.heap.size + 1 + 1) (.int .i64 kp) (.int .i64 ka) (.int .i64 kb) (.int .i64 kx) (.int .i64 ky) (.int .i64 kn)) HS.out.r (by omega)) (.int .i64 kp) (.int .i64 ka) (.int .i64 kb) (.int .i64 kx) (.int .i64 ky) (.int .i64 kn)
      have b1 := HB.out.trans ((bt_set6 wr (w.heap.size + 1 + 1) (.int .i64 kp) (.int .i64 ka) (.int .i64 kb) (.int .i64 kx) (.int .i64 ky) (.int .i64 kn)).below (by omega) HB.out.size)
      have b2 := b1.trans ((bt_set6 _ (w.heap.size + 1) (.int .i64 kp) (.int .i64 ka) (.int .i64 kb) (.int .i64 kx) (.int .i64 ky) (.int .i64 kn)).below (by omega) b1.size)
      have HR : Hid (_ ∧ _) := ⟨R2, b2⟩
      clear R2 b1 b2
      go_wp2
      refine bodyPost_ret (ret_cv rfl _ _ _ _ _ _ _ _ _ rfl HR.out.1) rfl ?_
      exact ⟨rfl, HR.out.2⟩
end Go.Proofs.Yticopomchoahnaa
/-
  The signers: which curve, which secret.
-/
namespace Go.Proofs.Yticopomchoahnaa
open Go.RowKit Go.Shelf
set_option linter.unusedVariables false
set_option linter.unusedSimpArgs false

/-- A signer's curve. -/
def sgC (k : Int) : Int := if k % 16 = 15 then -1 else k % 3
set_option maxHeartbeats 1000000 in
theorem sgCurve_any (k s : Int) (hk : 0 ≤ k ∧ k < 256) (w : World) : Calls Try.prog 13 #[.agg #[.int .u8 k, .int .u8 s]] w fun e w' => e = .returned (.int .i64 (sgC k)) ∧ Below w.heap.size w w' := by
  have b0 := balloc w (.cells #[.int .u8 k, .int .u8 s] 23)
  have t1 : k.tmod 16 = k % 16 := Int.tmod_eq_emod_of_nonneg hk.1
  have t2 : k.tmod 3 = k % 3 := Int.tmod_eq_emod_of_nonneg hk.1
  obtain ⟨a, ha⟩ : ∃ a, k % 16 = a := ⟨_, rfl⟩
  obtain ⟨b, hb⟩ : ∃ b, k % 3 = b := ⟨_, rfl⟩
  have ra : 0 ≤ a ∧ a < 16 := by omega
  have rb : 0 ≤ b ∧ b < 3 := by omega
  unfold sgC
  rw [ha] at t1 ⊢
  rw [hb] at t2 ⊢
  have wa : IntKind.u8.wrap a = a := by simp [IntKind.wrap, IntKind.bits, IntKind.signed]; omega
  have wb : IntKind.u8.wrap b = b := by simp [IntKind.wrap, IntKind.bits, IntKind.signed]; omega
  have wb2 : IntKind.i64.wrap b = b := IntWalk.i64_in _ (by omega)
  have HB : Hid (Below w.heap.size w _) := b0
  by_cases h : a = 15
  · rw [if_pos h]
    subst h
    clear ha hb ra rb b0
    go_enter Try.func13, Try.ntmps13
    go_wp2
    go_ret
    exact ⟨rfl, HB.out⟩
  · rw [if_neg h]
    have h1 : (a == 15) = false := by simp [h]
    clear ha hb ra rb b0
    go_enter Try.func13, Try.ntmps13
    go_wp2
    go_ret
    exact ⟨rfl, HB.out⟩
set_option maxHeartbeats 1000000 in
theorem sgSecret_any (k s : Int) (hs : 0 ≤ s ∧ s < 256) (w : World) : Calls Try.prog 24 #[.agg #[.int .u8 k, .int .u8 s]] w fun e w' => e = .returned (.int .i64 (1 + s)) ∧ Below w.heap.size w w' := by
  have b0 := balloc w (.cells #[.int .u8 k, .int .u8 s] 23)
  have w1 : IntKind.i64.wrap s = s := IntWalk.i64_in _ (by omega)
  have w2 : IntKind.i64.wrap (1 + s) = 1 + s := IntWalk.i64_in _ (by omega)
  have HB : Hid (Below w.heap.size w _) := b0
  clear b0
  go_enter Try.func24, Try.ntmps24
  go_wp2
  go_ret
  exact ⟨rfl, HB.out⟩
/-- A fact that stands while memory is made; and, if it says so, while a store S is done. -/
structure Fg (S : World → World → Prop) where
  sem : List Value → World → Prop
  keep : ∀ vs w w', Below w.heap.size w w' → sem vs w → sem vs w'
  store : ∀ vs w w', S w w' → sem vs w → sem vs w'
def Fg.eq {S : World → World → Prop} (e : Value) : Fg S := ⟨fun vs _ => vs.getD 0 undef = e, fun _ _ _ _ h => h, fun _ _ _ _ h => h⟩
theorem fg_keep {S : World → World → Prop} (fs : List (Fg S)) (j : Nat) (vs : List Value) {w w' : World} (hb : Below w.heap.size w w') (h : (fs.map Fg.sem).getD j (fun _ _ => True) vs w) : (fs.map Fg.sem).getD j (fun _ _ => True) vs w' := by
  rw [List.getD_eq_getElem?_getD, List.getElem?_map] at h ⊢
  cases hf : fs[j]? with
  | none => trivial
  | some f => rw [hf] at h; exact f.keep vs w w' hb h
theorem fg_store {S : World → World → Prop} (fs : List (Fg S)) (j : Nat) (vs : List Value) {w w' : World} (hs : S w w') (h : (fs.map Fg.sem).getD j (fun _ _ => True) vs w) : (fs.map Fg.sem).getD j (fun _ _ => True) vs w' := by
  rw [List.getD_eq_getElem?_getD, List.getElem?_map] at h ⊢
  cases hf : fs[j]? with
  | none => trivial
  | some f => rw [hf] at h; exact f.store vs w w' hs h
section
variable {ops : Array Oper} {S : World → World → Prop}
theorem GInv.growG {rd : List (List Nat)} {fs : List (Fg S)} {a0 : Act} {w0 : World} {listed : Array Bool} {a : Act} {w : World} (h : GInv .any ops rd (fs.map Fg.sem) a0 w0 listed a w) {i : Nat} {dst : Option Tmp} {KK : Act → World → Prop}
    (hK : ∀ v w', Below w0.heap.size w0 w' → (∀ j vs, listed.getD j false = true → (fs.map Fg.sem).getD j (fun _ _ => True) vs w → (fs.map Fg.sem).getD j (fun _ _ => True) vs w') → (fs.map Fg.sem).getD i (fun _ _ => True) ((rd.getD i []).map fun s => (a.put dst v).tmps.getD s undef) w' → KK (a.put dst v) w') (v : Value) (w' : World) (hb : Below w.heap.size w w') (hf : (fs.map Fg.sem).getD i (fun _ _ => True) ((rd.getD i []).map fun s => (a.put dst v).tmps.getD s undef) w') : KK (a.put dst v) w' :=
  hK v w' (h.below.trans (hb.mono h.below.size)) (fun j vs _ hj => fg_keep fs j vs hb hj) hf
end
/-- The cells of a key that is not yet one. -/
def KyB (w : World) (r : Nat) (x3 x4 x5 x6 : Value) (k c : Int) (b : Bool) : Prop := w.heap[r]? = some (.cells #[.int .u8 k, .int .i64 c, x3, x4, .bool b, x5, x6] 35 (0, 0))
theorem Nv.apartK {w w' : World} {v : Value} {n : Int} {L r : Nat} {a1 a2 a3 a4 : Option Addr} {l1 k1 l2 k2 l3 k3 l4 k4 : Nat} {k c : Int} {b : Bool} (h : Nv w v n L) (hs : KyB w r (.slice a1 l1 k1) (.slice a2 l2 k2) (.slice a3 l3 k3) (.slice a4 l4 k4) k c b) (hb : Bt r w w') : Nv w' v n L := by
  obtain ⟨ao, len, cap, xs, e, h1, h2, h3⟩ := h
  refine ⟨ao, len, cap, xs, e, ⟨⟨h1.len, ?_⟩, h1.lc, h1.cm, h1.nn, h1.dg, h1.sm⟩, h2, h3⟩
  by_cases h0 : len = 0
  · exact .inl h0
  · obtain ⟨b', off, e2, hlt, hc⟩ := h1.lies.at (by omega)
    have hne : b' ≠ r := fun e3 => by
      subst e3
      have h4 := hc 0 (by omega)
      rw [cell_of_row _ _ _ _ _ _ hs] at h4
      obtain ⟨o, ho⟩ : ∃ o, off + 0 = o := ⟨_, rfl⟩
      rw [ho] at h4
      match o, h4 with
      | 0, h4 => cases h4
      | 1, h4 => cases h4
      | 2, h4 => cases h4
      | 3, h4 => cases h4
      | 4, h4 => cases h4
      | 5, h4 => cases h4
      | 6, h4 => cases h4
      | k + 7, h4 => simp at h4
    exact .inr ⟨b', off, e2, Nat.lt_of_lt_of_le hlt hb.size, fun i hi => (World.cell?_of_block (w := w) (hb.block b' hlt hne)).trans (hc i hi)⟩
theorem row7 {W : World} {b : Nat} {c0 c1 c2 c3 c4 c5 c6 : Value} {t : TypeId} (h : W.heap[b]? = some (.cells #[c0, c1, c2, c3, c4, c5, c6] t (0, 0))) : (W.cell? ⟨b, 0, none⟩ = some c0 ∧ W.cell? ⟨b, 1, none⟩ = some c1 ∧ W.cell? ⟨b, 2, none⟩ = some c2 ∧ W.cell? ⟨b, 3, none⟩ = some c3 ∧ W.cell? ⟨b, 4, none⟩ = some c4 ∧ W.cell? ⟨b, 5, none⟩ = some c5 ∧ W.cell? ⟨b, 6, none⟩ = some c6) ∧ W.frozen? ⟨b, 0, none⟩ = false ∧ W.frozen? ⟨b, 1, none⟩ = false ∧ W.frozen? ⟨b, 2, none⟩ = false ∧ W.frozen? ⟨b, 3, none⟩ = false ∧ W.frozen? ⟨b, 4, none⟩ = false ∧ W.frozen? ⟨b, 5, none⟩ = false ∧ W.frozen? ⟨b, 6, none⟩ = false := by
  refine ⟨⟨?_, ?_, ?_, ?_, ?_, ?_, ?_⟩, frozen_of_row W b 0 _ _ h, frozen_of_row W b 1 _ _ h, frozen_of_row W b 2 _ _ h, frozen_of_row W b 3 _ _ h, frozen_of_row W b 4 _ _ h, frozen_of_row W b 5 _ _ h, frozen_of_row W b 6 _ _ h⟩ <;> (rw [cell_of_row _ _ _ _ _ _ h]; rfl)
abbrev set7 (W : World) (g : Nat) (d0 d1 d2 d3 d4 d5 d6 : Value) : World := ((((((W.setCell ⟨g, 0, none⟩ d0).setCell ⟨g, 1, none⟩ d1).setCell ⟨g, 2, none⟩ d2).setCell ⟨g, 3, none⟩ d3).setCell ⟨g, 4, none⟩ d4).setCell ⟨g, 5, none⟩ d5).setCell ⟨g, 6, none⟩ d6
theorem bt_set7 (W : World) (g : Nat) (d0 d1 d2 d3 d4 d5 d6 : Value) : Bt g W (set7 W g d0 d1 d2 d3 d4 d5 d6) := ((((((Bt.setCell g W 0 d0).trans (Bt.setCell g _ 1 d1)).trans (Bt.setCell g _ 2 d2)).trans (Bt.setCell g _ 3 d3)).trans (Bt.setCell g _ 4 d4)).trans (Bt.setCell g _ 5 d5)).trans (Bt.setCell g _ 6 d6)
theorem row_set7 {W : World} {g : Nat} {c0 c1 c2 c3 c4 c5 c6 : Value} {t : TypeId} (h : W.heap[g]? = some (.cells #[c0, c1, c2, c3, c4, c5, c6] t (0, 0))) (d0 d1 d2 d3 d4 d5 d6 : Value) : (set7 W g d0 d1 d2 d3 d4 d5 d6).heap[g]? = some (.cells #[d0, d1, d2, d3, d4, d5, d6] t (0, 0)) := by
  show ((((((((W.setCell ⟨g, 0, none⟩ d0).setCell ⟨g, 1, none⟩ d1).setCell ⟨g, 2, none⟩ d2).setCell ⟨g, 3, none⟩ d3).setCell ⟨g, 4, none⟩ d4).setCell ⟨g, 5, none⟩ d5).setCell ⟨g, 6, none⟩ d6)).heap[g]? = _
  have h1 : (W.setCell ⟨g, 0, none⟩ d0).heap[g]? = some (.cells #[d0, c1, c2, c3, c4, c5, c6] t (0, 0)) := heap_set7 W g 0 d0 _ _ _ h
  obtain ⟨W1, e1⟩ : ∃ WW : World, W.setCell ⟨g, 0, none⟩ d0 = WW := ⟨_, rfl⟩
  rw [e1] at h1 ⊢
  have h2 : (W1.setCell ⟨g, 1, none⟩ d1).heap[g]? = some (.cells #[d0, d1, c2, c3, c4, c5, c6] t (0, 0)) := heap_set7 W1 g 1 d1 _ _ _ h1
  obtain ⟨W2, e2⟩ : ∃ WW : World, W1.setCell ⟨g, 1, none⟩ d1 = WW := ⟨_, rfl⟩
  rw [e2] at h2 ⊢
  have h3 : (W2.setCell ⟨g, 2, none⟩ d2).heap[g]? = some (.cells #[d0, d1, d2, c3, c4, c5, c6] t (0, 0)) := heap_set7 W2 g 2 d2 _ _ _ h2
  obtain ⟨W3, e3⟩ : ∃ WW : World, W2.setCell ⟨g, 2, none⟩ d2 = WW := ⟨_, rfl⟩
  rw [e3] at h3 ⊢
  have h4 : (W3.setCell ⟨g, 3, none⟩ d3).heap[g]? = some (.cells #[d0, d1, d2, d3, c4, c5, c6] t (0, 0)) := heap_set7 W3 g 3 d3 _ _ _ h3
  obtain ⟨W4, e4⟩ : ∃ WW : World, W3.setCell ⟨g, 3, none⟩ d3 = WW := ⟨_, rfl⟩
  rw [e4] at h4 ⊢
  have h5 : (W4.setCell ⟨g, 4, none⟩ d4).heap[g]? = some (.cells #[d0, d1, d2, d3, d4, c5, c6] t (0, 0)) := heap_set7 W4 g 4 d4 _ _ _ h4
  obtain ⟨W5, e5⟩ : ∃ WW : World, W4.setCell ⟨g, 4, none⟩ d4 = WW := ⟨_, rfl⟩
  rw [e5] at h5 ⊢
  have h6 : (W5.setCell ⟨g, 5, none⟩ d5).heap[g]? = some (.cells #[d0, d1, d2, d3, d4, d5, c6] t (0, 0)) := heap_set7 W5 g 5 d5 _ _ _ h5
  obtain ⟨W6, e6⟩ : ∃ WW : World, W5.setCell ⟨g, 5, none⟩ d5 = WW := ⟨_, rfl⟩
  rw [e6] at h6 ⊢
  have h7 : (W6.setCell ⟨g, 6, none⟩ d6).heap[g]? = some (.cells #[d0, d1, d2, d3, d4, d5, d6] t (0, 0)) := heap_set7 W6 g 6 d6 _ _ _ h6
  exact h7
theorem sizeKy : (Try.prog.info? 35).map (·.size) = some 7 := by kernel_rfl
theorem ret_ky {fn : Func} {p : Tmp} (h : fn.results = #[.cell p 35]) (tmps : Array Value) (w : World) (g : Nat) (c0 c1 c2 c3 c4 c5 c6 : Value) (hp : tmps.getD p undef = .pointer (some ⟨g, 0, none⟩)) (hg : w.heap[g]? = some (.cells #[c0, c1, c2, c3, c4, c5, c6] 35 (0, 0))) :
    (results fn tmps).run Try.prog w = .ok (.agg #[c0, c1, c2, c3, c4, c5, c6]) w :=
  results_cell_row h tmps w g 35 _ (0, 0) _ hp hg Try.underlying35 rfl sizeKy
end Go.Proofs.Yticopomchoahnaa
/-
  Facts for a region that stores a curve in a box of its own.
-/
namespace Go.Proofs.Yticopomchoahnaa
open Go.RowKit Go.Shelf
set_option linter.unusedVariables false
set_option linter.unusedSimpArgs false

def isSl (v : Value) : Prop := ∃ a l k, v = .slice a l k
/-- A block that has a curve's form. -/
def Sh9 (W : World) (b : Nat) : Prop := ∃ (i1 i2 : Int) (c2 c3 c4 c5 c6 c7 c8 : Value), W.heap[b]? = some (.cells #[.int .i64 i1, .int .i64 i2, c2, c3, c4, c5, c6, c7, c8] 69 (0, 0)) ∧ isSl c2 ∧ isSl c3 ∧ isSl c4 ∧ isSl c5 ∧ isSl c6 ∧ isSl c7 ∧ isSl c8
theorem Sh9.lt {W : World} {b : Nat} (h : Sh9 W b) : b < W.heap.size := by
  obtain ⟨i1, i2, c2, c3, c4, c5, c6, c7, c8, h, _⟩ := h
  exact (Array.getElem?_eq_some_iff.1 h).1
theorem Sh9.keep {W W' : World} {b : Nat} (h : Sh9 W b) (hb : Below W.heap.size W W') : Sh9 W' b := by
  obtain ⟨i1, i2, c2, c3, c4, c5, c6, c7, c8, h, h'⟩ := h
  exact ⟨i1, i2, c2, c3, c4, c5, c6, c7, c8, blk_old h hb, h'⟩
theorem Nv.apart9 {w w' : World} {v : Value} {n : Int} {L r : Nat} (h : Nv w v n L) (hs : Sh9 w r) (hb : Bt r w w') : Nv w' v n L := by
  obtain ⟨ao, len, cap, xs, e, h1, h2, h3⟩ := h
  obtain ⟨i1, i2, c2, c3, c4, c5, c6, c7, c8, hr, ⟨_, _, _, rfl⟩, ⟨_, _, _, rfl⟩, ⟨_, _, _, rfl⟩, ⟨_, _, _, rfl⟩, ⟨_, _, _, rfl⟩, ⟨_, _, _, rfl⟩, ⟨_, _, _, rfl⟩⟩ := hs
  refine ⟨ao, len, cap, xs, e, ⟨⟨h1.len, ?_⟩, h1.lc, h1.cm, h1.nn, h1.dg, h1.sm⟩, h2, h3⟩
  by_cases h0 : len = 0
  · exact .inl h0
  · obtain ⟨b', off, e2, hlt, hc⟩ := h1.lies.at (by omega)
    have hne : b' ≠ r := fun e3 => by
      subst e3
      have h4 := hc 0 (by omega)
      rw [cell_of_row _ _ _ _ _ _ hr] at h4
      obtain ⟨o, ho⟩ : ∃ o, off + 0 = o := ⟨_, rfl⟩
      rw [ho] at h4
      match o, h4 with
      | 0, h4 => cases h4
      | 1, h4 => cases h4
      | 2, h4 => cases h4
      | 3, h4 => cases h4
      | 4, h4 => cases h4
      | 5, h4 => cases h4
      | 6, h4 => cases h4
      | 7, h4 => cases h4
      | 8, h4 => cases h4
      | k + 9, h4 => simp at h4
    exact .inr ⟨b', off, e2, Nat.lt_of_lt_of_le hlt hb.size, fun i hi => (World.cell?_of_block (w := w) (hb.block b' hlt hne)).trans (hc i hi)⟩
theorem Cu.apart9 {w w' : World} {c : Value} {K : Cz} {L r : Nat} (h : Cu w c K L) (hs : Sh9 w r) (hb : Bt r w w') : Cu w' c K L := by
  obtain ⟨g1, g2, oo, lo, co, vp, va, vb, vx, vy, vn, e, h1, h2, h3, h4, h5, h6⟩ := h
  exact ⟨g1, g2, oo, lo, co, vp, va, vb, vx, vy, vn, e, h1.apart9 hs hb, h2.apart9 hs hb, h3.apart9 hs hb, h4.apart9 hs hb, h5.apart9 hs hb, h6.apart9 hs hb⟩
/-- A fact that stands while memory is made; and, if it says so, while a curve's box is filled. -/
structure Fh where
  sem : List Value → World → Prop
  keep : ∀ vs w w', Below w.heap.size w w' → sem vs w → sem vs w'
  ok' : Bool
  store : ok' = true → ∀ vs w w' r, Sh9 w r → Sh9 w' r → Bt r w w' → sem vs w → sem vs w'
def Fh.eq (e : Value) : Fh := ⟨fun vs _ => vs.getD 0 undef = e, fun _ _ _ _ h => h, true, fun _ _ _ _ _ _ _ _ h => h⟩
/-- A fact of values alone. -/
def Fh.pu (p : List Value → Prop) : Fh := ⟨fun vs _ => p vs, fun _ _ _ _ h => h, true, fun _ _ _ _ _ _ _ _ h => h⟩
def Fh.same : Fh := ⟨fun vs _ => vs.getD 0 undef = vs.getD 1 undef, fun _ _ _ _ h => h, true, fun _ _ _ _ _ _ _ _ h => h⟩
def Fh.nv (n : Int) (L : Nat) : Fh := ⟨fun vs W => Nv W (vs.getD 0 undef) n L, fun _ _ _ hb h => h.old hb, true, fun _ _ _ _ _ hs _ hb h => h.apart9 hs hb⟩
/-- The curves, the j-th of them told. -/
structure CuJ (W : World) (g j : Nat) (K : Cz) (g1 g2 : Int) (oo : Option Addr) (lo co : Nat) (b0 b1 b2 b3 b4 b5 : Nat) : Prop where
  big : ∃ cur t fr, W.heap[g]? = some (.cells cur t fr) ∧ 9 < cur.size
  at' : CuAt W g (j * 9) g1 g2 oo lo co b0 b1 b2 b3 b4 b5
  cu : Cu W (curV g1 g2 oo lo co b0 b1 b2 b3 b4 b5) K 1
theorem CuJ.keep {W W' : World} {g j : Nat} {K : Cz} {g1 g2 : Int} {oo : Option Addr} {lo co b0 b1 b2 b3 b4 b5 : Nat} (h : CuJ W g j K g1 g2 oo lo co b0 b1 b2 b3 b4 b5) (hb : Below W.heap.size W W') : CuJ W' g j K g1 g2 oo lo co b0 b1 b2 b3 b4 b5 := by
  obtain ⟨⟨cur, t, fr, h1, h2⟩, h3, h4⟩ := h
  exact ⟨⟨cur, t, fr, blk_old h1 hb, h2⟩, h3.keep hb, h4.old hb⟩
theorem CuJ.store {W W' : World} {g j r : Nat} {K : Cz} {g1 g2 : Int} {oo : Option Addr} {lo co b0 b1 b2 b3 b4 b5 : Nat} (h : CuJ W g j K g1 g2 oo lo co b0 b1 b2 b3 b4 b5) (hs : Sh9 W r) (hb : Bt r W W') : CuJ W' g j K g1 g2 oo lo co b0 b1 b2 b3 b4 b5 := by
  obtain ⟨⟨cur, t, fr, h1, h2⟩, h3, h4⟩ := h
  have hne : g ≠ r := fun e => by
    subst e
    obtain ⟨i1, i2, c2, c3, c4, c5, c6, c7, c8, hr, _⟩ := hs
    rw [h1] at hr
    injection hr with hr
    injection hr with hr _ _
    rw [hr] at h2
    simp at h2
  have hlt := (Array.getElem?_eq_some_iff.1 h1).1
  have hk : ∀ (i : Nat) (x : Value), W.cell? ⟨g, i, none⟩ = some x → W'.cell? ⟨g, i, none⟩ = some x := fun i x hx => (World.cell?_of_block (w := W) (hb.block g hlt hne)).trans hx
  exact ⟨⟨cur, t, fr, (hb.block g hlt hne).trans h1, h2⟩, ⟨hk _ _ h3.c0, hk _ _ h3.c1, hk _ _ h3.c2, hk _ _ h3.c3, hk _ _ h3.c4, hk _ _ h3.c5, hk _ _ h3.c6, hk _ _ h3.c7, hk _ _ h3.c8⟩, h4.apart9 hs hb⟩
def Fh.cl (j : Nat) (K : Cz) : Fh := ⟨fun vs W => ∃ g cap g1 g2 oo lo co b0 b1 b2 b3 b4 b5, vs.getD 0 undef = .slice (some ⟨g, 0, none⟩) 3 cap ∧ 3 ≤ cap ∧ cap ≤ maxLen ∧ CuJ W g j K g1 g2 oo lo co b0 b1 b2 b3 b4 b5, fun vs w w' hb h => by
  obtain ⟨g, cap, g1, g2, oo, lo, co, b0, b1, b2, b3, b4, b5, h1, h2, h3, h4⟩ := h
  exact ⟨g, cap, g1, g2, oo, lo, co, b0, b1, b2, b3, b4, b5, h1, h2, h3, h4.keep hb⟩, true, fun _ vs w w' r hs _ hb h => by
  obtain ⟨g, cap, g1, g2, oo, lo, co, b0, b1, b2, b3, b4, b5, h1, h2, h3, h4⟩ := h
  exact ⟨g, cap, g1, g2, oo, lo, co, b0, b1, b2, b3, b4, b5, h1, h2, h3, h4.store hs hb⟩⟩
def Fh.ix (j : Nat) : Fh := ⟨fun vs _ => ∃ g cap, vs.getD 1 undef = .slice (some ⟨g, 0, none⟩) 3 cap ∧ vs.getD 0 undef = .pointer (some ⟨g, j * 9, none⟩), fun _ _ _ _ h => h, true, fun _ _ _ _ _ _ _ _ h => h⟩
def Fh.cu (K : Cz) : Fh := ⟨fun vs W => Cu W (vs.getD 0 undef) K 1, fun _ _ _ hb h => h.old hb, true, fun _ _ _ _ _ hs _ hb h => h.apart9 hs hb⟩
def Fh.box (B : Nat) : Fh := ⟨fun vs W => ∃ b, vs.getD 0 undef = .pointer (some ⟨b, 0, none⟩) ∧ B ≤ b ∧ Sh9 W b, fun vs w w' hb h => by
  obtain ⟨b, h1, h2, h3⟩ := h
  exact ⟨b, h1, h2, h3.keep hb⟩, true, fun _ vs w w' r hs hs' hb h => by
  obtain ⟨b, h1, h2, h3⟩ := h
  by_cases hg : b = r
  · subst hg
    exact ⟨b, h1, h2, hs'⟩
  · obtain ⟨i1, i2, c2, c3, c4, c5, c6, c7, c8, hr, h'⟩ := h3
    exact ⟨b, h1, h2, i1, i2, c2, c3, c4, c5, c6, c7, c8, (hb.block b (Array.getElem?_eq_some_iff.1 hr).1 hg).trans hr, h'⟩⟩
def Fh.sto (B : Nat) (K : Cz) : Fh := ⟨fun vs W => ∃ b cs, vs.getD 0 undef = .pointer (some ⟨b, 0, none⟩) ∧ B ≤ b ∧ W.heap[b]? = some (.cells cs 69 (0, 0)) ∧ Cu W (.agg cs) K 1, fun vs w w' hb h => by
  obtain ⟨b, cs, h1, h2, h3, h4⟩ := h
  exact ⟨b, cs, h1, h2, blk_old h3 hb, h4.old hb⟩, false, fun h => by cases h⟩
theorem fh_keep (fs : List Fh) (j : Nat) (vs : List Value) {w w' : World} (hb : Below w.heap.size w w') (h : (fs.map Fh.sem).getD j (fun _ _ => True) vs w) : (fs.map Fh.sem).getD j (fun _ _ => True) vs w' := by
  rw [List.getD_eq_getElem?_getD, List.getElem?_map] at h ⊢
  cases hf : fs[j]? with
  | none => trivial
  | some f => rw [hf] at h; exact f.keep vs w w' hb h
theorem fh_store (fs : List Fh) (j : Nat) (vs : List Value) {w w' : World} {r : Nat} (hs : Sh9 w r) (hs' : Sh9 w' r) (hb : Bt r w w') (hf : (fs.map Fh.ok').getD j true = true) (h : (fs.map Fh.sem).getD j (fun _ _ => True) vs w) : (fs.map Fh.sem).getD j (fun _ _ => True) vs w' := by
  rw [List.getD_eq_getElem?_getD, List.getElem?_map] at h hf ⊢
  cases hq : fs[j]? with
  | none => trivial
  | some f => rw [hq] at h hf; exact f.store hf vs w w' r hs hs' hb h
theorem fh_but (i : Nat) (fs : List Fh) (h : (List.range fs.length).all (fun j => decide (j = i) || (fs.map Fh.ok').getD j true) = true) : ∀ j, j ≠ i → (fs.map Fh.ok').getD j true = true := by
  intro j hj
  rw [List.all_eq_true] at h
  by_cases hl : j < fs.length
  · have := h j (List.mem_range.2 hl)
    rw [Bool.or_eq_true] at this
    rcases this with this | this
    · exact absurd (by simpa using this) hj
    · exact this
  · rw [List.getD_eq_getElem?_getD, List.getElem?_eq_none (by simpa using Nat.le_of_not_lt hl)]
    rfl
section
variable {ops : Array Oper}
theorem GInv.growH {rd : List (List Nat)} {fs : List Fh} {a0 : Act} {w0 : World} {listed : Array Bool} {a : Act} {w : World} (h : GInv .any ops rd (fs.map Fh.sem) a0 w0 listed a w) {i : Nat} {dst : Option Tmp} {KK : Act → World → Prop}
    (hK : ∀ v w', Below w0.heap.size w0 w' → (∀ j vs, listed.getD j false = true → (fs.map Fh.sem).getD j (fun _ _ => True) vs w → (fs.map Fh.sem).getD j (fun _ _ => True) vs w') → (fs.map Fh.sem).getD i (fun _ _ => True) ((rd.getD i []).map fun s => (a.put dst v).tmps.getD s undef) w' → KK (a.put dst v) w') (v : Value) (w' : World) (hb : Below w.heap.size w w') (hf : (fs.map Fh.sem).getD i (fun _ _ => True) ((rd.getD i []).map fun s => (a.put dst v).tmps.getD s undef) w') : KK (a.put dst v) w' :=
  hK v w' (h.below.trans (hb.mono h.below.size)) (fun j vs _ hj => fh_keep fs j vs hb hj) hf
theorem GInv.fillH {rd : List (List Nat)} {fs : List Fh} {a0 : Act} {w0 : World} {listed : Array Bool} {a : Act} {w : World} (h : GInv .any ops rd (fs.map Fh.sem) a0 w0 listed a w) {i : Nat} {dst : Option Tmp} {KK : Act → World → Prop}
    (hK : ∀ v w', Below w0.heap.size w0 w' → (∀ j vs, listed.getD j false = true → (fs.map Fh.sem).getD j (fun _ _ => True) vs w → (fs.map Fh.sem).getD j (fun _ _ => True) vs w') → (fs.map Fh.sem).getD i (fun _ _ => True) ((rd.getD i []).map fun s => (a.put dst v).tmps.getD s undef) w' → KK (a.put dst v) w') (hli : listed.getD i false = false) (v : Value) (w' : World) (r : Nat) (hr : w0.heap.size ≤ r) (hs : Sh9 w r) (hs' : Sh9 w' r) (hb : Bt r w w') (hbx : ∀ j, j ≠ i → (fs.map Fh.ok').getD j true = true) (hf : (fs.map Fh.sem).getD i (fun _ _ => True) ((rd.getD i []).map fun s => (a.put dst v).tmps.getD s undef) w') : KK (a.put dst v) w' :=
  hK v w' (h.below.trans (hb.below hr h.below.size)) (fun j vs hl hj => fh_store fs j vs hs hs' hb (hbx j (by rintro rfl; rw [hli] at hl; cases hl)) hj) hf
end
theorem row9 {W : World} {b : Nat} {c0 c1 c2 c3 c4 c5 c6 c7 c8 : Value} {t : TypeId} (h : W.heap[b]? = some (.cells #[c0, c1, c2, c3, c4, c5, c6, c7, c8] t (0, 0))) : (W.cell? ⟨b, 0, none⟩ = some c0 ∧ W.cell? ⟨b, 1, none⟩ = some c1 ∧ W.cell? ⟨b, 2, none⟩ = some c2 ∧ W.cell? ⟨b, 3, none⟩ = some c3 ∧ W.cell? ⟨b, 4, none⟩ = some c4 ∧ W.cell? ⟨b, 5, none⟩ = some c5 ∧ W.cell? ⟨b, 6, none⟩ = some c6 ∧ W.cell? ⟨b, 7, none⟩ = some c7 ∧ W.cell? ⟨b, 8, none⟩ = some c8) ∧ W.frozen? ⟨b, 0, none⟩ = false ∧ W.frozen? ⟨b, 1, none⟩ = false ∧ W.frozen? ⟨b, 2, none⟩ = false ∧ W.frozen? ⟨b, 3, none⟩ = false ∧ W.frozen? ⟨b, 4, none⟩ = false ∧ W.frozen? ⟨b, 5, none⟩ = false ∧ W.frozen? ⟨b, 6, none⟩ = false ∧ W.frozen? ⟨b, 7, none⟩ = false ∧ W.frozen? ⟨b, 8, none⟩ = false := by
  refine ⟨⟨?_, ?_, ?_, ?_, ?_, ?_, ?_, ?_, ?_⟩, frozen_of_row W b 0 _ _ h, frozen_of_row W b 1 _ _ h, frozen_of_row W b 2 _ _ h, frozen_of_row W b 3 _ _ h, frozen_of_row W b 4 _ _ h, frozen_of_row W b 5 _ _ h, frozen_of_row W b 6 _ _ h, frozen_of_row W b 7 _ _ h, frozen_of_row W b 8 _ _ h⟩ <;> (rw [cell_of_row _ _ _ _ _ _ h]; rfl)
abbrev set9 (W : World) (g : Nat) (d0 d1 d2 d3 d4 d5 d6 d7 d8 : Value) : World := (((((((((W.setCell ⟨g, 0, none⟩ d0).setCell ⟨g, 1, none⟩ d1).setCell ⟨g, 2, none⟩ d2).setCell ⟨g, 3, none⟩ d3).setCell ⟨g, 4, none⟩ d4).setCell ⟨g, 5, none⟩ d5).setCell ⟨g, 6, none⟩ d6).setCell ⟨g, 7, none⟩ d7).setCell ⟨g, 8, none⟩ d8)
theorem bt_set9 (W : World) (g : Nat) (d0 d1 d2 d3 d4 d5 d6 d7 d8 : Value) : Bt g W (set9 W g d0 d1 d2 d3 d4 d5 d6 d7 d8) := (((((((((Bt.setCell g W 0 d0).trans (Bt.setCell g _ 1 d1)).trans (Bt.setCell g _ 2 d2)).trans (Bt.setCell g _ 3 d3)).trans (Bt.setCell g _ 4 d4)).trans (Bt.setCell g _ 5 d5)).trans (Bt.setCell g _ 6 d6)).trans (Bt.setCell g _ 7 d7)).trans (Bt.setCell g _ 8 d8))
theorem row_set9 {W : World} {g : Nat} {c0 c1 c2 c3 c4 c5 c6 c7 c8 : Value} {t : TypeId} (h : W.heap[g]? = some (.cells #[c0, c1, c2, c3, c4, c5, c6, c7, c8] t (0, 0))) (d0 d1 d2 d3 d4 d5 d6 d7 d8 : Value) : (set9 W g d0 d1 d2 d3 d4 d5 d6 d7 d8).heap[g]? = some (.cells #[d0, d1, d2, d3, d4, d5, d6, d7, d8] t (0, 0)) := by
  show (((((((((W.setCell ⟨g, 0, none⟩ d0).setCell ⟨g, 1, none⟩ d1).setCell ⟨g, 2, none⟩ d2).setCell ⟨g, 3, none⟩ d3).setCell ⟨g, 4, none⟩ d4).setCell ⟨g, 5, none⟩ d5).setCell ⟨g, 6, none⟩ d6).setCell ⟨g, 7, none⟩ d7).setCell ⟨g, 8, none⟩ d8).heap[g]? = _
  have h1 : (W.setCell ⟨g, 0, none⟩ d0).heap[g]? = some (.cells #[d0, c1, c2, c3, c4, c5, c6, c7, c8] t (0, 0)) := heap_set7 W g 0 d0 _ _ _ h
  obtain ⟨W1, e1⟩ : ∃ WW : World, W.setCell ⟨g, 0, none⟩ d0 = WW := ⟨_, rfl⟩
  rw [e1] at h1 ⊢
  have h2 : (W1.setCell ⟨g, 1, none⟩ d1).heap[g]? = some (.cells #[d0, d1, c2, c3, c4, c5, c6, c7, c8] t (0, 0)) := heap_set7 W1 g 1 d1 _ _ _ h1
  obtain ⟨W2, e2⟩ : ∃ WW : World, W1.setCell ⟨g, 1, none⟩ d1 = WW := ⟨_, rfl⟩
  rw [e2] at h2 ⊢
  have h3 : (W2.setCell ⟨g, 2, none⟩ d2).heap[g]? = some (.cells #[d0, d1, d2, c3, c4, c5, c6, c7, c8] t (0, 0)) := heap_set7 W2 g 2 d2 _ _ _ h2
  obtain ⟨W3, e3⟩ : ∃ WW : World, W2.setCell ⟨g, 2, none⟩ d2 = WW := ⟨_, rfl⟩
  rw [e3] at h3 ⊢
  have h4 : (W3.setCell ⟨g, 3, none⟩ d3).heap[g]? = some (.cells #[d0, d1, d2, d3, c4, c5, c6, c7, c8] t (0, 0)) := heap_set7 W3 g 3 d3 _ _ _ h3
  obtain ⟨W4, e4⟩ : ∃ WW : World, W3.setCell ⟨g, 3, none⟩ d3 = WW := ⟨_, rfl⟩
  rw [e4] at h4 ⊢
  have h5 : (W4.setCell ⟨g, 4, none⟩ d4).heap[g]? = some (.cells #[d0, d1, d2, d3, d4, c5, c6, c7, c8] t (0, 0)) := heap_set7 W4 g 4 d4 _ _ _ h4
  obtain ⟨W5, e5⟩ : ∃ WW : World, W4.setCell ⟨g, 4, none⟩ d4 = WW := ⟨_, rfl⟩
  rw [e5] at h5 ⊢
  have h6 : (W5.setCell ⟨g, 5, none⟩ d5).heap[g]? = some (.cells #[d0, d1, d2, d3, d4, d5, c6, c7, c8] t (0, 0)) := heap_set7 W5 g 5 d5 _ _ _ h5
  obtain ⟨W6, e6⟩ : ∃ WW : World, W5.setCell ⟨g, 5, none⟩ d5 = WW := ⟨_, rfl⟩
  rw [e6] at h6 ⊢
  have h7 : (W6.setCell ⟨g, 6, none⟩ d6).heap[g]? = some (.cells #[d0, d1, d2, d3, d4, d5, d6, c7, c8] t (0, 0)) := heap_set7 W6 g 6 d6 _ _ _ h6
  obtain ⟨W7, e7⟩ : ∃ WW : World, W6.setCell ⟨g, 6, none⟩ d6 = WW := ⟨_, rfl⟩
  rw [e7] at h7 ⊢
  have h8 : (W7.setCell ⟨g, 7, none⟩ d7).heap[g]? = some (.cells #[d0, d1, d2, d3, d4, d5, d6, d7, c8] t (0, 0)) := heap_set7 W7 g 7 d7 _ _ _ h7
  obtain ⟨W8, e8⟩ : ∃ WW : World, W7.setCell ⟨g, 7, none⟩ d7 = WW := ⟨_, rfl⟩
  rw [e8] at h8 ⊢
  have h9 : (W8.setCell ⟨g, 8, none⟩ d8).heap[g]? = some (.cells #[d0, d1, d2, d3, d4, d5, d6, d7, d8] t (0, 0)) := heap_set7 W8 g 8 d8 _ _ _ h8
  exact h9
end Go.Proofs.Yticopomchoahnaa
/-
  The signer's Int: a number as a piece.
-/
namespace Go.Proofs.Yticopomchoahnaa
open Go.Shelf Go.RowKit
set_option linter.unusedVariables false
set_option linter.unusedSimpArgs false

/-- Bytes of the call's own, few. -/
def FewB (w w' : World) (e : Ending) (M : Nat) : Prop := Below w.heap.size w w' ∧ ∃ p m c bs, e = .returned (.slice p m c) ∧ bs.length = m ∧ m ≤ M ∧ w'.ownsRow w.heap.size 5 1 (.slice p m c) m (Lib.byteCells bs)
theorem rWrite_few (t : Nat) (ht : t < 256) (p : Option Addr) (n c : Nat) (l : Bs) (w0 w : World) (hl : l.length = n) (h : BAt w p n l) (hn : n < 65536) (hb : Below w0.heap.size w0 w) : Calls Try.prog 38 #[.int .u8 (t : Int), .slice p n c] w fun e w' => FewB w0 w' e (n + 4) := by
  refine (rWrite_any t ht p n c l w hl h hn).mono ?_
  rintro e w' ⟨hb1, v, rfl, ho⟩
  obtain ⟨q, d, rfl⟩ := owns_slice ho
  refine ⟨hb.trans (hb1.mono hb.size), q, _, d, UInt8.ofNat t :: (headD n ++ l), rfl, ?_, ?_, ?_⟩
  · simp; omega
  · have := headD_len n
    split at this
    · omega
    · split at this <;> omega
  · refine ⟨ho.1, ?_⟩
    rcases ho.2 with h1 | ⟨g, cap, cur, e1, h1, h2⟩
    · exact .inl h1
    · exact .inr ⟨g, cap, cur, e1, by have := hb.size; omega, h2⟩
set_option maxRecDepth 100000 in
set_option maxHeartbeats 8000000 in
/-- Int. -/
theorem hInt (v : Value) (n : Int) (L : Nat) (w : World) (h : Rv w v n L) (hL : L ≤ 1000) (hn : n < 16777216) :
    Calls Try.prog 39 #[v] w fun e w' => FewB w w' e 20 := by
  have hn0 := h.nonneg
  have HLN := rlen_rv v n L w h (by omega)
  have hbl : blen n.toNat ≤ 24 := blen_le _ _ (by omega)
  have hroom := blen_room n hn0
  obtain ⟨BL, hBL⟩ : ∃ B, blen n.toNat = B := ⟨_, rfl⟩
  rw [hBL] at hroom hbl HLN
  obtain ⟨NB, hNB⟩ : ∃ B, (BL + 7) / 8 = B := ⟨_, rfl⟩
  rw [hNB] at hroom
  have hNBI : ((BL : Int) + 7) / 8 = (NB : Int) := by omega
  have hNB2 : NB ≤ 3 := by omega
  obtain ⟨a1, a2, a3, a4, rfl, a5, a6, a7, a8⟩ := h
  have HBY := rBytes_big a1 a2 a3 a4 NB w a5 (by omega) (by rw [a7]; exact hroom)
  clear a5 a6 a7 a8 hroom hBL hNB hn0
  go_enter Try.func39, Try.ntmps39
  go_wp2_with fail
  refine HLN.mono ?_
  rintro e w1 ⟨rfl, hw1⟩
  obtain rfl : w = w1 := hw1.symm
  clear HLN hw1
  go_wp2_with fail
  refine HBY.mono ?_
  rintro e w3 ⟨v3, rfl, g3, y3, rfl, r3, l3, d3, _, b3⟩
  clear HBY
  have HB3 : Hid (Below w.heap.size w w3 ∧ BAt w3 (some ⟨g3, 0, none⟩) NB (toB y3) ∧ (toB y3).length = NB) := ⟨b3, row_bat r3 l3 d3, by rw [toB_len]; exact l3⟩
  have HCL : 0 < NB → w3.cell? ⟨g3, 0, none⟩ = some (.int .u8 (y3.getD 0 0)) ∧ 0 ≤ y3.getD 0 0 := fun h0 => by
    unfold Row at r3
    refine ⟨?_, (d3.getD (by decide) 0).1⟩
    rw [cell_of_row _ _ 0 _ _ _ r3]
    match y3, l3 with
    | [], l3 => simp at l3; omega
    | y :: ys, _ => rfl
  have HWR := fun p5 m5 c5 l5 w5 (h1 : BAt w5 p5 m5 l5) (h2 : l5.length = m5) (h3 : m5 ≤ 16) (h4 : Below w.heap.size w w5) => (rWrite_few 2 (by omega) p5 m5 c5 l5 w w5 h2 h1 (by omega) h4)
  have HWF : ∀ e w' m5, m5 ≤ 16 → FewB w w' e (m5 + 4) → FewB w w' e 20 := fun e w' m5 h1 ⟨h2, p, m, c, bs, h3, h4, h5, h6⟩ => ⟨h2, p, m, c, bs, h3, h4, by omega, h6⟩
  clear r3 l3 d3 b3
  by_cases h0 : NB = 0
  · subst h0
    clear HCL
    go_wp2_with (at_builtin; refine wpList_append_wt rfl (.tmp 19) (.tmp 20) rfl w3.heap.size (.slice (some ⟨w3.heap.size, 0, none⟩) 1 1) rfl [UInt8.ofNat 0] 1 rfl (owns_lit1 w3 w3.heap.size 0 (by omega) (Nat.le_refl _)) (some ⟨g3, 0, none⟩) 0 0 (toB y3) HB3.out.2.2 rfl (HB3.out.2.1.below ((Below.refl _ _).alloc (Nat.le_refl _) _)) (by omega) (by simp) ?_; intro v5 w5 o5 gr5 at5; have B5 : Below w3.heap.size w3 w5 := below_grownT ((Below.refl _ _).alloc (Nat.le_refl _) _) (Nat.le_refl _) (owns_lit1 w3 w3.heap.size 0 (by omega) (Nat.le_refl _)) gr5; have HL5 : ([UInt8.ofNat 0] ++ toB y3).length = 1 + 0 := (by rw [List.length_append, HB3.out.2.2]; rfl); obtain ⟨p5, c5, rfl, hv5⟩ := own_byv (l := [UInt8.ofNat 0] ++ toB y3) (by rw [HL5]; exact o5); rw [HL5]; have HW5 : Hid (BAt w5 p5 (1 + 0) ([UInt8.ofNat 0] ++ toB y3) ∧ ([UInt8.ofNat 0] ++ toB y3).length = 1 + 0 ∧ Below w.heap.size w w5) := ⟨(by have := hv5.lies; rw [HL5] at this; exact this), HL5, HB3.out.1.trans (B5.mono HB3.out.1.size)⟩; clear at5 gr5 o5 B5 hv5 HL5)
    refine (HWR p5 (1 + 0) c5 _ w5 HW5.out.1 HW5.out.2.1 (by omega) HW5.out.2.2).mono ?_
    intro e w6 h6
    have H6 : Hid (FewB w w6 e 20) := HWF _ _ _ (by omega) h6
    obtain ⟨-, p6, m6, c6, bs6, rfl, -⟩ := h6
    clear HWR HWF
    go_wp2_with fail
    go_ret
    exact H6.out
  have h0b : ((NB : Int) == 0) = false := by simp; omega
  have h0I : (0 : Int) < (NB : Int) := by omega
  obtain ⟨k0, ky⟩ := HCL (by omega)
  obtain ⟨Y, hY⟩ : ∃ Y, y3.getD 0 0 = Y := ⟨_, rfl⟩
  rw [hY] at k0 ky
  clear hY HCL
  by_cases h8 : 128 ≤ Y
  · go_wp2_with (at_builtin; refine wpList_append_wt rfl (.tmp 19) (.tmp 20) rfl w3.heap.size (.slice (some ⟨w3.heap.size, 0, none⟩) 1 1) rfl [UInt8.ofNat 0] 1 rfl (owns_lit1 w3 w3.heap.size 0 (by omega) (Nat.le_refl _)) (some ⟨g3, 0, none⟩) NB NB (toB y3) HB3.out.2.2 rfl (HB3.out.2.1.below ((Below.refl _ _).alloc (Nat.le_refl _) _)) (by omega) (by simp) ?_; intro v5 w5 o5 gr5 at5; have B5 : Below w3.heap.size w3 w5 := below_grownT ((Below.refl _ _).alloc (Nat.le_refl _) _) (Nat.le_refl _) (owns_lit1 w3 w3.heap.size 0 (by omega) (Nat.le_refl _)) gr5; have HL5 : ([UInt8.ofNat 0] ++ toB y3).length = 1 + NB := (by rw [List.length_append, HB3.out.2.2]; rfl); obtain ⟨p5, c5, rfl, hv5⟩ := own_byv (l := [UInt8.ofNat 0] ++ toB y3) (by rw [HL5]; exact o5); rw [HL5]; have HW5 : Hid (BAt w5 p5 (1 + NB) ([UInt8.ofNat 0] ++ toB y3) ∧ ([UInt8.ofNat 0] ++ toB y3).length = 1 + NB ∧ Below w.heap.size w w5) := ⟨(by have := hv5.lies; rw [HL5] at this; exact this), HL5, HB3.out.1.trans (B5.mono HB3.out.1.size)⟩; clear at5 gr5 o5 B5 hv5 HL5)
    refine (HWR p5 (1 + NB) c5 _ w5 HW5.out.1 HW5.out.2.1 (by omega) HW5.out.2.2).mono ?_
    intro e w6 h6
    have H6 : Hid (FewB w w6 e 20) := HWF _ _ _ (by omega) h6
    obtain ⟨-, p6, m6, c6, bs6, rfl, -⟩ := h6
    clear HWR HWF
    go_wp2_with fail
    go_ret
    exact H6.out
  · go_wp2_with fail
    refine (HWR (some ⟨g3, 0, none⟩) NB NB _ w3 HB3.out.2.1 HB3.out.2.2 (by omega) HB3.out.1).mono ?_
    intro e w6 h6
    have H6 : Hid (FewB w w6 e 20) := HWF _ _ _ (by omega) h6
    obtain ⟨-, p6, m6, c6, bs6, rfl, -⟩ := h6
    clear HWR HWF
    go_wp2_with fail
    go_ret
    exact H6.out
end Go.Proofs.Yticopomchoahnaa
/-
  Contracts of the document's small numbers by which its table is found: add, mul, shifted, cmp.
-/
namespace Go.Proofs.Yticopomchoahnaa
open Go.RowKit
set_option linter.unusedVariables false
set_option linter.unusedSimpArgs false

/-- A number of digits in memory, whatever its zeros. -/
def NbS (w w' : World) (v : Value) (n : Int) (L : Nat) : Prop :=
  ∃ ao len cap xs, v = .slice ao len cap ∧ NumIn .i64 D16 w' ao len cap xs ∧ val D16 xs = n ∧ len ≤ L ∧ Below w.heap.size w w'

theorem dg_room (xs : List Int) (hd : Dg D16 xs) (bit : Nat) (h : val D16 xs % 2 ^ (bit + 1) = 0) : xs.getD (bit / 16) 0 + 2 ^ (bit % 16) < 65536 := by
  rw [digit_at D16_pos xs hd (bit / 16)]
  obtain ⟨m, hm⟩ : ∃ m, val D16 xs = 2 ^ (bit + 1) * m := ⟨val D16 xs / 2 ^ (bit + 1), by have := Int.emod_add_mul_ediv (val D16 xs) (2 ^ (bit + 1)); omega⟩
  have e : (2 : Int) ^ (bit + 1) = D16 ^ (bit / 16) * 2 ^ (bit % 16 + 1) := by
    rw [show D16 = 2 ^ 16 from rfl, ← Int.pow_mul, ← Int.pow_add, show 16 * (bit / 16) + (bit % 16 + 1) = bit + 1 by omega]
  have hp : (0 : Int) < D16 ^ (bit / 16) := Int.pow_pos D16_pos
  rw [hm, e, Int.mul_assoc, Int.mul_ediv_cancel_left _ (by omega)]
  have hr : bit % 16 < 16 := Nat.mod_lt _ (by decide)
  generalize bit % 16 = r at *
  have hD : D16 = 65536 := rfl
  rw [hD]
  have : r = 0 ∨ r = 1 ∨ r = 2 ∨ r = 3 ∨ r = 4 ∨ r = 5 ∨ r = 6 ∨ r = 7 ∨ r = 8 ∨ r = 9 ∨ r = 10 ∨ r = 11 ∨ r = 12 ∨ r = 13 ∨ r = 14 ∨ r = 15 := by omega
  rcases this with rfl | rfl | rfl | rfl | rfl | rfl | rfl | rfl | rfl | rfl | rfl | rfl | rfl | rfl | rfl | rfl <;> simp <;> omega

theorem pow_bit (bit : Nat) : (2 : Int) ^ bit = D16 ^ (bit / 16) * 2 ^ (bit % 16) := by
  rw [show D16 = 2 ^ 16 from rfl, ← Int.pow_mul, ← Int.pow_add, Nat.div_add_mod]
theorem pow2_16S (r : Nat) (h : r < 16) : (0 : Int) < 2 ^ r ∧ (2 : Int) ^ r ≤ 32768 := by
  have : r = 0 ∨ r = 1 ∨ r = 2 ∨ r = 3 ∨ r = 4 ∨ r = 5 ∨ r = 6 ∨ r = 7 ∨ r = 8 ∨ r = 9 ∨ r = 10 ∨ r = 11 ∨ r = 12 ∨ r = 13 ∨ r = 14 ∨ r = 15 := by omega
  rcases this with rfl | rfl | rfl | rfl | rfl | rfl | rfl | rfl | rfl | rfl | rfl | rfl | rfl | rfl | rfl | rfl <;> decide

theorem Dg_splice {B : Int} (hB : 0 < B) (ys : List Int) (hd : Dg B ys) (n m : Nat) : Dg B (ys.take n ++ List.replicate m 0) :=
  (hd.take n).append (Dg.zeros hB m)
theorem val_splice (B : Int) (ys : List Int) (n m : Nat) (h : ys.length = n) : val B (ys.take n ++ List.replicate m 0) = val B ys := by
  rw [List.take_of_length_le (by omega), val_append, val_replicate]; simp

set_option maxHeartbeats 1000000 in
/-- the document's add: a bit more. -/
theorem sAdd_any (ao : Option Addr) (la ca : Nat) (xs : List Int) (bit : Nat) (w : World) (h : NumIn .i64 D16 w ao la ca xs) (hbit : bit ≤ 40) (hla : la ≤ 3) (hm : val D16 xs % 2 ^ (bit + 1) = 0) :
    Calls Try.prog 98 #[.slice ao la ca, .int .i64 bit] w fun e w' => ∃ v, e = .returned v ∧ NbS w w' v (val D16 xs + 2 ^ bit) 3 := by
  have hroom := dg_room xs h.dg bit hm
  have hpb := pow_bit bit
  have hl := h.len
  obtain ⟨q, hq⟩ : ∃ q, bit / 16 = q := ⟨_, rfl⟩
  obtain ⟨r, hr⟩ : ∃ r, bit % 16 = r := ⟨_, rfl⟩
  have hqI : (bit : Int) / 16 = (q : Int) := by omega
  have hrI : (bit : Int) % 16 = (r : Int) := by omega
  have hr16 : r < 16 := by omega
  have hq3 : q < 3 := by omega
  rw [hq, hr] at hroom hpb
  obtain ⟨n, hn⟩ : ∃ n, max la (q + 1) = n := ⟨_, rfl⟩
  have hnI : max (la : Int) ((q : Int) + 1) = (n : Int) := by omega
  have hn3 : n ≤ 3 := by omega
  have hqn : q < n := by omega
  have hln : la ≤ n := by omega
  have hp2 := pow2_16S r hr16
  have HL : Hid (Lies .i64 w ao la xs) := h.lies
  have HD : Hid (Dg D16 xs) := h.dg
  have HV : Hid (xs.getD q 0 + 2 ^ r < 65536 ∧ (2 : Int) ^ bit = D16 ^ q * 2 ^ r ∧ xs.length = la) := ⟨hroom, hpb, hl⟩
  clear h hroom hpb hl hq hr hm hn
  go_enter Try.func98, Try.ntmps98
  go_wp2_with (at_make; refine wpList_make_row _ rfl _ _ 52 rfl 3 .i64 8 Try.underlying52 Try.infoI _ _ _ _ n rfl rfl rfl rfl (by omega) (by unfold maxLen; omega) ?_)
  intro w1 hrow hbel
  have hl1 := HL.out.old hbel
  go_wp2_with (refine wpList_copy_row rfl _ _ 52 52 rfl 3 Try.underlying52 .i64 8 Try.infoI w.heap.size ao _ _ _ _ rfl rfl _ xs hrow hl1 (by simp) la (by omega) w.heap.size w hbel (Nat.le_refl _) ?_)
  intro w2 hrow2 hbel2
  have hd2 : Dg D16 (xs.take la ++ List.replicate (n - la) 0) := Dg_splice D16_pos xs HD.out la (n - la)
  have hv2 : val D16 (xs.take la ++ List.replicate (n - la) 0) = val D16 xs := val_splice D16 xs la (n - la) HV.out.2.2
  have hlen2 : (xs.take la ++ List.replicate (n - la) (0 : Int)).length = n := by have := HV.out.2.2; simp; omega
  have hx2 : (xs.take la ++ List.replicate (n - la) (0 : Int)).getD q 0 = xs.getD q 0 := by
    rw [digit_at D16_pos _ hd2, digit_at D16_pos xs HD.out, hv2]
  generalize xs.take la ++ List.replicate (n - la) (0 : Int) = cur at *
  have hc := hrow2.cell q (by omega)
  have hf := hrow2.frozen q
  rw [hx2] at hc
  have gx := HD.out.getD D16_pos q
  have x0 := gx.1
  have x1 := HV.out.1
  have HRW : Hid (Row 3 .i64 w2 w.heap.size cur ∧ Dg D16 cur ∧ val D16 cur = val D16 xs ∧ cur.length = n ∧ cur.getD q 0 = xs.getD q 0 ∧ Below w.heap.size w w2) := ⟨hrow2, hd2, hv2, hlen2, hx2, hbel2⟩
  generalize hxg : xs.getD q 0 = x at *
  have HXG : Hid (xs.getD q 0 = x) := hxg
  clear hrow hl1 hrow2 hbel hbel2 hd2 hv2 hlen2 hx2 gx HL HD hxg
  have hsh : IntKind.i64.wrap (2 ^ r) = 2 ^ r := IntWalk.i64_in _ (by omega)
  have hsum : IntKind.i64.wrap (x + 2 ^ r) = x + 2 ^ r := IntWalk.i64_in _ (by omega)
  go_wp2
  go_region
  all_goals
    go_wp2
    go_ret
    have hrs := (HRW.out.1.drewN 1).set q (x + 2 ^ r)
    have hlen : (cur.set q (x + 2 ^ r)).length = n := by rw [List.length_set]; exact HRW.out.2.2.2.1
    refine ⟨_, rfl, some ⟨w.heap.size, 0, none⟩, n, n, cur.set q (x + 2 ^ r), rfl, ?_, ?_, by omega, ?_⟩
    · have := hrs.num (B := D16) (HRW.out.2.1.set q ⟨by omega, by have := x1; unfold D16; omega⟩) (by omega)
      rw [hlen] at this
      exact this
    · rw [val_set _ _ _ _ (by have := HRW.out.2.2.2.1; omega), HRW.out.2.2.1, HRW.out.2.2.2.2.1, HV.out.2.1]
      grind
    · exact (HRW.out.2.2.2.2.2.trans (Drew.below ⟨1, rfl⟩ _)).setCell (p := ⟨w.heap.size, q, none⟩) (Nat.le_refl _) _

set_option maxHeartbeats 1000000 in
/-- the document's shifted. -/
theorem sShifted_any (p : Int) (by16 : Nat) (w : World) (hp0 : 0 ≤ p) (hp1 : p < 65536) (hb : by16 ≤ 8) :
    Calls Try.prog 101 #[.int .i64 p, .int .i64 (16 * by16 : Nat)] w fun e w' => ∃ v, e = .returned v ∧ NbS w w' v (p * D16 ^ by16) 9 := by
  have hqI : ((16 * by16 : Nat) : Int) / 16 = (by16 : Int) := by omega
  obtain ⟨n, hn⟩ : ∃ n, by16 + 1 = n := ⟨_, rfl⟩
  have hnI : (by16 : Int) + 1 = (n : Int) := by omega
  have hn9 : n ≤ 9 := by omega
  have hbn : by16 < n := by omega
  have hbs : 16 * by16 < 1000 := by omega
  obtain ⟨m, hm⟩ : ∃ m, 16 * by16 = m := ⟨_, rfl⟩
  rw [hm] at hqI hbs ⊢
  clear hn hm
  go_enter Try.func101, Try.ntmps101
  go_wp2_with (at_make; refine wpList_make_row _ rfl _ _ 52 rfl 3 .i64 8 Try.underlying52 Try.infoI _ _ _ _ n rfl rfl rfl rfl (by omega) (by unfold maxLen; omega) ?_)
  intro w1 hrow hbel
  have hc := hrow.cell by16 (by simp; omega)
  have hf := hrow.frozen by16
  have HRW : Hid (Row 3 .i64 w1 w.heap.size (List.replicate n 0) ∧ Below w.heap.size w w1) := ⟨hrow, hbel⟩
  clear hrow hbel
  go_wp2
  go_ret
  have hrs := HRW.out.1.set by16 p
  have hlen : ((List.replicate n (0 : Int)).set by16 p).length = n := by simp
  refine ⟨_, rfl, some ⟨w.heap.size, 0, none⟩, n, n, (List.replicate n 0).set by16 p, rfl, ?_, ?_, hn9, HRW.out.2.setCell (p := ⟨w.heap.size, by16, none⟩) (Nat.le_refl _) _⟩
  · have := hrs.num (B := D16) ((Dg.zeros D16_pos n).set by16 ⟨hp0, hp1⟩) (by omega)
    rw [hlen] at this
    exact this
  · rw [val_set _ _ _ _ (by simp; omega), val_replicate]
    have : (List.replicate n (0 : Int)).getD by16 0 = 0 := by simp [List.getD, List.getElem?_replicate]; split <;> rfl
    rw [this]
    grind

/-- With zeros above. -/
def pad (xs : List Int) (n : Nat) : List Int := xs ++ List.replicate (n - xs.length) 0
theorem pad_len (xs : List Int) (n : Nat) (h : xs.length ≤ n) : (pad xs n).length = n := by simp [pad]; omega
theorem pad_val (B : Int) (xs : List Int) (n : Nat) : val B (pad xs n) = val B xs := by unfold pad; rw [val_append, val_replicate]; simp
theorem pad_dg {B : Int} (hB : 0 < B) {xs : List Int} (h : Dg B xs) (n : Nat) : Dg B (pad xs n) := h.append (Dg.zeros hB _)
theorem pad_get (xs : List Int) (n j : Nat) : (pad xs n).getD j 0 = xs.getD j 0 := by
  unfold pad
  by_cases h : j < xs.length
  · simp [List.getD, List.getElem?_append_left h]
  · simp only [List.getD]
    rw [List.getElem?_append_right (by omega), List.getElem?_replicate, List.getElem?_eq_none (show xs.length ≤ j by omega)]
    split <;> rfl
theorem cmp_pad (xs ys : List Int) (hx : Dg D16 xs) (hy : Dg D16 ys) (p : Nat) (heq : ∀ j, p < j → xs.getD j 0 = ys.getD j 0) (hlt : xs.getD p 0 < ys.getD p 0) : val D16 xs < val D16 ys := by
  obtain ⟨n, hn⟩ : ∃ n, n = max (max xs.length ys.length) (p + 1) := ⟨_, rfl⟩
  have := cmp_at D16 D16_one (pad xs n) (pad ys n) (pad_dg D16_pos hx n) (pad_dg D16_pos hy n) n (pad_len xs n (by omega)) (pad_len ys n (by omega)) p (by omega) (fun j h1 _ => by rw [pad_get, pad_get]; exact heq j h1) (by rw [pad_get, pad_get]; exact hlt)
  rwa [pad_val, pad_val] at this
theorem eq_pad (xs ys : List Int) (h : ∀ j, xs.getD j 0 = ys.getD j 0) : val D16 xs = val D16 ys := by
  obtain ⟨n, hn⟩ : ∃ n, n = max xs.length ys.length := ⟨_, rfl⟩
  have e : pad xs n = pad ys n := by
    apply List.ext_getElem
    · rw [pad_len xs n (by omega), pad_len ys n (by omega)]
    · intro j h1 h2
      have := h j
      rw [← pad_get xs n, ← pad_get ys n] at this
      simpa [List.getD, h1, h2] using this
  rw [← pad_val D16 xs n, e, pad_val]
theorem getD_over (xs : List Int) (j : Nat) (h : xs.length ≤ j) : xs.getD j 0 = 0 := by simp [List.getD, List.getElem?_eq_none h]

set_option maxHeartbeats 2000000 in
/-- the document's cmp. -/
theorem sCmp_any (ao bo : Option Addr) (la ca lb cb : Nat) (xs ys : List Int) (w : World) (h : NumIn .i64 D16 w ao la ca xs) (h' : NumIn .i64 D16 w bo lb cb ys) (hla : la ≤ 1000) (hlb : lb ≤ 1000) :
    Calls Try.prog 100 #[.slice ao la ca, .slice bo lb cb] w fun e w' => e = .returned (.int .i64 (cmpI (val D16 xs) (val D16 ys))) ∧ w' = w := by
  obtain ⟨n, hn⟩ : ∃ n, max la lb = n := ⟨_, rfl⟩
  have hnI : max (la : Int) (lb : Int) = (n : Int) := by omega
  have hn1 : n ≤ 1000 := by omega
  have hl := h.len
  have hl' := h'.len
  have HX : Hid (NumIn .i64 D16 w ao la ca xs) := h
  have HY : Hid (NumIn .i64 D16 w bo lb cb ys) := h'
  have HN : Hid (max la lb = n ∧ xs.length = la ∧ ys.length = lb) := ⟨hn, hl, hl'⟩
  clear h h' hn hl hl'
  go_enter Try.func100, Try.ntmps100
  go_wp2
  go_loop [5] (fun vi => ∃ i : Int, vi = .int .i64 i ∧ -1 ≤ i ∧ i < n ∧ ∀ j : Nat, i < j → xs.getD j 0 = ys.getD j 0) (fun vi => (intOf vi + 1).toNat)
  case atStart =>
    refine ⟨(n : Int) - 1, rfl, by omega, by omega, fun j hj => ?_⟩
    have := HN.out
    rw [getD_over xs j (by omega), getD_over ys j (by omega)]
  case round =>
    obtain ⟨i, rfl, hi0, hi1, heq⟩ := hrel
    by_cases hneg : i < 0
    · obtain rfl : i = -1 := by omega
      have HF : Hid (cmpI (val D16 xs) (val D16 ys) = 0) := cmpI_eq (eq_pad xs ys (fun j => heq j (by omega)))
      clear heq
      go_wp2
      go_ret
      exact ⟨ret_int HF.out.symm, rfl⟩
    · obtain ⟨p, rfl⟩ := Int.eq_ofNat_of_zero_le (show 0 ≤ i by omega)
      have HL : Hid (xs.getD p 0 < ys.getD p 0 → val D16 xs < val D16 ys) := cmp_pad xs ys HX.out.dg HY.out.dg p (fun j hj => heq j (by omega))
      have HG : Hid (ys.getD p 0 < xs.getD p 0 → val D16 ys < val D16 xs) := cmp_pad ys xs HY.out.dg HX.out.dg p (fun j hj => (heq j (by omega)).symm)
      have HE : Hid (xs.getD p 0 = ys.getD p 0 → ∀ j : Nat, (p : Int) - 1 < j → xs.getD j 0 = ys.getD j 0) := fun h0 j hj => by
        by_cases e : j = p
        · rw [e]; exact h0
        · exact heq j (by omega)
      have hcx : p < la → ∃ b off, ao = some ⟨b, off, none⟩ ∧ w.cell? ⟨b, off + p, none⟩ = some (.int .i64 (xs.getD p 0)) := fun hp => by
        obtain ⟨b, off, e, _, hc⟩ := HX.out.lies.at (by omega)
        exact ⟨b, off, e, hc p hp⟩
      have hcy : p < lb → ∃ b off, bo = some ⟨b, off, none⟩ ∧ w.cell? ⟨b, off + p, none⟩ = some (.int .i64 (ys.getD p 0)) := fun hp => by
        obtain ⟨b, off, e, _, hc⟩ := HY.out.lies.at (by omega)
        exact ⟨b, off, e, hc p hp⟩
      have hzx : ¬ p < la → xs.getD p 0 = 0 := fun hp => getD_over xs p (by have := HN.out; omega)
      have hzy : ¬ p < lb → ys.getD p 0 = 0 := fun hp => getD_over ys p (by have := HN.out; omega)
      clear heq hneg hi0
      generalize xs.getD p 0 = x at *
      generalize ys.getD p 0 = y at *
      rcases Int.lt_trichotomy x y with hxy | hxy | hxy
      · have HFIN : Hid (cmpI (val D16 xs) (val D16 ys) = -1) := cmpI_lt (HL.out hxy)
        have hne : (x != y) = true := by simp; omega
        clear HL HG HE
        by_cases h1 : p < la
        · obtain ⟨b, off, rfl, hc1⟩ := hcx h1
          by_cases h2 : p < lb
          · obtain ⟨b2, off2, rfl, hc2⟩ := hcy h2
            clear hcx hcy hzx hzy
            go_wp2
            go_ret
            exact ⟨ret_int HFIN.out.symm, rfl⟩
          · obtain rfl := hzy h2
            clear hcx hcy hzx hzy
            go_wp2
            go_ret
            exact ⟨ret_int HFIN.out.symm, rfl⟩
        · obtain rfl := hzx h1
          by_cases h2 : p < lb
          · obtain ⟨b2, off2, rfl, hc2⟩ := hcy h2
            clear hcx hcy hzx hzy
            go_wp2
            go_ret
            exact ⟨ret_int HFIN.out.symm, rfl⟩
          · obtain rfl := hzy h2
            omega
      · have HFIN : Hid (∀ j : Nat, (p : Int) - 1 < j → xs.getD j 0 = ys.getD j 0) := HE.out hxy
        clear HL HG HE
        subst hxy
        by_cases h1 : p < la
        · obtain ⟨b, off, rfl, hc1⟩ := hcx h1
          by_cases h2 : p < lb
          · obtain ⟨b2, off2, rfl, hc2⟩ := hcy h2
            clear hcx hcy hzx hzy
            go_wp2
            go_round
            case rel => exact ⟨(p : Int) - 1, by go_num, by omega, by omega, HFIN.out⟩
            case measure => simp [intOf] <;> omega
          · obtain rfl := hzy h2
            clear hcx hcy hzx hzy
            go_wp2
            go_round
            case rel => exact ⟨(p : Int) - 1, by go_num, by omega, by omega, HFIN.out⟩
            case measure => simp [intOf] <;> omega
        · obtain rfl := hzx h1
          by_cases h2 : p < lb
          · obtain ⟨b2, off2, rfl, hc2⟩ := hcy h2
            clear hcx hcy hzx hzy
            go_wp2
            go_round
            case rel => exact ⟨(p : Int) - 1, by go_num, by omega, by omega, HFIN.out⟩
            case measure => simp [intOf] <;> omega
          · clear hcx hcy hzx hzy
            go_wp2
            go_round
            case rel => exact ⟨(p : Int) - 1, by go_num, by omega, by omega, HFIN.out⟩
            case measure => simp [intOf] <;> omega
      · have HFIN : Hid (cmpI (val D16 xs) (val D16 ys) = 1) := cmpI_gt (HG.out hxy)
        have hne : (x != y) = true := by simp; omega
        clear HL HG HE
        by_cases h1 : p < la
        · obtain ⟨b, off, rfl, hc1⟩ := hcx h1
          by_cases h2 : p < lb
          · obtain ⟨b2, off2, rfl, hc2⟩ := hcy h2
            clear hcx hcy hzx hzy
            go_wp2
            go_ret
            exact ⟨ret_int HFIN.out.symm, rfl⟩
          · obtain rfl := hzy h2
            clear hcx hcy hzx hzy
            go_wp2
            go_ret
            exact ⟨ret_int HFIN.out.symm, rfl⟩
        · obtain rfl := hzx h1
          by_cases h2 : p < lb
          · obtain ⟨b2, off2, rfl, hc2⟩ := hcy h2
            clear hcx hcy hzx hzy
            go_wp2
            go_ret
            exact ⟨ret_int HFIN.out.symm, rfl⟩
          · obtain rfl := hzy h2
            omega
end Go.Proofs.Yticopomchoahnaa
/-
  Words of 32 bits: contracts of rotr, RotateLeft32 and the document's turn.
-/
namespace Go.Proofs.Yticopomchoahnaa
open Go.RowKit
set_option linter.unusedVariables false
set_option linter.unusedSimpArgs false

/-- A word's bits moved to the right, those that fall out coming in from the left. -/
def rot (x : Int) (n : Nat) : Int := bits .or .u32 (x / 2 ^ n) (x * 2 ^ (32 - n) % 4294967296)
theorem bits_or_comm (k : IntKind) (x y : Int) : bits .or k x y = bits .or k y x := by
  show k.wrap ((BitVec.ofInt k.bits x ||| BitVec.ofInt k.bits y).toNat : Int) = k.wrap ((BitVec.ofInt k.bits y ||| BitVec.ofInt k.bits x).toNat : Int)
  rw [BitVec.or_comm]

theorem back31 : ∀ n : Nat, 1 ≤ n → n ≤ 31 → bits .and .u64 (IntKind.u64.wrap (-(n : Int))) 31 = ((32 - n : Nat) : Int) := by
  intro n h1 h2
  have : n = 1 ∨ n = 2 ∨ n = 3 ∨ n = 4 ∨ n = 5 ∨ n = 6 ∨ n = 7 ∨ n = 8 ∨ n = 9 ∨ n = 10 ∨ n = 11 ∨ n = 12 ∨ n = 13 ∨ n = 14 ∨ n = 15 ∨ n = 16 ∨ n = 17 ∨ n = 18 ∨ n = 19 ∨ n = 20 ∨ n = 21 ∨ n = 22 ∨ n = 23 ∨ n = 24 ∨ n = 25 ∨ n = 26 ∨ n = 27 ∨ n = 28 ∨ n = 29 ∨ n = 30 ∨ n = 31 := by omega
  rcases this with rfl | rfl | rfl | rfl | rfl | rfl | rfl | rfl | rfl | rfl | rfl | rfl | rfl | rfl | rfl | rfl | rfl | rfl | rfl | rfl | rfl | rfl | rfl | rfl | rfl | rfl | rfl | rfl | rfl | rfl | rfl <;> decide

theorem turn_any (x : Int) (n : Nat) (w : World) (hn : n ≤ 32) : Calls Try.prog 64 #[.int .u32 x, .int .i64 n] w fun e w' => e = .returned (.int .u32 (rot x n)) ∧ Drew w w' := by
  go_enter Try.func64, Try.ntmps64
  go_wp2
  go_region
  all_goals
    go_wp2
    go_ret
    exact ⟨rfl, (Drew.refl _).more 1⟩
end Go.Proofs.Yticopomchoahnaa
/-
  SHA-256 as plain mathematics: words of 32 bits as numbers, in the spelling that the walk leaves. No program in sight.
-/
namespace Go.Proofs.Yticopomchoahnaa
open Go.RowKit
set_option linter.unusedVariables false
set_option linter.unusedSimpArgs false

abbrev M32 : Int := 4294967296
def sg0 (x : Int) : Int := bits .xor .u32 (bits .xor .u32 (rot x 7) (rot x 18)) (x / 8)
def sg1 (x : Int) : Int := bits .xor .u32 (bits .xor .u32 (rot x 17) (rot x 19)) (x / 1024)
/-- The next word behind i words. -/
def wNext (l : List Int) (i : Nat) : Int :=
  (((l.getD (i - 16) 0 + sg0 (l.getD (i - 15) 0)) % M32 + l.getD (i - 7) 0) % M32 + sg1 (l.getD (i - 2) 0)) % M32
def schedGo : Nat → List Int → List Int
  | 0, l => l
  | n + 1, l => schedGo n (l ++ [wNext l l.length])
/-- A word's first k bytes. -/
def pw (b : List Int) (i : Nat) : Nat → Int
  | 0 => 0
  | k + 1 => pw b i k * 256 + b.getD (4 * i + k) 0
def words16 (b : List Int) : List Int := (List.range 16).map fun i => pw b i 4
def sched (b : List Int) : List Int := schedGo 48 (words16 b)

structure S8 where
  a : Int
  b : Int
  c : Int
  d : Int
  e : Int
  f : Int
  g : Int
  h : Int

def big1 (e : Int) : Int := bits .xor .u32 (bits .xor .u32 (rot e 6) (rot e 11)) (rot e 25)
def big0 (a : Int) : Int := bits .xor .u32 (bits .xor .u32 (rot a 2) (rot a 13)) (rot a 22)
def chI (e f g : Int) : Int := bits .xor .u32 (bits .and .u32 e f) (bits .and .u32 (bits .xor .u32 4294967295 e) g)
def majI (a b c : Int) : Int := bits .xor .u32 (bits .xor .u32 (bits .and .u32 a b) (bits .and .u32 a c)) (bits .and .u32 b c)
def t1 (e f g h k w : Int) : Int := ((((h + big1 e) % M32 + chI e f g) % M32 + k) % M32 + w) % M32
def t2 (a b c : Int) : Int := (big0 a + majI a b c) % M32
def rnd (s : S8) (k w : Int) : S8 :=
  ⟨(t1 s.e s.f s.g s.h k w + t2 s.a s.b s.c) % M32, s.a, s.b, s.c, (s.d + t1 s.e s.f s.g s.h k w) % M32, s.e, s.f, s.g⟩
def runS (K W : List Int) (s : S8) : Nat → S8
  | 0 => s
  | n + 1 => rnd (runS K W s n) (K.getD n 0) (W.getD n 0)
def s8 (l : List Int) : S8 := ⟨l.getD 0 0, l.getD 1 0, l.getD 2 0, l.getD 3 0, l.getD 4 0, l.getD 5 0, l.getD 6 0, l.getD 7 0⟩
def addS (l : List Int) (s : S8) : List Int :=
  [(l.getD 0 0 + s.a) % M32, (l.getD 1 0 + s.b) % M32, (l.getD 2 0 + s.c) % M32, (l.getD 3 0 + s.d) % M32, (l.getD 4 0 + s.e) % M32, (l.getD 5 0 + s.f) % M32, (l.getD 6 0 + s.g) % M32, (l.getD 7 0 + s.h) % M32]
/-- The words behind a block. -/
def mixS (K : List Int) (l blk : List Int) : List Int := addS l (runS K (sched blk) (s8 l) 64)

def KS : List Int := [0x428a2f98,0x71374491,0xb5c0fbcf,0xe9b5dba5,0x3956c25b,0x59f111f1,0x923f82a4,0xab1c5ed5,0xd807aa98,0x12835b01,0x243185be,0x550c7dc3,0x72be5d74,0x80deb1fe,0x9bdc06a7,0xc19bf174,0xe49b69c1,0xefbe4786,0x0fc19dc6,0x240ca1cc,0x2de92c6f,0x4a7484aa,0x5cb0a9dc,0x76f988da,0x983e5152,0xa831c66d,0xb00327c8,0xbf597fc7,0xc6e00bf3,0xd5a79147,0x06ca6351,0x14292967,0x27b70a85,0x2e1b2138,0x4d2c6dfc,0x53380d13,0x650a7354,0x766a0abb,0x81c2c92e,0x92722c85,0xa2bfe8a1,0xa81a664b,0xc24b8b70,0xc76c51a3,0xd192e819,0xd6990624,0xf40e3585,0x106aa070,0x19a4c116,0x1e376c08,0x2748774c,0x34b0bcb5,0x391c0cb3,0x4ed8aa4a,0x5b9cca4f,0x682e6ff3,0x748f82ee,0x78a5636f,0x84c87814,0x8cc70208,0x90befffa,0xa4506ceb,0xbef9a3f7,0xc67178f2]
def HS : List Int := [0x6a09e667,0xbb67ae85,0x3c6ef372,0xa54ff53a,0x510e527f,0x9b05688c,0x1f83d9ab,0x5be0cd19]

/-- The words behind the first n blocks. -/
def hb (bs : List Int) : Nat → List Int
  | 0 => HS
  | n + 1 => mixS KS (hb bs n) ((bs.drop (64 * n)).take 64)
/-- How many bytes 0 there are between. -/
def gapN (n : Nat) : Nat := (119 - n % 64) % 64
def pad8 (n : Nat) : List Int := (List.range 8).map fun i => (8 * n : Int) / 2 ^ (56 - 8 * i) % 256
def ending (n : Nat) : List Int := 128 :: (List.replicate (gapN n) 0 ++ pad8 n)
def spreadS (l : List Int) : List Int := (List.range 32).map fun i => l.getD (i / 4) 0 / 2 ^ (24 - 8 * (i % 4)) % 256
/-- The hash. -/
def shaS (bs : List Int) : List Int := spreadS (hb (bs ++ ending bs.length) ((bs ++ ending bs.length).length / 64))

theorem sha_nil : (shaS []).take 8 = [0xe3, 0xb0, 0xc4, 0x42, 0x98, 0xfc, 0x1c, 0x14] := by decide +kernel
theorem sha_abc : (shaS [97, 98, 99]).take 8 = [0xba, 0x78, 0x16, 0xbf, 0x8f, 0x01, 0xcf, 0xea] := by decide +kernel
end Go.Proofs.Yticopomchoahnaa
/-
  Laws for whole arrays of numbers: made, boxed, read and written at once; answers that lie in a cell.
-/
namespace Go.Proofs.Yticopomchoahnaa
open Go.RowKit
set_option linter.unusedVariables false
set_option linter.unusedSimpArgs false

/-- An array of numbers, as a value. -/
def ag (k : IntKind) (xs : List Int) : Value := .agg ((xs.map (Value.int k)).toArray)
theorem ints_all (k : IntKind) (xs : List Int) : ((xs.map (Value.int k)).toArray).all (·.oneCell') = true :=
  Array.all_eq_true_iff_forall_mem.2 fun v hv => by
    obtain ⟨x, _, rfl⟩ := List.mem_map.1 (by simpa using hv)
    rfl

theorem Row.alloc (e : TypeId) (k : IntKind) (w : World) (xs : List Int) : Row e k (w.alloc (.cells ((xs.map (Value.int k)).toArray) e)) w.heap.size xs := heap_alloc_new w _
theorem below_alloc (w : World) (o : Obj) : Below w.heap.size w (w.alloc o) := (Below.refl _ _).alloc (Nat.le_refl _) o
theorem size_alloc' (w : World) (o : Obj) : (w.alloc o).heap.size = w.heap.size + 1 := by simp

/-- var x [n]T. -/
theorem wpList_alloc_row {P : Program} {w : World} {ops : Array Oper} {rest : List Oper} {o : Oper} {a : Act} {Q : Exit → Act → World → Prop} (hgd : o.guard = none) (t : TypeId) (hop : o.op = Op.alloc t) (k : IntKind) (n : Nat)
    (hz : (P.info? t).map (fun i => (i.zero, i.size)) = some (some (ag k (List.replicate n 0)), n))
    (hK : ∀ w', Row t k w' w.heap.size (List.replicate n 0) → Below w.heap.size w w' → w'.heap.size = w.heap.size + 1 → wpList P ops Q rest (a.put o.dst (.pointer (some ⟨w.heap.size, 0, none⟩))) w') :
    wpList P ops Q (o :: rest) a w := by
  refine wpList_plain hgd fun K hK' => ?_
  have hr := (zero_of_info hz).1 w
  unfold Oper.wp
  simp only [execOp, hop, Instr.alloc, Sem.run_bind, hr, Result.andThen_ok]
  exact hK' _ _ (hK (w.alloc (.cells (((List.replicate n (0 : Int)).map (Value.int k)).toArray) t)) (Row.alloc t k w _) (below_alloc w _) (size_alloc' w _))

/-- A parameter of such a type. -/
theorem wpList_box_row {P : Program} {w : World} {ops : Array Oper} {rest : List Oper} {o : Oper} {a : Act} {Q : Exit → Act → World → Prop} (hgd : o.guard = none) (t : TypeId) (x : Operand) (hop : o.op = Op.box t x) (k : IntKind) (xs : List Int)
    (hx : a.eval x = ag k xs)
    (hK : ∀ w', Row t k w' w.heap.size xs → Below w.heap.size w w' → w'.heap.size = w.heap.size + 1 → wpList P ops Q rest (a.put o.dst (.pointer (some ⟨w.heap.size, 0, none⟩))) w') :
    wpList P ops Q (o :: rest) a w := by
  refine wpList_plain hgd fun K hK' => ?_
  unfold Oper.wp
  simp only [execOp, hop, hx, ag, Instr.box, Sem.run_bind, Result.andThen_ok]
  exact hK' _ _ (hK (w.alloc (.cells ((xs.map (Value.int k)).toArray) t)) (Row.alloc t k w _) (below_alloc w _) (size_alloc' w _))

/-- The whole array is read. -/
theorem wpList_load_nums {P : Program} {w : World} {ops : Array Oper} {rest : List Oper} {o : Oper} {a : Act} {Q : Exit → Act → World → Prop} (hgd : o.guard = none) (ty : TypeId) (x : Operand) (hop : o.op = Op.load ty x) (k : IntKind) (t e : TypeId) (n : Nat)
    (hu : P.underlying ty = some (.array n e)) (hi : (P.info? ty).map (·.size) = some n) (g : Nat) (xs : List Int) (hx : a.eval x = .pointer (some ⟨g, 0, none⟩)) (hr : Row t k w g xs) (hl : xs.length = n)
    (h : wpList P ops Q rest (a.put o.dst (ag k xs)) w) : wpList P ops Q (o :: rest) a w :=
  wpList_load_row hgd ty x hop g hx t _ (0, 0) (.array n e) hr hu rfl (by rw [hi]; simp [hl]) h

theorem below_setRow' {B g : Nat} {w0 w : World} (hb : Below B w0 w) (hBg : B ≤ g) (cs : Array Value) : Below B w0 (w.setRow g cs) :=
  hb.trans ⟨rfl, rfl, rfl, by simp, fun k hk => setRow_other w g k cs (by omega)⟩
/-- The whole array is written. -/
theorem wpList_store_nums {P : Program} {w : World} {ops : Array Oper} {rest : List Oper} {o : Oper} {a : Act} {Q : Exit → Act → World → Prop} (hgd : o.guard = none) (ty : TypeId) (x y : Operand) (hop : o.op = Op.store ty x y) (k : IntKind) (t : TypeId) (n : Nat)
    (hi : (P.info? ty).map (·.size) = some n) (g : Nat) (old xs : List Int) (hx : a.eval x = .pointer (some ⟨g, 0, none⟩)) (hy : a.eval y = ag k xs) (hr : Row t k w g old) (ho : old.length = n) (hl : xs.length = n)
    (hK : ∀ w', Row t k w' g xs → Below g w w' → w'.heap.size = w.heap.size → (∀ j, j ≠ g → w'.heap[j]? = w.heap[j]?) → wpList P ops Q rest (a.put o.dst undef) w') : wpList P ops Q (o :: rest) a w :=
  wpList_store_row hgd ty x y hop g _ hx hy t _ hr (by rw [hi]; simp [hl]) (by simp [hl, ho]) (ints_all k xs)
    (hK _ (setRow_heap w g _ _ t (0, 0) hr) (below_setRow' (Below.refl _ _) (Nat.le_refl _) _) (by simp) (fun j hj => setRow_other w g j _ hj))

/-- An answer that lies in a cell. -/
theorem results_nums {P : Program} {fn : Func} {p : Tmp} {ty : TypeId} (h : fn.results = #[.cell p ty]) (tmps : Array Value) (w : World) (g : Nat) (t e : TypeId) (k : IntKind) (n : Nat) (xs : List Int)
    (hp : tmps.getD p undef = .pointer (some ⟨g, 0, none⟩)) (hr : Row t k w g xs) (hu : P.underlying ty = some (.array n e)) (hi : (P.info? ty).map (·.size) = some n) (hl : xs.length = n) :
    (results fn tmps).run P w = .ok (ag k xs) w :=
  results_cell_row h tmps w g t _ (0, 0) (.array n e) hp hr hu rfl (by rw [hi]; simp [hl])

theorem Try.infoB32 : (Try.prog.info? 86).map (fun i => (i.zero, i.size)) = some (some (ag .u8 (List.replicate 32 0)), 32) := by kernel_rfl
theorem Try.sizeB32 : (Try.prog.info? 86).map (·.size) = some 32 := (zero_of_info Try.infoB32).2
theorem Try.infoW : (Try.prog.info? 137).map (fun i => (i.zero, i.size, i.bytes)) = some (some (.int .u32 0), 1, 4) := by kernel_rfl
end Go.Proofs.Yticopomchoahnaa
/-
  Contracts of sha's tables: squareBelow, cubeBelow, fraction, primes, constants, beginning.
-/
namespace Go.Proofs.Yticopomchoahnaa
open Go.RowKit
set_option linter.unusedVariables false
set_option linter.unusedSimpArgs false

theorem bits_u64_range (op : BinOp) (x y : Int) : 0 ≤ bits op .u64 x y ∧ bits op .u64 x y < 18446744073709551616 := by
  unfold bits
  simp only [IntKind.wrap_u64]
  omega

def sqB (r p : Int) : Bool := decide (r * r / 18446744073709551616 < p)
def cuB (r p : Int) : Bool := decide (IntKind.u64.wrap (IntKind.u64.wrap (r * r / 18446744073709551616 * r) + (r * r % 18446744073709551616) * r / 18446744073709551616) < IntKind.u64.wrap (p * 4294967296))

/-- The root, bit by bit. -/
def rootAt (f : Int → Int → Bool) (p : Int) : Nat → Int
  | 0 => 0
  | i + 1 => if f (bits .or .u64 (rootAt f p i) (2 ^ (34 - i))) p then bits .or .u64 (rootAt f p i) (2 ^ (34 - i)) else rootAt f p i

theorem int_eq' {k : IntKind} {x y : Int} (h : x = y) : Value.int k x = Value.int k y := by rw [h]
end Go.Proofs.Yticopomchoahnaa
/-
  Contracts of sha's tables: primes, constants, beginning.
-/
namespace Go.Proofs.Yticopomchoahnaa
open Go.RowKit
set_option linter.unusedVariables false
set_option linter.unusedSimpArgs false

/-- The primes below a number. -/
def pl : Nat → List Nat
  | 0 => []
  | n + 1 => if 2 ≤ n ∧ (pl n).all (fun p => n % p != 0) then pl n ++ [n] else pl n
def plI (n : Nat) : List Int := (pl n).map (fun x : Nat => (x : Int))
theorem plI_length (n : Nat) : (plI n).length = (pl n).length := by simp [plI]
theorem pl_small : ∀ (n : Nat), ∀ x ∈ pl n, 2 ≤ x ∧ x < n
  | 0, x, h => by simp [pl] at h
  | n + 1, x, h => by
    rw [pl] at h
    split at h
    · rename_i hc
      rcases List.mem_append.1 h with h | h
      · have := pl_small n x h; omega
      · simp at h; omega
    · have := pl_small n x h; omega
theorem plI_get (n j : Nat) (h : j < (pl n).length) : (plI n).getD j 0 = (((pl n).getD j 0 : Nat) : Int) := by simp [plI, List.getD, h]
theorem pl_get (n j : Nat) (h : j < (pl n).length) : 2 ≤ (pl n).getD j 0 ∧ (pl n).getD j 0 < n := by
  have : (pl n).getD j 0 = (pl n)[j] := by simp [List.getD, h]
  rw [this]
  exact pl_small n _ (List.getElem_mem h)
/-- The next one is a prime: none ahead is in it. -/
theorem pl_yes (n : Nat) (h2 : 2 ≤ n) (h : ∀ j, j < (pl n).length → n % (pl n).getD j 0 ≠ 0) : pl (n + 1) = pl n ++ [n] := by
  rw [pl, if_pos]
  refine ⟨h2, ?_⟩
  rw [List.all_eq_true]
  intro x hx
  obtain ⟨j, hj, rfl⟩ := List.getElem_of_mem hx
  have := h j hj
  simpa [List.getD, hj] using this
theorem pl_no (n j : Nat) (hj : j < (pl n).length) (h : n % (pl n).getD j 0 = 0) : pl (n + 1) = pl n := by
  rw [pl, if_neg]
  rintro ⟨_, ha⟩
  rw [List.all_eq_true] at ha
  have := ha _ (List.getElem_mem hj)
  have e : (pl n).getD j 0 = (pl n)[j] := by simp [List.getD, hj]
  rw [e] at h
  simp [h] at this

theorem Try.infoU' : (Try.prog.info? 38).map (fun i => (i.zero, i.size, i.bytes)) = some (some (.int .u64 0), 1, 8) := by kernel_rfl
/-- make(.., 0, n). -/
theorem wpList_make_none {P : Program} (w : World) {ops : Array Oper} {rest : List Oper} {o : Oper} {a : Act} {Q : Exit → Act → World → Prop}
    (hg : o.guard = none) (l c : Operand) (t : TypeId) (hop : o.op = Op.makeSlice t l c) (e : TypeId) (k : IntKind) (bytes : Nat)
    (h1 : P.underlying t = some (.slice e)) (h2 : (P.info? e).map (fun i => (i.zero, i.size, i.bytes)) = some (some (.int k 0), 1, bytes))
    (kl kc : IntKind) (C : Int) (n : Nat) (hl : a.eval l = .int kl 0) (hc : a.eval c = .int kc C) (hC : C = (n : Int)) (b2 : bytes * n ≤ 281474976710656) (b3 : n ≤ maxLen)
    (hK : ∀ w', Own e k w' w.heap.size (.slice (some ⟨w.heap.size, 0, none⟩) 0 n) [] → Below w.heap.size w w' → w.heap.size ≤ w'.heap.size → wpList P ops Q rest (a.put o.dst (.slice (some ⟨w.heap.size, 0, none⟩) 0 n)) w') :
    wpList P ops Q (o :: rest) a w := by
  obtain ⟨i, hi, hz0, hz1, hz2⟩ := info_parts h2
  refine wpList_make_own w hg l c t hop w.heap.size e i (.int k 0) 1 h1 hi hz0 hz1 kl kc C n hl hc hC (by rw [hz2]; exact b2) b3 (Nat.le_refl _) ?_
  intro w' hown hgr
  exact hK w' hown ((Below.refl _ _).grown hgr (Nat.le_refl _) (fun k h => by cases h)) hgr.size

end Go.Proofs.Yticopomchoahnaa
/-
  Contracts of sha.constants and sha.beginning.
-/
namespace Go.Proofs.Yticopomchoahnaa
open Go.RowKit
set_option linter.unusedVariables false
set_option linter.unusedSimpArgs false

theorem pl_mono1 (n : Nat) : (pl n).length ≤ (pl (n + 1)).length := by
  rw [pl]
  split
  · simp
  · exact Nat.le_refl _
theorem pl_mono {n m : Nat} (h : n ≤ m) : (pl n).length ≤ (pl m).length := by
  induction h with
  | refl => exact Nat.le_refl _
  | step _ ih => exact Nat.le_trans ih (pl_mono1 _)
def frac (f : Int → Int → Bool) (p : Int) : Int := rootAt f p 35 % 4294967296
theorem pl312 : (pl 312).length = 64 := by decide +kernel
theorem pl311 : (pl 311).length = 63 := by decide +kernel
theorem pl20 : (pl 20).length = 8 := by decide +kernel
theorem pl19 : (pl 19).length = 7 := by decide +kernel
theorem K_table : (plI 312).map (frac cuB) = KS := by decide +kernel
theorem H_table : (plI 20).map (frac sqB) = HS := by decide +kernel

/-- A table, i of its words found. -/
def Tab (g : Int → Int) (l : List Int) (n i : Nat) (cur : List Int) : Prop := cur.length = n ∧ ∀ j, j < i → cur.getD j 0 = g (l.getD j 0)
theorem Tab.zero (g : Int → Int) (l : List Int) (n : Nat) : Tab g l n 0 (List.replicate n 0) := ⟨by simp, fun j h => by omega⟩
theorem Tab.step {g : Int → Int} {l cur : List Int} {n i : Nat} (h : Tab g l n i cur) (hi : i < n) : Tab g l n (i + 1) (cur.set i (g (l.getD i 0))) := by
  refine ⟨by simpa using h.1, fun j hj => ?_⟩
  by_cases e : j = i
  · subst e; simp [List.getD, h.1, hi]
  · have : (cur.set i (g (l.getD i 0))).getD j 0 = cur.getD j 0 := by simp [List.getD, List.getElem?_set_ne (show i ≠ j by omega)]
    rw [this]; exact h.2 j (by omega)
theorem Tab.done {g : Int → Int} {l cur : List Int} {n : Nat} (h : Tab g l n n cur) (hl : l.length = n) : cur = l.map g := by
  apply List.ext_getElem
  · rw [h.1, List.length_map, hl]
  · intro j h1 h2
    have := h.2 j (by rw [h.1] at h1; exact h1)
    have e1 : cur.getD j 0 = cur[j] := by simp [List.getD, h1]
    have h3 : j < l.length := by simpa using h2
    have e2 : l.getD j 0 = l[j] := by simp [List.getD, h3]
    rw [e1, e2] at this
    rw [this]; simp
theorem Row.setOther' {e : TypeId} {k : IntKind} {w : World} {g : Nat} {xs : List Int} (h : Row e k w g xs) {p : Addr} (hp : g ≠ p.block) (v : Value) : Row e k (w.setCell p v) g xs := by
  unfold Row
  rw [heap_setCell_other w p g v hp]
  exact h

end Go.Proofs.Yticopomchoahnaa
/-
  Contracts of the document's mul and root (its table).
-/
namespace Go.Proofs.Yticopomchoahnaa
open Go.RowKit
set_option linter.unusedVariables false
set_option linter.unusedSimpArgs false

/-- Nothing stands above yet. -/
def Zr (m : Nat) (cur : List Int) : Prop := ∀ j, m ≤ j → cur.getD j 0 = 0
theorem Zr.zero (n : Nat) (m : Nat) : Zr m (List.replicate n 0) := fun j _ => getD_zeros n j
theorem Zr.set {m j : Nat} {cur : List Int} (h : Zr m cur) (hj : j < m) (y : Int) : Zr m (cur.set j y) := fun i hi => by
  have : (cur.set j y).getD i 0 = cur.getD i 0 := by simp [List.getD, List.getElem?_set_ne (show j ≠ i by omega)]
  rw [this]; exact h i hi
theorem Zr.up {m : Nat} {cur : List Int} (h : Zr m cur) (y : Int) : Zr (m + 1) (cur.set m y) := fun i hi => by
  have : (cur.set m y).getD i 0 = cur.getD i 0 := by simp [List.getD, List.getElem?_set_ne (show m ≠ i by omega)]
  rw [this]; exact h i (by omega)

set_option maxHeartbeats 4000000 in
/-- the document's mul. -/
theorem sMul_any (ao bo : Option Addr) (la ca lb cb : Nat) (xs ys : List Int) (w : World) (h : NumIn .i64 D16 w ao la ca xs) (h' : NumIn .i64 D16 w bo lb cb ys) (hla : la ≤ 1000) (hlb : lb ≤ 1000) :
    Calls Try.prog 99 #[.slice ao la ca, .slice bo lb cb] w fun e w' => ∃ v, e = .returned v ∧ NbS w w' v (val D16 xs * val D16 ys) (la + lb) := by
  have hl := h.len
  have hl' := h'.len
  obtain ⟨N, hN⟩ : ∃ N, la + lb = N := ⟨_, rfl⟩
  have hNI : (la : Int) + (lb : Int) = (N : Int) := by omega
  have hN2 : N ≤ 2000 := by omega
  rw [hN]
  go_enter Try.func99, Try.ntmps99
  go_wp2_with (at_make; refine wpList_make_row _ rfl _ _ 52 rfl 3 .i64 8 Try.underlying52 Try.infoI _ _ _ _ N rfl rfl (by omega) (by omega) (by omega) (by unfold maxLen; omega) ?_; intro w3 hrow hbel)
  have HH : Hid (NumIn .i64 D16 w ao la ca xs ∧ NumIn .i64 D16 w bo lb cb ys ∧ xs.length = la ∧ ys.length = lb) := ⟨h, h', hl, hl'⟩
  clear h h' hl hl'
  go_loopw [6] (fun vi wr => ∃ (i : Nat) (cur : List Int), i ≤ la ∧ vi = .int .i64 i ∧ Row 3 .i64 wr w.heap.size cur ∧ RMuls xs ys N i 0 cur 0 ∧ Zr (i + lb) cur ∧ Below w.heap.size w wr) (fun vi _ => la - (intOf vi).toNat)
  case atStart => exact ⟨0, _, Nat.zero_le _, rfl, hrow, RMuls.zero _ _ _, Zr.zero _ _, hbel⟩
  case round =>
    obtain ⟨i, cur0, hi, rfl, hrw0, hm0, hz0, hb0⟩ := hrel
    clear hrow hbel
    by_cases hlt : i < la
    · have H0 : Hid (Row 3 .i64 wr w.heap.size cur0 ∧ RMuls xs ys N i 0 cur0 0 ∧ Zr (i + lb) cur0 ∧ Below w.heap.size w wr) := ⟨hrw0, hm0, hz0, hb0⟩
      clear hrw0 hm0 hz0 hb0
      go_wp2
      go_loopw [7, 8] (fun vc vk wr => ∃ (k : Nat) (c : Int) (cur : List Int), k ≤ lb ∧ vk = .int .i64 k ∧ vc = .int .i64 c ∧ Row 3 .i64 wr w.heap.size cur ∧ RMuls xs ys N i k cur c ∧ Zr (i + lb) cur ∧ Below w.heap.size w wr) (fun _ vk _ => lb - (intOf vk).toNat)
      case atStart => exact ⟨0, 0, cur0, by omega, rfl, rfl, H0.out⟩
      case round =>
        obtain ⟨k, c, cur, hk, rfl, rfl, hrw, hm, hz, hb⟩ := hrel
        clear H0
        have hc0 := hm.2.2.1
        have hc1 := hm.2.2.2.1
        by_cases hkl : k < lb
        · have hlen := hm.1
          obtain ⟨b, off, rfl, hblk, hcs⟩ := (HH.out.1.lies.old hb).at (by omega)
          have hcx := hcs i hlt
          obtain ⟨b2, off2, rfl, hblk2, hcs2⟩ := (HH.out.2.1.lies.old hb).at (by omega)
          have hcy := hcs2 k hkl
          have hfr := hrw.frozen (i + k)
          have hcl := hrw.cell (i + k) (by omega)
          have gx := HH.out.1.dg.getD D16_pos i
          have gy := HH.out.2.1.dg.getD D16_pos k
          have gz := hm.2.1.getD D16_pos (i + k)
          have HS : Hid (RMuls xs ys N i (k + 1) (cur.set (i + k) ((cur.getD (i + k) 0 + xs.getD i 0 * ys.getD k 0 + c) % 65536)) ((cur.getD (i + k) 0 + xs.getD i 0 * ys.getD k 0 + c) / 65536)) := by
            have := hm.step HH.out.1.dg HH.out.2.1.dg (by omega)
            rw [show cur.getD (i + k) 0 + c + xs.getD i 0 * ys.getD k 0 = cur.getD (i + k) 0 + xs.getD i 0 * ys.getD k 0 + c by omega] at this
            exact this
          have HZ : Hid (∀ y, Zr (i + lb) (cur.set (i + k) y)) := fun y => hz.set (by omega) y
          have HB : Hid (Row 3 .i64 wr w.heap.size cur ∧ Below w.heap.size w wr) := ⟨hrw, hb⟩
          have hp := prod16 (xs.getD i 0) (ys.getD k 0) gx gy
          have hp1 := hp.1
          have hp2 := hp.2
          have gz1 := gz.1
          have gz2 : cur.getD (i + k) 0 < 65536 := gz.2
          generalize cur.getD (i + k) 0 = z at *
          generalize xs.getD i 0 = x at *
          generalize ys.getD k 0 = y at *
          have hmul : IntKind.i64.wrap (x * y) = x * y := IntWalk.i64_in _ (by omega)
          clear hrw hm hb hcs hcs2 gx gy gz hp hz
          go_wp2
          go_quiet (fail)
          go_wp2
          go_roundw
          case rel => exact ⟨k + 1, _, _, by omega, by go_num, rfl, (HB.out.1.drewN _).set _ _, HS.out, HZ.out _, (HB.out.2.trans (Drew.below ⟨_, rfl⟩ _)).setCell (Nat.le_refl _) _⟩
          case measure => simp [intOf] <;> omega
        · obtain rfl : k = lb := by omega
          have hlen := hm.1
          have hfr := hrw.frozen (i + k)
          have hcl := hrw.cell (i + k) (by omega)
          have HS : Hid (RMuls xs ys N (i + 1) 0 (cur.set (i + k) c) 0) := by
            have := hm.step HH.out.1.dg HH.out.2.1.dg (by omega)
            rw [hz (i + k) (Nat.le_refl _), getD_over ys k (by have := HH.out; omega)] at this
            rw [show (0 + c + xs.getD i 0 * 0) % 65536 = c by omega, show (0 + c + xs.getD i 0 * 0) / 65536 = 0 by omega] at this
            exact this.next (by have := HH.out; omega)
          have HZ : Hid (Zr (i + 1 + k) (cur.set (i + k) c)) := by
            have := hz.up c
            rw [show i + 1 + k = i + k + 1 by omega]
            exact this
          have HB : Hid (Row 3 .i64 wr w.heap.size cur ∧ Below w.heap.size w wr) := ⟨hrw, hb⟩
          clear hrw hm hb hz
          go_wp2
          go_roundw
          case rel => exact ⟨i + 1, _, by omega, by go_num, HB.out.1.set _ _, HS.out, HZ.out, HB.out.2.setCell (Nat.le_refl _) _⟩
          case measure => simp [intOf] <;> omega
    · obtain rfl : i = la := by omega
      have hlen := hm0.1
      have HV : Hid (val D16 cur0 = val D16 xs * val D16 ys) := by have := hm0; rw [← HH.out.2.2.1] at this; exact this.done (k := 0)
      have HR : Hid (NumIn .i64 D16 wr (some ⟨w.heap.size, 0, none⟩) N N cur0 ∧ Below w.heap.size w wr) := ⟨by have := hrw0.num hm0.2.1 (by omega); rw [hlen] at this; exact this, hb0⟩
      clear hm0 hb0 hrw0 hz0
      go_wp2
      go_ret
      exact ⟨_, rfl, _, _, _, cur0, rfl, HR.out.1, HV.out, Nat.le_refl _, HR.out.2⟩
end Go.Proofs.Yticopomchoahnaa
