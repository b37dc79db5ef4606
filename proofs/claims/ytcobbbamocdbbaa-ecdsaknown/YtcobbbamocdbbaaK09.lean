import Derived.Test.YtcobbbamocdbbaaK08
/-
  The curve P-256, as the law has it.
-/
namespace Go.Proofs.Ytcobbbamocdbbaa
set_option linter.unusedVariables false
set_option linter.unusedSimpArgs false
/-- A product. -/
def prodL (l : List Nat) : Nat := l.foldr (fun a b => a * b) 1
theorem perm_prod {l1 l2 : List Nat} (h : l1.Perm l2) : prodL l1 = prodL l2 := by
  induction h with
  | nil => rfl
  | cons x _ ih => show x * prodL _ = x * prodL _; rw [ih]
  | swap x y l => show y * (x * prodL l) = x * (y * prodL l); rw [← Nat.mul_assoc, Nat.mul_comm y x, Nat.mul_assoc]
  | trans _ _ ih1 ih2 => exact ih1.trans ih2
theorem prod_mul (a p : Nat) : ∀ l : List Nat, prodL (l.map fun i => a * i % p) % p = a ^ l.length * prodL l % p
  | [] => rfl
  | x :: l => by
    show (a * x % p * prodL (l.map fun i => a * i % p)) % p = a ^ (l.length + 1) * (x * prodL l) % p
    rw [Nat.mul_mod, Nat.mod_mod, prod_mul a p l, ← Nat.mul_mod, Nat.pow_succ]
    congr 1
    rw [Nat.mul_mul_mul_comm, Nat.mul_comm a]
theorem prime_prod {p : Nat} (hp : PrimeN p) (h1 : 1 < p) : ∀ l : List Nat, (∀ x ∈ l, ¬ p ∣ x) → ¬ p ∣ prodL l
  | [], _, h => by
    have := Nat.le_of_dvd (by decide : 0 < prodL []) h
    have e : prodL [] = 1 := rfl
    omega
  | x :: l, hl, h => by
    rcases hp x (prodL l) h with h2 | h2
    · exact hl x List.mem_cons_self h2
    · exact prime_prod hp h1 l (fun y hy => hl y (List.mem_cons_of_mem _ hy)) h2
/-- An inverse. -/
theorem prime_inv {p a : Nat} (hp : PrimeN p) (ha : ¬ p ∣ a) (h1 : 1 < p) : ∃ b, b * a % p = 1 := by
  have h0 : 0 < a % p := Nat.pos_of_ne_zero fun e => ha (Nat.dvd_of_mod_eq_zero e)
  have hg := prime_gcd hp h0 (Nat.mod_lt _ (by omega))
  obtain ⟨x, y, h⟩ := bez p (a % p)
  rw [hg] at h
  refine ⟨(y % p).toNat, ?_⟩
  have hy : 0 ≤ y % (p : Int) := Int.emod_nonneg _ (by omega)
  have e1 : (y % (p : Int) * (a : Int)) % p = (y * a) % p := by rw [Int.mul_emod, Int.emod_emod, ← Int.mul_emod]
  have e2 : (y * ((a % p : Nat) : Int)) % p = (y * a) % p := by rw [Int.natCast_emod, Int.mul_emod, Int.emod_emod, ← Int.mul_emod]
  have e : (((y % p).toNat * a % p : Nat) : Int) = 1 := by
    rw [Int.natCast_emod, Int.natCast_mul, Int.toNat_of_nonneg hy, e1, ← e2]
    have : y * ((a % p : Nat) : Int) = 1 + (p : Int) * (-x) := by
      have h' : (1 : Int) = p * x + ((a % p : Nat) : Int) * y := h
      rw [Int.mul_comm y, Int.mul_neg]
      omega
    rw [this, Int.add_mul_emod_self_left]
    exact Int.emod_eq_of_lt (by omega) (by omega)
  omega
/-- Fermat. -/
theorem fermat {p a : Nat} (hp : PrimeN p) (h1 : 1 < p) (ha : ¬ p ∣ a) : a ^ (p - 1) % p = 1 := by
  obtain ⟨b, hb⟩ := prime_inv hp ha h1
  have hinj : ∀ x y, x < p → y < p → a * x % p = a * y % p → x = y := by
    intro x y hx hy e
    have h2 : b * (a * x) % p = b * (a * y) % p := by rw [Nat.mul_mod, e, ← Nat.mul_mod]
    rw [← Nat.mul_assoc, ← Nat.mul_assoc, Nat.mul_mod, hb, Nat.mul_mod (b * a) y, hb, Nat.one_mul, Nat.one_mul, Nat.mod_mod, Nat.mod_mod, Nat.mod_eq_of_lt hx, Nat.mod_eq_of_lt hy] at h2
    exact h2
  obtain ⟨L, hL⟩ : ∃ L, (List.range (p - 1)).map (fun i => i + 1) = L := ⟨_, rfl⟩
  have hmem : ∀ x, x ∈ L ↔ 0 < x ∧ x < p := by
    intro x
    rw [← hL, List.mem_map]
    constructor
    · rintro ⟨i, hi, rfl⟩
      rw [List.mem_range] at hi
      omega
    · intro h
      exact ⟨x - 1, List.mem_range.2 (by omega), by omega⟩
  have hnd : L.Nodup := by
    rw [← hL]
    refine List.Pairwise.map (R := fun x y => x ≠ y) _ (fun x y h e => h (by omega)) List.nodup_range
  have hnot : ∀ x, 0 < x → x < p → ¬ p ∣ x := fun x h0 hx h => by have := Nat.le_of_dvd h0 h; omega
  have hnd2 : (L.map fun i => a * i % p).Nodup := by
    refine List.Pairwise.map (R := fun x y => x ≠ y ∧ x ∈ L ∧ y ∈ L) _ (fun x y h e => h.1 (hinj x y ((hmem x).1 h.2.1).2 ((hmem y).1 h.2.2).2 e)) ?_
    have : ∀ l : List Nat, (∀ x ∈ l, x ∈ L) → l.Nodup → l.Pairwise (fun x y => x ≠ y ∧ x ∈ L ∧ y ∈ L) := by
      intro l
      induction l with
      | nil => intro _ _; exact List.Pairwise.nil
      | cons x l ih =>
        intro hl hn
        rw [List.nodup_cons] at hn
        refine List.Pairwise.cons (fun y hy => ⟨fun e => hn.1 (e ▸ hy), hl x List.mem_cons_self, hl y (List.mem_cons_of_mem _ hy)⟩) (ih (fun y hy => hl y (List.mem_cons_of_mem _ hy)) hn.2)
    exact this L (fun x h => h) hnd
  have hperm : (L.map fun i => a * i % p).Perm L := by
    rw [List.perm_ext_iff_of_nodup hnd2 hnd]
    intro x
    rw [List.mem_map, hmem]
    constructor
    · rintro ⟨i, hi, rfl⟩
      rw [hmem] at hi
      refine ⟨Nat.pos_of_ne_zero fun e => ?_, Nat.mod_lt _ (by omega)⟩
      rcases hp a i (Nat.dvd_of_mod_eq_zero e) with h | h
      · exact ha h
      · exact hnot i hi.1 hi.2 h
    · intro hx
      refine ⟨b * x % p, ?_, ?_⟩
      · rw [hmem]
        refine ⟨Nat.pos_of_ne_zero fun e => ?_, Nat.mod_lt _ (by omega)⟩
        rcases hp b x (Nat.dvd_of_mod_eq_zero e) with h | h
        · obtain ⟨k, hk⟩ := h
          rw [hk, Nat.mul_assoc, Nat.mul_mod_right] at hb
          omega
        · exact hnot x hx.1 hx.2 h
      · rw [Nat.mul_mod, Nat.mod_mod, ← Nat.mul_mod, ← Nat.mul_assoc, Nat.mul_comm a b, Nat.mul_mod, hb, Nat.one_mul, Nat.mod_mod, Nat.mod_eq_of_lt hx.2]
  have hlen : L.length = p - 1 := by rw [← hL]; simp
  have hprod := prod_mul a p L
  rw [perm_prod hperm, hlen] at hprod
  have hn := prime_prod hp h1 L (fun x hx => hnot x ((hmem x).1 hx).1 ((hmem x).1 hx).2)
  obtain ⟨c, hc⟩ := prime_inv hp hn h1
  have h3 : c * prodL L % p = c * (a ^ (p - 1) * prodL L) % p := by rw [Nat.mul_mod, hprod, ← Nat.mul_mod]
  rw [hc, Nat.mul_left_comm, Nat.mul_mod, hc, Nat.mul_one, Nat.mod_mod] at h3
  exact h3.symm
/-- Where two powers are 1, so is the one of their greatest divisor. -/
theorem pow_gcd {p a : Nat} (h1 : 1 < p) (x y : Nat) : a ^ x % p = 1 → a ^ y % p = 1 → a ^ Nat.gcd x y % p = 1 := by
  induction x, y using Nat.gcd.induction with
  | H0 n => intro _ h; rw [Nat.gcd_zero_left]; exact h
  | H1 m n hm ih =>
    intro hx hy
    rw [Nat.gcd_rec]
    refine ih ?_ hx
    have e : a ^ n = (a ^ m) ^ (n / m) * a ^ (n % m) := by rw [← Nat.pow_mul, ← Nat.pow_add, Nat.div_add_mod]
    rw [e, Nat.mul_mod, Nat.pow_mod, hx, Nat.one_pow, Nat.mod_eq_of_lt h1, Nat.one_mul, Nat.mod_mod] at hy
    exact hy
/-- A prime divisor. -/
theorem prime_div (d : Nat) (h2 : 2 ≤ d) : ∃ p, 2 ≤ p ∧ PrimeN p ∧ p ∣ d := by
  induction d using Nat.strongRecOn with
  | ind d ih =>
    by_cases h : ∃ e, 2 ≤ e ∧ e < d ∧ e ∣ d
    · obtain ⟨e, he, hed, hdv⟩ := h
      obtain ⟨p, hp, hpp, hpd⟩ := ih e hed he
      exact ⟨p, hp, hpp, Nat.dvd_trans hpd hdv⟩
    · refine ⟨d, h2, prime_of fun a ha h0 => ?_, Nat.dvd_refl d⟩
      have hg := Nat.gcd_dvd_left d a
      have hl := Nat.le_of_dvd (by omega) (Nat.gcd_dvd_right d a)
      have hp : 0 < Nat.gcd d a := Nat.gcd_pos_of_pos_right _ (by omega)
      rcases Nat.lt_or_ge (Nat.gcd d a) 2 with h3 | h3
      · omega
      · exact absurd ⟨_, h3, by omega, hg⟩ h
/-- A power, by squares. -/
def powm (N : Nat) : Nat → Nat → Nat → Nat
  | 0, _, _ => 1 % N
  | f + 1, a, e => if e = 0 then 1 % N else if e % 2 = 0 then powm N f (a * a % N) (e / 2) else a * powm N f (a * a % N) (e / 2) % N
theorem powm_eq (N : Nat) : ∀ f a e, e < 2 ^ f → powm N f a e = a ^ e % N
  | 0, a, e, h => by
    have : e = 0 := by simpa using h
    subst this
    rfl
  | f + 1, a, e, h => by
    unfold powm
    by_cases h0 : e = 0
    · rw [if_pos h0, h0]; rfl
    · rw [if_neg h0]
      have hlt : e / 2 < 2 ^ f := by rw [Nat.pow_succ] at h; omega
      rw [powm_eq N f (a * a % N) (e / 2) hlt, ← Nat.pow_mod]
      have hsq : (a * a) ^ (e / 2) = a ^ (2 * (e / 2)) := by rw [← Nat.pow_two, ← Nat.pow_mul]
      rw [hsq]
      by_cases h2 : e % 2 = 0
      · rw [if_pos h2, show 2 * (e / 2) = e by omega]
      · rw [if_neg h2, Nat.mul_mod, Nat.mod_mod, ← Nat.mul_mod, ← Nat.pow_succ', show (2 * (e / 2)).succ = e by omega]
/-- What a factor of N - 1 tells of N's divisors. -/
theorem pock_div {N q R : Nat} (hN : 1 < N) (hq : PrimeN q) (hR : N - 1 = q * R) (h1 : powm N 256 2 (N - 1) = 1) (h2 : Nat.gcd (powm N 256 2 R + (N - 1)) N = 1) (hl : N < 2 ^ 256) {p : Nat} (hp : PrimeN p) (hp2 : 2 ≤ p) (hd : p ∣ N) : q ∣ p - 1 := by
  have hR0 : 0 < R := Nat.pos_of_ne_zero fun e => by rw [e] at hR; omega
  have hq0 : 0 < q := Nat.pos_of_ne_zero fun e => by rw [e] at hR; omega
  have hRl : R ≤ N - 1 := by rw [hR]; exact Nat.le_mul_of_pos_left _ hq0
  rw [powm_eq N 256 2 (N - 1) (by omega)] at h1
  rw [powm_eq N 256 2 R (by omega)] at h2
  have m1 : 2 ^ (N - 1) % p = 1 := by
    rw [← Nat.mod_mod_of_dvd _ hd, h1]
    exact Nat.mod_eq_of_lt (by omega)
  have hna : ¬ p ∣ 2 := fun h => by
    have : 2 ^ (N - 1) % p = 0 := by
      rw [Nat.pow_mod, Nat.mod_eq_zero_of_dvd h, Nat.zero_pow (by omega), Nat.zero_mod]
    omega
  have m2 := fermat hp (by omega) hna
  apply Classical.byContradiction
  intro hnq
  have hg : Nat.gcd (N - 1) (p - 1) ∣ R := by
    have hc : Nat.Coprime q (p - 1) := by
      have hgd := Nat.gcd_dvd_left q (p - 1)
      obtain ⟨k, hk⟩ := hgd
      have hdq : q ∣ Nat.gcd q (p - 1) * k := ⟨1, by omega⟩
      rcases hq _ _ hdq with h | h
      · exact absurd (Nat.dvd_trans h (Nat.gcd_dvd_right q (p - 1))) hnq
      · have hk0 : 0 < k := Nat.pos_of_ne_zero fun e => by rw [e] at hk; omega
        have hle := Nat.le_of_dvd hk0 h
        have hgp : 0 < Nat.gcd q (p - 1) := Nat.gcd_pos_of_pos_left _ hq0
        show Nat.gcd q (p - 1) = 1
        generalize Nat.gcd q (p - 1) = g at *
        rcases g with _ | _ | g
        · omega
        · rfl
        · have h6 : (g + 1 + 1) * k = g * k + k + k := by rw [Nat.add_mul, Nat.add_mul]; omega
          have h7 : 0 ≤ g * k := Nat.zero_le _
          omega
    have hcg : Nat.Coprime (Nat.gcd (N - 1) (p - 1)) q := Nat.Coprime.coprime_dvd_left (Nat.gcd_dvd_right _ _) hc.symm
    have hdv : Nat.gcd (N - 1) (p - 1) ∣ q * R := by rw [← hR]; exact Nat.gcd_dvd_left _ _
    exact hcg.dvd_of_dvd_mul_left hdv
  have m3 := pow_gcd (by omega) _ _ m1 m2
  obtain ⟨k, hk⟩ := hg
  have m4 : 2 ^ R % p = 1 := by
    rw [hk, Nat.pow_mul, Nat.pow_mod, m3, Nat.one_pow]
    exact Nat.mod_eq_of_lt (by omega)
  have hdd : p ∣ 2 ^ R % N + (N - 1) := by
    have e1 : (2 ^ R % N) % p = 1 := by rw [Nat.mod_mod_of_dvd _ hd]; exact m4
    obtain ⟨c, hc⟩ := hd
    refine Nat.dvd_of_mod_eq_zero ?_
    have e2 : 2 ^ R % N = p * (2 ^ R % N / p) + 1 := by have := Nat.div_add_mod (2 ^ R % N) p; omega
    have hc0 : 0 < c := Nat.pos_of_ne_zero fun e => by rw [e] at hc; omega
    have e3 : 2 ^ R % N + (N - 1) = p * (2 ^ R % N / p) + p * c := by
      have : 0 < p * c := Nat.mul_pos (by omega) hc0
      omega
    rw [e3, ← Nat.mul_add, Nat.mul_mod_right]
  have := Nat.dvd_gcd hdd hd
  rw [h2] at this
  have := Nat.le_of_dvd (by decide) this
  omega
/-- A prime, by one great factor of N - 1. -/
theorem pock1 {N q R : Nat} (hN : 1 < N) (hq : PrimeN q) (hR : N - 1 = q * R) (h1 : powm N 256 2 (N - 1) = 1) (h2 : Nat.gcd (powm N 256 2 R + (N - 1)) N = 1) (hl : N < 2 ^ 256) (hF : N ≤ q * q) : PrimeN N := by
  refine prime_root fun d hd2 hdd hm => ?_
  obtain ⟨p, hp2, hp, hpd⟩ := prime_div d hd2
  have h3 := pock_div hN hq hR h1 h2 hl hp hp2 (Nat.dvd_trans hpd (Nat.dvd_of_mod_eq_zero hm))
  have h4 := Nat.le_of_dvd (by omega) h3
  have h5 := Nat.le_of_dvd (by omega) hpd
  have h6 : q * q < d * d := Nat.mul_lt_mul'' (by omega) (by omega)
  omega
/-- By two. -/
theorem pock2 {N q R q' R' : Nat} (hN : 1 < N) (hq : PrimeN q) (hR : N - 1 = q * R) (h1 : powm N 256 2 (N - 1) = 1) (h2 : Nat.gcd (powm N 256 2 R + (N - 1)) N = 1) (hq' : PrimeN q') (hR' : N - 1 = q' * R') (h2' : Nat.gcd (powm N 256 2 R' + (N - 1)) N = 1) (hc : Nat.Coprime q q') (hl : N < 2 ^ 256) (hF : N ≤ (q * q') * (q * q')) : PrimeN N := by
  refine prime_root fun d hd2 hdd hm => ?_
  obtain ⟨p, hp2, hp, hpd⟩ := prime_div d hd2
  have hpN := Nat.dvd_trans hpd (Nat.dvd_of_mod_eq_zero hm)
  have h3 := pock_div hN hq hR h1 h2 hl hp hp2 hpN
  have h3' := pock_div hN hq' hR' h1 h2' hl hp hp2 hpN
  have h4 := Nat.le_of_dvd (by omega) (Nat.Coprime.mul_dvd_of_dvd_of_dvd hc h3 h3')
  have h5 := Nat.le_of_dvd (by omega) hpd
  have h6 : (q * q') * (q * q') < d * d := Nat.mul_lt_mul'' (by omega) (by omega)
  omega
theorem gp0 : PrimeN 704251 := pock2 (q := 313) (R := 2250) (q' := 5) (R' := 140850) (by decide) (prime_below (P := 313) (by decide) (by decide +kernel)) (by decide +kernel) (by decide +kernel) (by decide +kernel) (prime_below (P := 5) (by decide) (by decide +kernel)) (by decide +kernel) (by decide +kernel) (by decide +kernel) (by decide) (by decide)
theorem gp1 : PrimeN 78283 := pock1 (q := 4349) (R := 18) (by decide) (prime_below (P := 4349) (by decide) (by decide +kernel)) (by decide +kernel) (by decide +kernel) (by decide +kernel) (by decide) (by decide)
theorem gp2 : PrimeN 66417393611 := pock2 (q := 3677) (R := 18062930) (q' := 197) (R' := 337144130) (by decide) (prime_below (P := 3677) (by decide) (by decide +kernel)) (by decide +kernel) (by decide +kernel) (by decide +kernel) (prime_below (P := 197) (by decide) (by decide +kernel)) (by decide +kernel) (by decide +kernel) (by decide +kernel) (by decide) (by decide)
theorem gp3 : PrimeN 11290956913871 := pock1 (q := 66417393611) (R := 170) (by decide) gp2 (by decide +kernel) (by decide +kernel) (by decide +kernel) (by decide) (by decide)
theorem gp4 : PrimeN 46076956964474543 := pock2 (q := 704251) (R := 65426896042) (q' := 78283) (R' := 588594675274) (by decide) gp0 (by decide +kernel) (by decide +kernel) (by decide +kernel) gp1 (by decide +kernel) (by decide +kernel) (by decide +kernel) (by decide) (by decide)
theorem gp5 : PrimeN 774023187263532362759620327192479577272145303 := pock2 (q := 46076956964474543) (R := 16798487535978261528513091914) (q' := 11290956913871) (R' := 68552487904071337216976429044362) (by decide) gp4 (by decide +kernel) (by decide +kernel) (by decide +kernel) gp3 (by decide +kernel) (by decide +kernel) (by decide +kernel) (by decide) (by decide)
theorem gp6 : PrimeN 835945042244614951780389953367877943453916927241 := pock1 (q := 774023187263532362759620327192479577272145303) (R := 1080) (by decide) gp5 (by decide +kernel) (by decide +kernel) (by decide +kernel) (by decide) (by decide)
theorem gp7 : PrimeN 115792089210356248762697446949407573530086143415290314195533631308867097853951 := pock1 (q := 835945042244614951780389953367877943453916927241) (R := 138516389665330497628477975950) (by decide) gp6 (by decide +kernel) (by decide +kernel) (by decide +kernel) (by decide) (by decide)
open Go.Shelf Go.RowKit

def greatZ : Cz := ⟨115792089210356248762697446949407573530086143415290314195533631308867097853951, 115792089210356248762697446949407573530086143415290314195533631308867097853948, 41058363725152142129326129780047268409114441015993725554835256314039467401291, 48439561293906451759052585252797914202762949526041747995844080717082404635286, 36134250956749795798585127919587881956611106672985015071877198253568414405109, 115792089210356248762697446949407573529996955224135760342422259061068512044369⟩
theorem great_good : GoodK greatZ 115792089210356248762697446949407573530086143415290314195533631308867097853951 := ⟨rfl, gp7, by decide, smooth_of (by decide +kernel)⟩
theorem great_base : Gd greatZ 115792089210356248762697446949407573530086143415290314195533631308867097853951 (baseZ greatZ) := by
  have hb : ptR 115792089210356248762697446949407573530086143415290314195533631308867097853951 (baseZ greatZ) = some (fp 115792089210356248762697446949407573530086143415290314195533631308867097853951 greatZ.gx, fp 115792089210356248762697446949407573530086143415290314195533631308867097853951 greatZ.gy) := by unfold ptR baseZ; rw [if_neg (by simp)]
  refine ⟨by unfold RdP baseZ; rw [if_neg (by simp)]; decide, ?_⟩
  rw [hb]
  show fp 115792089210356248762697446949407573530086143415290314195533631308867097853951 greatZ.gy * fp 115792089210356248762697446949407573530086143415290314195533631308867097853951 greatZ.gy = fp 115792089210356248762697446949407573530086143415290314195533631308867097853951 greatZ.gx * fp 115792089210356248762697446949407573530086143415290314195533631308867097853951 greatZ.gx * fp 115792089210356248762697446949407573530086143415290314195533631308867097853951 greatZ.gx + fp 115792089210356248762697446949407573530086143415290314195533631308867097853951 greatZ.a * fp 115792089210356248762697446949407573530086143415290314195533631308867097853951 greatZ.gx + fp 115792089210356248762697446949407573530086143415290314195533631308867097853951 greatZ.b
  decide +kernel
theorem Mul_g {P : Nat} [NeZero P] {K : Cz} (g : GoodK K P) (hb : Gd K P (baseZ K)) (c k p : Value) (n : Int) (m L : Nat) (w : World) (hc : Cu w c K L) (hk : Nv w k n L) (hp : Pv w p (baseZ K) L) (hL : 1 ≤ L ∧ L ≤ 70) (hn : n = (m : Int)) :
    Calls Try.prog 28 #[c, k, p] w fun e w' => ∃ s, Mt K P (baseZ K) m s ∧ Below w.heap.size w w' ∧ ∃ v, e = .returned v ∧ Pr w' v (some s) L := by
  subst hn
  refine (Mul_pt c k p K m (baseZ K) L w hc hk hp hL g.p0).mono ?_
  rintro e w' ⟨r, hr, hpa⟩
  obtain ⟨s, rfl, hs⟩ := mul_good g hb hr
  exact ⟨s, hs, hpa.pr⟩
theorem Add_g {P : Nat} [NeZero P] {K : Cz} (g : GoodK K P) (hbs : Gd K P (baseZ K)) (c p q : Value) (p' q' : Pz) (a b L : Nat) (w : World) (hc : Cu w c K L) (hp : Pv w p p' L) (hq : Pv w q q' L) (hL : 1 ≤ L ∧ L ≤ 70) (ha : Mt K P (baseZ K) a p') (hb : Mt K P (baseZ K) b q') :
    Calls Try.prog 29 #[c, p, q] w fun e w' => ∃ s, Mt K P (baseZ K) (a + b) s ∧ Below w.heap.size w w' ∧ ∃ v, e = .returned v ∧ Pr w' v (some s) L := by
  refine (Add_pt c p q K p' q' L w hc hp hq (by omega)).mono ?_
  rintro e w' ⟨r, hr, hpa⟩
  obtain ⟨s, rfl, hs⟩ := Mt.add g hbs ha hb hr
  exact ⟨s, hs, hpa.pr⟩
theorem sizeCu : (Try.prog.info? 29).map (·.size) = some 9 := by kernel_rfl
theorem ret_cu {fn : Func} {p : Tmp} (h : fn.results = #[.cell p 29]) (tmps : Array Value) (w : World) (g : Nat) (c0 c1 c2 c3 c4 c5 c6 c7 c8 : Value) (hp : tmps.getD p undef = .pointer (some ⟨g, 0, none⟩)) (hg : w.heap[g]? = some (.cells #[c0, c1, c2, c3, c4, c5, c6, c7, c8] 29 (0, 0))) :
    (results fn tmps).run Try.prog w = .ok (.agg #[c0, c1, c2, c3, c4, c5, c6, c7, c8]) w :=
  results_cell_row h tmps w g 29 _ (0, 0) _ hp hg Try.underlying29 rfl sizeCu
/-- Four limbs in a new place. -/
theorem nv4 (w : World) (a b c d : Int) (n : Int) (ha : 0 ≤ a ∧ a < B64) (hb : 0 ≤ b ∧ b < B64) (hc : 0 ≤ c ∧ c < B64) (hd : 0 ≤ d ∧ d < B64) (hn : val B64 [a, b, c, d] = n) : Nv (w.alloc (.cells #[.int .u64 a, .int .u64 b, .int .u64 c, .int .u64 d] 34)) (.slice (some ⟨w.heap.size, 0, none⟩) 4 4) n 4 := by
  refine ⟨_, 4, 4, [a, b, c, d], rfl, ⟨⟨rfl, .inr ⟨w.heap.size, 0, rfl, by rw [alloc_sz7]; omega, fun i hi => ?_⟩⟩, Nat.le_refl _, by unfold maxLen; omega, fun h => (by cases h), ?_, by omega⟩, hn, Nat.le_refl _⟩
  · rw [cell_of_row _ _ _ _ _ _ (heap_alloc_new w _)]
    match i, hi with
    | 0, _ => rfl
    | 1, _ => rfl
    | 2, _ => rfl
    | 3, _ => rfl
  · intro x hx
    simp only [List.mem_cons, List.not_mem_nil, or_false] at hx
    rcases hx with rfl | rfl | rfl | rfl
    · exact ha
    · exact hb
    · exact hc
    · exact hd
set_option maxRecDepth 100000 in
set_option maxHeartbeats 4000000 in
theorem Great_any (w : World) : Calls Try.prog 26 #[] w fun e w' => ∃ v, e = .returned v ∧ Cu w' v greatZ 4 ∧ Below w.heap.size w w' := by
  obtain ⟨w1, e1⟩ : ∃ x, w.alloc (.cells #[.int .i64 (-7), .int .i64 1, .slice (some ⟨w.heap.size + 1, 0, none⟩) 7 7, .slice (some ⟨w.heap.size + 1 + 1, 0, none⟩) 4 4, .slice (some ⟨w.heap.size + 1 + 1 + 1, 0, none⟩) 4 4, .slice (some ⟨w.heap.size + 1 + 1 + 1 + 1, 0, none⟩) 4 4, .slice (some ⟨w.heap.size + 1 + 1 + 1 + 1 + 1, 0, none⟩) 4 4, .slice (some ⟨w.heap.size + 1 + 1 + 1 + 1 + 1 + 1, 0, none⟩) 4 4, .slice (some ⟨w.heap.size + 1 + 1 + 1 + 1 + 1 + 1 + 1, 0, none⟩) 4 4] 29) = x := ⟨_, rfl⟩
  have z1 : w1.heap.size = w.heap.size + 1 := by rw [← e1, alloc_sz7]
  have b1 : Below w.heap.size w w1 := by rw [← e1]; exact (Below.refl _ _).alloc (Nat.le_refl _) _
  obtain ⟨w2, e2⟩ : ∃ x, w1.alloc (.cells #[.int .u64 1, .int .u64 2, .int .u64 840, .int .u64 10045, .int .u64 3, .int .u64 1, .int .u64 7] 34) = x := ⟨_, rfl⟩
  have z2 : w2.heap.size = w.heap.size + 1 + 1 := by rw [← e2, alloc_sz7, z1]
  have b2 : Below w1.heap.size w1 w2 := by rw [← e2]; exact (Below.refl _ _).alloc (Nat.le_refl _) _
  obtain ⟨w3, e3⟩ : ∃ x, w2.alloc (.cells #[.int .u64 18446744073709551615, .int .u64 4294967295, .int .u64 0, .int .u64 18446744069414584321] 34) = x := ⟨_, rfl⟩
  have z3 : w3.heap.size = w.heap.size + 1 + 1 + 1 := by rw [← e3, alloc_sz7, z2]
  have b3 : Below w2.heap.size w2 w3 := by rw [← e3]; exact (Below.refl _ _).alloc (Nat.le_refl _) _
  obtain ⟨w4, e4⟩ : ∃ x, w3.alloc (.cells #[.int .u64 18446744073709551612, .int .u64 4294967295, .int .u64 0, .int .u64 18446744069414584321] 34) = x := ⟨_, rfl⟩
  have z4 : w4.heap.size = w.heap.size + 1 + 1 + 1 + 1 := by rw [← e4, alloc_sz7, z3]
  have b4 : Below w3.heap.size w3 w4 := by rw [← e4]; exact (Below.refl _ _).alloc (Nat.le_refl _) _
  obtain ⟨w5, e5⟩ : ∃ x, w4.alloc (.cells #[.int .u64 4309448131093880907, .int .u64 7285987128567378166, .int .u64 12964664127075681980, .int .u64 6540974713487397863] 34) = x := ⟨_, rfl⟩
  have z5 : w5.heap.size = w.heap.size + 1 + 1 + 1 + 1 + 1 := by rw [← e5, alloc_sz7, z4]
  have b5 : Below w4.heap.size w4 w5 := by rw [← e5]; exact (Below.refl _ _).alloc (Nat.le_refl _) _
  obtain ⟨w6, e6⟩ : ∃ x, w5.alloc (.cells #[.int .u64 17627433388654248598, .int .u64 8575836109218198432, .int .u64 17923454489921339634, .int .u64 7716867327612699207] 34) = x := ⟨_, rfl⟩
  have z6 : w6.heap.size = w.heap.size + 1 + 1 + 1 + 1 + 1 + 1 := by rw [← e6, alloc_sz7, z5]
  have b6 : Below w5.heap.size w5 w6 := by rw [← e6]; exact (Below.refl _ _).alloc (Nat.le_refl _) _
  obtain ⟨w7, e7⟩ : ∃ x, w6.alloc (.cells #[.int .u64 14678990851816772085, .int .u64 3156516839386865358, .int .u64 10297457778147434006, .int .u64 5756518291402817435] 34) = x := ⟨_, rfl⟩
  have z7 : w7.heap.size = w.heap.size + 1 + 1 + 1 + 1 + 1 + 1 + 1 := by rw [← e7, alloc_sz7, z6]
  have b7 : Below w6.heap.size w6 w7 := by rw [← e7]; exact (Below.refl _ _).alloc (Nat.le_refl _) _
  obtain ⟨w8, e8⟩ : ∃ x, w7.alloc (.cells #[.int .u64 17562291160714782033, .int .u64 13611842547513532036, .int .u64 18446744073709551615, .int .u64 18446744069414584320] 34) = x := ⟨_, rfl⟩
  have z8 : w8.heap.size = w.heap.size + 1 + 1 + 1 + 1 + 1 + 1 + 1 + 1 := by rw [← e8, alloc_sz7, z7]
  have b8 : Below w7.heap.size w7 w8 := by rw [← e8]; exact (Below.refl _ _).alloc (Nat.le_refl _) _
  have c1 : w1.heap[w.heap.size]? = some (.cells #[.int .i64 (-7), .int .i64 1, .slice (some ⟨w.heap.size + 1, 0, none⟩) 7 7, .slice (some ⟨w.heap.size + 1 + 1, 0, none⟩) 4 4, .slice (some ⟨w.heap.size + 1 + 1 + 1, 0, none⟩) 4 4, .slice (some ⟨w.heap.size + 1 + 1 + 1 + 1, 0, none⟩) 4 4, .slice (some ⟨w.heap.size + 1 + 1 + 1 + 1 + 1, 0, none⟩) 4 4, .slice (some ⟨w.heap.size + 1 + 1 + 1 + 1 + 1 + 1, 0, none⟩) 4 4, .slice (some ⟨w.heap.size + 1 + 1 + 1 + 1 + 1 + 1 + 1, 0, none⟩) 4 4] 29 (0, 0)) := by rw [← e1]; exact heap_alloc_new w _
  have n1 : Nv w3 (.slice (some ⟨w.heap.size + 1 + 1, 0, none⟩) 4 4) greatZ.p 4 := by rw [← e3, ← z2]; exact nv4 w2 18446744073709551615 4294967295 0 18446744069414584321 _ (by decide) (by decide) (by decide) (by decide) (by decide +kernel)
  have n2 : Nv w4 (.slice (some ⟨w.heap.size + 1 + 1 + 1, 0, none⟩) 4 4) greatZ.a 4 := by rw [← e4, ← z3]; exact nv4 w3 18446744073709551612 4294967295 0 18446744069414584321 _ (by decide) (by decide) (by decide) (by decide) (by decide +kernel)
  have n3 : Nv w5 (.slice (some ⟨w.heap.size + 1 + 1 + 1 + 1, 0, none⟩) 4 4) greatZ.b 4 := by rw [← e5, ← z4]; exact nv4 w4 4309448131093880907 7285987128567378166 12964664127075681980 6540974713487397863 _ (by decide) (by decide) (by decide) (by decide) (by decide +kernel)
  have n4 : Nv w6 (.slice (some ⟨w.heap.size + 1 + 1 + 1 + 1 + 1, 0, none⟩) 4 4) greatZ.gx 4 := by rw [← e6, ← z5]; exact nv4 w5 17627433388654248598 8575836109218198432 17923454489921339634 7716867327612699207 _ (by decide) (by decide) (by decide) (by decide) (by decide +kernel)
  have n5 : Nv w7 (.slice (some ⟨w.heap.size + 1 + 1 + 1 + 1 + 1 + 1, 0, none⟩) 4 4) greatZ.gy 4 := by rw [← e7, ← z6]; exact nv4 w6 14678990851816772085 3156516839386865358 10297457778147434006 5756518291402817435 _ (by decide) (by decide) (by decide) (by decide) (by decide +kernel)
  have n6 : Nv w8 (.slice (some ⟨w.heap.size + 1 + 1 + 1 + 1 + 1 + 1 + 1, 0, none⟩) 4 4) greatZ.n 4 := by rw [← e8, ← z7]; exact nv4 w7 17562291160714782033 13611842547513532036 18446744073709551615 18446744069414584320 _ (by decide) (by decide) (by decide) (by decide) (by decide +kernel)
  have m1 := (((((n1).old b4).old b5).old b6).old b7).old b8
  have m2 := ((((n2).old b5).old b6).old b7).old b8
  have m3 := (((n3).old b6).old b7).old b8
  have m4 := ((n4).old b7).old b8
  have m5 := (n5).old b8
  have m6 := n6
  have B : Below w.heap.size w w8 := (((((((b1).trans (b2.mono (by rw [z1]; omega))).trans (b3.mono (by rw [z2]; omega))).trans (b4.mono (by rw [z3]; omega))).trans (b5.mono (by rw [z4]; omega))).trans (b6.mono (by rw [z5]; omega))).trans (b7.mono (by rw [z6]; omega))).trans (b8.mono (by rw [z7]; omega))
  have cc : w8.heap[w.heap.size]? = some (.cells #[.int .i64 (-7), .int .i64 1, .slice (some ⟨w.heap.size + 1, 0, none⟩) 7 7, .slice (some ⟨w.heap.size + 1 + 1, 0, none⟩) 4 4, .slice (some ⟨w.heap.size + 1 + 1 + 1, 0, none⟩) 4 4, .slice (some ⟨w.heap.size + 1 + 1 + 1 + 1, 0, none⟩) 4 4, .slice (some ⟨w.heap.size + 1 + 1 + 1 + 1 + 1, 0, none⟩) 4 4, .slice (some ⟨w.heap.size + 1 + 1 + 1 + 1 + 1 + 1, 0, none⟩) 4 4, .slice (some ⟨w.heap.size + 1 + 1 + 1 + 1 + 1 + 1 + 1, 0, none⟩) 4 4] 29 (0, 0)) := blk_old (blk_old (blk_old (blk_old (blk_old (blk_old (blk_old (c1) b2) b3) b4) b5) b6) b7) b8
  have HX : Hid (Cu w8 (.agg #[.int .i64 (-7), .int .i64 1, .slice (some ⟨w.heap.size + 1, 0, none⟩) 7 7, .slice (some ⟨w.heap.size + 1 + 1, 0, none⟩) 4 4, .slice (some ⟨w.heap.size + 1 + 1 + 1, 0, none⟩) 4 4, .slice (some ⟨w.heap.size + 1 + 1 + 1 + 1, 0, none⟩) 4 4, .slice (some ⟨w.heap.size + 1 + 1 + 1 + 1 + 1, 0, none⟩) 4 4, .slice (some ⟨w.heap.size + 1 + 1 + 1 + 1 + 1 + 1, 0, none⟩) 4 4, .slice (some ⟨w.heap.size + 1 + 1 + 1 + 1 + 1 + 1 + 1, 0, none⟩) 4 4]) greatZ 4 ∧ Below w.heap.size w w8 ∧ w8.heap[w.heap.size]? = some (.cells #[.int .i64 (-7), .int .i64 1, .slice (some ⟨w.heap.size + 1, 0, none⟩) 7 7, .slice (some ⟨w.heap.size + 1 + 1, 0, none⟩) 4 4, .slice (some ⟨w.heap.size + 1 + 1 + 1, 0, none⟩) 4 4, .slice (some ⟨w.heap.size + 1 + 1 + 1 + 1, 0, none⟩) 4 4, .slice (some ⟨w.heap.size + 1 + 1 + 1 + 1 + 1, 0, none⟩) 4 4, .slice (some ⟨w.heap.size + 1 + 1 + 1 + 1 + 1 + 1, 0, none⟩) 4 4, .slice (some ⟨w.heap.size + 1 + 1 + 1 + 1 + 1 + 1 + 1, 0, none⟩) 4 4] 29 (0, 0))) := ⟨⟨_, _, _, _, _, _, _, _, _, _, _, rfl, m1, m2, m3, m4, m5, m6⟩, B, cc⟩
  clear n1 n2 n3 n4 n5 n6 m1 m2 m3 m4 m5 m6 B cc c1 z1 z2 z3 z4 z5 z6 z7 z8 b1 b2 b3 b4 b5 b6 b7 b8
  have HE : Hid (_ = w8) := e8
  subst e1 e2 e3 e4 e5 e6 e7
  clear e8
  go_enter Try.func26, Try.ntmps26
  go_wp2_with fail
  rw [HE.out]
  refine bodyPost_ret (ret_cu rfl _ _ w.heap.size _ _ _ _ _ _ _ _ _ rfl HX.out.2.2) rfl ?_
  exact ⟨_, rfl, HX.out.1, HX.out.2.1⟩
end Go.Proofs.Ytcobbbamocdbbaa
