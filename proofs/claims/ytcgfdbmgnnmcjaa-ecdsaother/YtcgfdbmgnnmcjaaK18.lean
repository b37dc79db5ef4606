import Derived.Test.YtcgfdbmgnnmcjaaK17
import Derived.Test.YtcgfdbmgnnmcjaaK16
/-
  With the opposite of s it is a signature just as well; what is none. No program in sight.
-/
namespace Go.Proofs.Ytcgfdbmgnnmcjaa
open Go.RowKit Go.Shelf
set_option linter.unusedVariables false
set_option linter.unusedSimpArgs false

section
variable {P N : Nat} [NeZero P] {K : Cz}
/-- Points whose sum is none have one X. -/
theorem none_x (g : GoodK K P) {p q : Pz} (hp : Gd K P p) (hq : Gd K P q) (hpi : p.inf = false) (hqi : q.inf = false) (h : AddZ K p q (some noZ)) : q.x = p.x := by
  unfold AddZ at h
  rw [if_neg (good_p0 g), hpi, hqi, if_neg (by simp), if_neg (by simp)] at h
  unfold AddN at h
  by_cases hr : runZ K p q = 0
  · unfold runZ at hr
    by_cases hx : (q.x - p.x) % K.p ≠ 0
    · rw [if_pos hx] at hr
      exact absurd hr hx
    · have hx' : (q.x - p.x) % K.p = 0 := Classical.byContradiction hx
      exact (same_x g hq hp hqi hpi hx').1
  · rw [if_neg hr] at h
    split at h
    · cases h
    · obtain ⟨n, _, _, _, h⟩ := h
      injection h with h
      unfold noZ at h
      injection h with _ _ h
      cases h
/-- The opposite multiple has the same X. -/
theorem mt_opp (R : RightK K P N) (hp : PrimeN N) {a b : Nat} (hab : (a + b) % N = 0) (ha : a % N ≠ 0) {p q : Pz} (h : Mt K P (baseZ K) a p) (h' : Mt K P (baseZ K) b q) (hpi : p.inf = false) : q.x = p.x ∧ q.inf = false := by
  have hN0 : 0 < N := by
    rcases Nat.eq_zero_or_pos N with h0 | h0
    · subst h0
      rw [Nat.mod_zero] at hab ha
      omega
    · exact h0
  have hb : b % N ≠ 0 := fun e => ha (by have := Nat.add_mod a b N; rw [hab, e, Nat.add_zero, Nat.mod_mod] at this; exact this.symm)
  have h2 : Mt K P (baseZ K) (b % N) q := mt_same R.good R.base R.ord (Nat.mod_mod b N).symm h'
  have hqi := mt_fin R hp rfl (by omega) (Nat.mod_lt b hN0) h2
  obtain ⟨s, hs⟩ := add_some R.good p q
  obtain ⟨s1, e1, h1⟩ := Mt.add R.good R.base h h' hs
  injection e1 with e1
  subst e1
  have h3 : Mt K P (baseZ K) 0 s := mt_same R.good R.base R.ord (by rw [hab, Nat.zero_mod]) h1
  rw [Mt.uniq R.good h3 Mt.zero] at hs
  exact ⟨none_x R.good (h.gd R.base) (h'.gd R.base) hpi hqi hs, hqi⟩
theorem sgn_rng (R : RightK K P N) (hN0 : 0 < N) {z secret draw r s : Int} (h : SgnZ K P z secret draw r s) : 0 < r ∧ r < N ∧ 0 < s ∧ s < N := by
  obtain ⟨p, i, hpp, hpi, hr, hr0, _, hs, hs0⟩ := h
  rw [R.n] at hr hs
  have a1 := Int.emod_nonneg p.x (b := (N : Int)) (by omega)
  have a2 := Int.emod_lt_of_pos p.x (b := (N : Int)) (by omega)
  have a3 := Int.emod_nonneg (((z + (r * secret) % (N : Int)) % (N : Int)) * i) (b := (N : Int)) (by omega)
  have a4 := Int.emod_lt_of_pos (((z + (r * secret) % (N : Int)) % (N : Int)) * i) (b := (N : Int)) (by omega)
  rw [← hr] at a1 a2
  rw [← hs] at a3 a4
  omega
theorem sgn_neg (R : RightK K P N) (hp : PrimeN N) {z secret draw r s : Int} {q : Pz} (h1 : 0 < secret) (h2 : secret < N) (hd : 0 < draw ∧ draw < N) (hq : Mt K P (baseZ K) secret.toNat q) (h : SgnZ K P z secret draw r s) : VerZ K P q z r (K.n - s) true := by
  have hrng := sgn_rng R (by omega) h
  obtain ⟨p, i, hpp, hpi, rfl, hr0, ⟨hi0, hi1, hi2⟩, hs, hs0⟩ := h
  have hN0 : (0 : Int) < N := by omega
  have hqi := mt_fin R hp rfl (by omega) (by omega) hq
  have hon := on_good R.good (hq.gd R.base)
  have hn := R.n
  rw [hn] at hi1 hi2 hs hr0 hrng ⊢
  obtain ⟨r, hr⟩ : ∃ r, p.x % (N : Int) = r := ⟨_, rfl⟩
  rw [hr] at hs hr0 hrng ⊢
  have hg := gd_prime hp ((N : Int) - s) (by omega) (by omega)
  obtain ⟨y, hy0, hy1, hy2⟩ := inv_ex (m := (N : Int)) (a := (N : Int) - s) hN0 hg
  obtain ⟨p1, hp1⟩ := mt_ex R.good R.base ((z * y) % (N : Int)).toNat
  obtain ⟨p2, hp2⟩ := mt_ex R.good (hq.gd R.base) ((r * y) % (N : Int)).toNat
  obtain ⟨p3, hp3⟩ := add_some R.good p1 p2
  have hc := mt_comp R.good R.base hq _ _ hp2
  obtain ⟨p4, e4, h4⟩ := Mt.add R.good R.base hp1 hc hp3
  injection e4 with e4
  subst e4
  have g1 := Int.emod_nonneg (z * y) (b := (N : Int)) (by omega)
  have g2 := Int.emod_nonneg (r * y) (b := (N : Int)) (by omega)
  have key : Cg (N : Int) (draw + ((z * y) % N + (r * y) % N * secret)) 0 := by
    have c1 : Cg (N : Int) ((z * y) % N + (r * y) % N * secret) (z * y + r * y * secret) := (Cg.mod _ _).add ((Cg.mod _ _).mul (Cg.refl _ _))
    have c2 : Cg (N : Int) s ((z + r * secret) * i) := by
      rw [hs]
      exact (Cg.mod _ _).trans (((Cg.mod _ _).trans ((Cg.refl _ _).add (Cg.mod _ _))).mul (Cg.refl _ _))
    have c0 : Cg (N : Int) (y * s) (-1) := by
      have e1 : Cg (N : Int) (y * s) (- (y * ((N : Int) - s))) := ⟨y, by grind⟩
      exact e1.trans hy2.neg
    have c3 : Cg (N : Int) (y * ((z + r * secret) * i) * draw) (-1 * draw) := (((Cg.refl (N : Int) y).mul c2).symm.trans c0).mul (Cg.refl _ draw)
    have c4 : Cg (N : Int) (y * ((z + r * secret) * i) * draw) (z * y + r * y * secret) := by
      have := (Cg.refl (N : Int) (z * y + r * y * secret)).mul hi2
      rw [Int.mul_one] at this
      refine Cg.trans (Cg.of_eq ?_) this
      grind
    have c5 := (Cg.refl (N : Int) draw).add (c1.trans (c4.symm.trans c3))
    rwa [show draw + -1 * draw = 0 by omega] at c5
  have e5 : (draw.toNat + (((z * y) % (N : Int)).toNat + ((r * y) % (N : Int)).toNat * secret.toNat)) % N = 0 := by
    have := key.emod
    have e6 : (((draw.toNat + (((z * y) % (N : Int)).toNat + ((r * y) % (N : Int)).toNat * secret.toNat) : Nat)) : Int) = draw + ((z * y) % N + (r * y) % N * secret) := by
      rw [Int.natCast_add, Int.natCast_add, Int.natCast_mul, Int.toNat_of_nonneg g1, Int.toNat_of_nonneg g2, Int.toNat_of_nonneg (by omega), Int.toNat_of_nonneg (by omega)]
    rw [← e6, Int.zero_emod] at this
    exact_mod_cast this
  obtain ⟨hx, h3i⟩ := mt_opp R hp e5 (by rw [Nat.mod_eq_of_lt (by omega)]; omega) hpp h4 hpi
  refine .inr ⟨?_, y, p1, p2, p3, ?_, ?_, ?_, hp3, ?_⟩
  · unfold VerNo
    rw [hn, hqi, hon, hg]
    intro hno
    rcases hno with h | h | h | h | h
    · cases h
    · cases h
    · exact h ⟨hrng.1, hrng.2.1⟩
    · exact h ⟨by omega, by omega⟩
    · exact h rfl
  · rw [hn]; exact ⟨hy0, hy1, hy2⟩
  · rw [hn]; exact hp1
  · rw [hn]; exact hp2
  · rw [h3i, hn, hx, hr]; simp
end
end Go.Proofs.Ytcgfdbmgnnmcjaa
/-
  Facts for a region that stores a curve in a box of its own.
-/
namespace Go.Proofs.Ytcgfdbmgnnmcjaa
open Go.RowKit Go.Shelf
set_option linter.unusedVariables false
set_option linter.unusedSimpArgs false

def isSl (v : Value) : Prop := ∃ a l k, v = .slice a l k
/-- A block that has a curve's form. -/
def Sh9 (W : World) (b : Nat) : Prop := ∃ (i1 i2 : Int) (c2 c3 c4 c5 c6 c7 c8 : Value), W.heap[b]? = some (.cells #[.int .i64 i1, .int .i64 i2, c2, c3, c4, c5, c6, c7, c8] 31 (0, 0)) ∧ isSl c2 ∧ isSl c3 ∧ isSl c4 ∧ isSl c5 ∧ isSl c6 ∧ isSl c7 ∧ isSl c8
theorem Sh9.lt {W : World} {b : Nat} (h : Sh9 W b) : b < W.heap.size := by
  obtain ⟨i1, i2, c2, c3, c4, c5, c6, c7, c8, h, _⟩ := h
  exact (Array.getElem?_eq_some_iff.1 h).1
theorem Sh9.keep {W W' : World} {b : Nat} (h : Sh9 W b) (hb : Below W.heap.size W W') : Sh9 W' b := by
  obtain ⟨i1, i2, c2, c3, c4, c5, c6, c7, c8, h, h'⟩ := h
  exact ⟨i1, i2, c2, c3, c4, c5, c6, c7, c8, blk_old h hb, h'⟩
theorem Nv.apart9 {w w' : World} {v : Value} {n : Int} {L r : Nat} (h : Nv w v n L) (hs : Sh9 w r) (hb : Bt r w w') : Nv w' v n L := by
  obtain ⟨ao, len, cap, xs, e, h1, h2, h3⟩ := h
  obtain ⟨i1, i2, c2, c3, c4, c5, c6, c7, c8, hr, ⟨_, _, _, rfl⟩, ⟨_, _, _, rfl⟩, ⟨_, _, _, rfl⟩, ⟨_, _, _, rfl⟩, ⟨_, _, _, rfl⟩, ⟨_, _, _, rfl⟩, ⟨_, _, _, rfl⟩⟩ := hs
  refine ⟨ao, len, cap, xs, e, ⟨⟨h1.len, ?_⟩, h1.lc, h1.cm, h1.nn, h1.dg, h1.sm⟩, h2, h3⟩
  by_cases h0 : len = 0
  · exact .inl h0
  · obtain ⟨b', off, e2, hlt, hc⟩ := h1.lies.at (by omega)
    have hne : b' ≠ r := fun e3 => by
      subst e3
      have h4 := hc 0 (by omega)
      rw [cell_of_row _ _ _ _ _ _ hr] at h4
      obtain ⟨o, ho⟩ : ∃ o, off + 0 = o := ⟨_, rfl⟩
      rw [ho] at h4
      match o, h4 with
      | 0, h4 => cases h4
      | 1, h4 => cases h4
      | 2, h4 => cases h4
      | 3, h4 => cases h4
      | 4, h4 => cases h4
      | 5, h4 => cases h4
      | 6, h4 => cases h4
      | 7, h4 => cases h4
      | 8, h4 => cases h4
      | k + 9, h4 => simp at h4
    exact .inr ⟨b', off, e2, Nat.lt_of_lt_of_le hlt hb.size, fun i hi => (World.cell?_of_block (w := w) (hb.block b' hlt hne)).trans (hc i hi)⟩
theorem Cu.apart9 {w w' : World} {c : Value} {K : Cz} {L r : Nat} (h : Cu w c K L) (hs : Sh9 w r) (hb : Bt r w w') : Cu w' c K L := by
  obtain ⟨g1, g2, oo, lo, co, vp, va, vb, vx, vy, vn, e, h1, h2, h3, h4, h5, h6⟩ := h
  exact ⟨g1, g2, oo, lo, co, vp, va, vb, vx, vy, vn, e, h1.apart9 hs hb, h2.apart9 hs hb, h3.apart9 hs hb, h4.apart9 hs hb, h5.apart9 hs hb, h6.apart9 hs hb⟩
/-- A fact that stands while memory is made; and, if it says so, while a curve's box is filled. -/
structure Fh where
  sem : List Value → World → Prop
  keep : ∀ vs w w', Below w.heap.size w w' → sem vs w → sem vs w'
  ok' : Bool
  store : ok' = true → ∀ vs w w' r, Sh9 w r → Sh9 w' r → Bt r w w' → sem vs w → sem vs w'
def Fh.eq (e : Value) : Fh := ⟨fun vs _ => vs.getD 0 undef = e, fun _ _ _ _ h => h, true, fun _ _ _ _ _ _ _ _ h => h⟩
/-- A fact of values alone. -/
def Fh.pu (p : List Value → Prop) : Fh := ⟨fun vs _ => p vs, fun _ _ _ _ h => h, true, fun _ _ _ _ _ _ _ _ h => h⟩
def Fh.same : Fh := ⟨fun vs _ => vs.getD 0 undef = vs.getD 1 undef, fun _ _ _ _ h => h, true, fun _ _ _ _ _ _ _ _ h => h⟩
def Fh.nv (n : Int) (L : Nat) : Fh := ⟨fun vs W => Nv W (vs.getD 0 undef) n L, fun _ _ _ hb h => h.old hb, true, fun _ _ _ _ _ hs _ hb h => h.apart9 hs hb⟩
/-- The curves, the j-th of them told. -/
structure CuJ (W : World) (g j : Nat) (K : Cz) (g1 g2 : Int) (oo : Option Addr) (lo co : Nat) (b0 b1 b2 b3 b4 b5 : Nat) : Prop where
  big : ∃ cur t fr, W.heap[g]? = some (.cells cur t fr) ∧ 9 < cur.size
  at' : CuAt W g (j * 9) g1 g2 oo lo co b0 b1 b2 b3 b4 b5
  cu : Cu W (curV g1 g2 oo lo co b0 b1 b2 b3 b4 b5) K 1
theorem CuJ.keep {W W' : World} {g j : Nat} {K : Cz} {g1 g2 : Int} {oo : Option Addr} {lo co b0 b1 b2 b3 b4 b5 : Nat} (h : CuJ W g j K g1 g2 oo lo co b0 b1 b2 b3 b4 b5) (hb : Below W.heap.size W W') : CuJ W' g j K g1 g2 oo lo co b0 b1 b2 b3 b4 b5 := by
  obtain ⟨⟨cur, t, fr, h1, h2⟩, h3, h4⟩ := h
  exact ⟨⟨cur, t, fr, blk_old h1 hb, h2⟩, h3.keep hb, h4.old hb⟩
theorem CuJ.store {W W' : World} {g j r : Nat} {K : Cz} {g1 g2 : Int} {oo : Option Addr} {lo co b0 b1 b2 b3 b4 b5 : Nat} (h : CuJ W g j K g1 g2 oo lo co b0 b1 b2 b3 b4 b5) (hs : Sh9 W r) (hb : Bt r W W') : CuJ W' g j K g1 g2 oo lo co b0 b1 b2 b3 b4 b5 := by
  obtain ⟨⟨cur, t, fr, h1, h2⟩, h3, h4⟩ := h
  have hne : g ≠ r := fun e => by
    subst e
    obtain ⟨i1, i2, c2, c3, c4, c5, c6, c7, c8, hr, _⟩ := hs
    rw [h1] at hr
    injection hr with hr
    injection hr with hr _ _
    rw [hr] at h2
    simp at h2
  have hlt := (Array.getElem?_eq_some_iff.1 h1).1
  have hk : ∀ (i : Nat) (x : Value), W.cell? ⟨g, i, none⟩ = some x → W'.cell? ⟨g, i, none⟩ = some x := fun i x hx => (World.cell?_of_block (w := W) (hb.block g hlt hne)).trans hx
  exact ⟨⟨cur, t, fr, (hb.block g hlt hne).trans h1, h2⟩, ⟨hk _ _ h3.c0, hk _ _ h3.c1, hk _ _ h3.c2, hk _ _ h3.c3, hk _ _ h3.c4, hk _ _ h3.c5, hk _ _ h3.c6, hk _ _ h3.c7, hk _ _ h3.c8⟩, h4.apart9 hs hb⟩
def Fh.cl (j : Nat) (K : Cz) : Fh := ⟨fun vs W => ∃ g cap g1 g2 oo lo co b0 b1 b2 b3 b4 b5, vs.getD 0 undef = .slice (some ⟨g, 0, none⟩) 3 cap ∧ 3 ≤ cap ∧ cap ≤ maxLen ∧ CuJ W g j K g1 g2 oo lo co b0 b1 b2 b3 b4 b5, fun vs w w' hb h => by
  obtain ⟨g, cap, g1, g2, oo, lo, co, b0, b1, b2, b3, b4, b5, h1, h2, h3, h4⟩ := h
  exact ⟨g, cap, g1, g2, oo, lo, co, b0, b1, b2, b3, b4, b5, h1, h2, h3, h4.keep hb⟩, true, fun _ vs w w' r hs _ hb h => by
  obtain ⟨g, cap, g1, g2, oo, lo, co, b0, b1, b2, b3, b4, b5, h1, h2, h3, h4⟩ := h
  exact ⟨g, cap, g1, g2, oo, lo, co, b0, b1, b2, b3, b4, b5, h1, h2, h3, h4.store hs hb⟩⟩
def Fh.ix (j : Nat) : Fh := ⟨fun vs _ => ∃ g cap, vs.getD 1 undef = .slice (some ⟨g, 0, none⟩) 3 cap ∧ vs.getD 0 undef = .pointer (some ⟨g, j * 9, none⟩), fun _ _ _ _ h => h, true, fun _ _ _ _ _ _ _ _ h => h⟩
def Fh.cu (K : Cz) : Fh := ⟨fun vs W => Cu W (vs.getD 0 undef) K 1, fun _ _ _ hb h => h.old hb, true, fun _ _ _ _ _ hs _ hb h => h.apart9 hs hb⟩
def Fh.box (B : Nat) : Fh := ⟨fun vs W => ∃ b, vs.getD 0 undef = .pointer (some ⟨b, 0, none⟩) ∧ B ≤ b ∧ Sh9 W b, fun vs w w' hb h => by
  obtain ⟨b, h1, h2, h3⟩ := h
  exact ⟨b, h1, h2, h3.keep hb⟩, true, fun _ vs w w' r hs hs' hb h => by
  obtain ⟨b, h1, h2, h3⟩ := h
  by_cases hg : b = r
  · subst hg
    exact ⟨b, h1, h2, hs'⟩
  · obtain ⟨i1, i2, c2, c3, c4, c5, c6, c7, c8, hr, h'⟩ := h3
    exact ⟨b, h1, h2, i1, i2, c2, c3, c4, c5, c6, c7, c8, (hb.block b (Array.getElem?_eq_some_iff.1 hr).1 hg).trans hr, h'⟩⟩
def Fh.sto (B : Nat) (K : Cz) : Fh := ⟨fun vs W => ∃ b cs, vs.getD 0 undef = .pointer (some ⟨b, 0, none⟩) ∧ B ≤ b ∧ W.heap[b]? = some (.cells cs 31 (0, 0)) ∧ Cu W (.agg cs) K 1, fun vs w w' hb h => by
  obtain ⟨b, cs, h1, h2, h3, h4⟩ := h
  exact ⟨b, cs, h1, h2, blk_old h3 hb, h4.old hb⟩, false, fun h => by cases h⟩
theorem fh_keep (fs : List Fh) (j : Nat) (vs : List Value) {w w' : World} (hb : Below w.heap.size w w') (h : (fs.map Fh.sem).getD j (fun _ _ => True) vs w) : (fs.map Fh.sem).getD j (fun _ _ => True) vs w' := by
  rw [List.getD_eq_getElem?_getD, List.getElem?_map] at h ⊢
  cases hf : fs[j]? with
  | none => trivial
  | some f => rw [hf] at h; exact f.keep vs w w' hb h
theorem fh_store (fs : List Fh) (j : Nat) (vs : List Value) {w w' : World} {r : Nat} (hs : Sh9 w r) (hs' : Sh9 w' r) (hb : Bt r w w') (hf : (fs.map Fh.ok').getD j true = true) (h : (fs.map Fh.sem).getD j (fun _ _ => True) vs w) : (fs.map Fh.sem).getD j (fun _ _ => True) vs w' := by
  rw [List.getD_eq_getElem?_getD, List.getElem?_map] at h hf ⊢
  cases hq : fs[j]? with
  | none => trivial
  | some f => rw [hq] at h hf; exact f.store hf vs w w' r hs hs' hb h
theorem fh_but (i : Nat) (fs : List Fh) (h : (List.range fs.length).all (fun j => decide (j = i) || (fs.map Fh.ok').getD j true) = true) : ∀ j, j ≠ i → (fs.map Fh.ok').getD j true = true := by
  intro j hj
  rw [List.all_eq_true] at h
  by_cases hl : j < fs.length
  · have := h j (List.mem_range.2 hl)
    rw [Bool.or_eq_true] at this
    rcases this with this | this
    · exact absurd (by simpa using this) hj
    · exact this
  · rw [List.getD_eq_getElem?_getD, List.getElem?_eq_none (by simpa using Nat.le_of_not_lt hl)]
    rfl
section
variable {ops : Array Oper}
theorem GInv.growH {rd : List (List Nat)} {fs : List Fh} {a0 : Act} {w0 : World} {listed : Array Bool} {a : Act} {w : World} (h : GInv .any ops rd (fs.map Fh.sem) a0 w0 listed a w) {i : Nat} {dst : Option Tmp} {KK : Act → World → Prop}
    (hK : ∀ v w', Below w0.heap.size w0 w' → (∀ j vs, listed.getD j false = true → (fs.map Fh.sem).getD j (fun _ _ => True) vs w → (fs.map Fh.sem).getD j (fun _ _ => True) vs w') → (fs.map Fh.sem).getD i (fun _ _ => True) ((rd.getD i []).map fun s => (a.put dst v).tmps.getD s undef) w' → KK (a.put dst v) w') (v : Value) (w' : World) (hb : Below w.heap.size w w') (hf : (fs.map Fh.sem).getD i (fun _ _ => True) ((rd.getD i []).map fun s => (a.put dst v).tmps.getD s undef) w') : KK (a.put dst v) w' :=
  hK v w' (h.below.trans (hb.mono h.below.size)) (fun j vs _ hj => fh_keep fs j vs hb hj) hf
theorem GInv.fillH {rd : List (List Nat)} {fs : List Fh} {a0 : Act} {w0 : World} {listed : Array Bool} {a : Act} {w : World} (h : GInv .any ops rd (fs.map Fh.sem) a0 w0 listed a w) {i : Nat} {dst : Option Tmp} {KK : Act → World → Prop}
    (hK : ∀ v w', Below w0.heap.size w0 w' → (∀ j vs, listed.getD j false = true → (fs.map Fh.sem).getD j (fun _ _ => True) vs w → (fs.map Fh.sem).getD j (fun _ _ => True) vs w') → (fs.map Fh.sem).getD i (fun _ _ => True) ((rd.getD i []).map fun s => (a.put dst v).tmps.getD s undef) w' → KK (a.put dst v) w') (hli : listed.getD i false = false) (v : Value) (w' : World) (r : Nat) (hr : w0.heap.size ≤ r) (hs : Sh9 w r) (hs' : Sh9 w' r) (hb : Bt r w w') (hbx : ∀ j, j ≠ i → (fs.map Fh.ok').getD j true = true) (hf : (fs.map Fh.sem).getD i (fun _ _ => True) ((rd.getD i []).map fun s => (a.put dst v).tmps.getD s undef) w') : KK (a.put dst v) w' :=
  hK v w' (h.below.trans (hb.below hr h.below.size)) (fun j vs hl hj => fh_store fs j vs hs hs' hb (hbx j (by rintro rfl; rw [hli] at hl; cases hl)) hj) hf
end
theorem row9 {W : World} {b : Nat} {c0 c1 c2 c3 c4 c5 c6 c7 c8 : Value} {t : TypeId} (h : W.heap[b]? = some (.cells #[c0, c1, c2, c3, c4, c5, c6, c7, c8] t (0, 0))) : (W.cell? ⟨b, 0, none⟩ = some c0 ∧ W.cell? ⟨b, 1, none⟩ = some c1 ∧ W.cell? ⟨b, 2, none⟩ = some c2 ∧ W.cell? ⟨b, 3, none⟩ = some c3 ∧ W.cell? ⟨b, 4, none⟩ = some c4 ∧ W.cell? ⟨b, 5, none⟩ = some c5 ∧ W.cell? ⟨b, 6, none⟩ = some c6 ∧ W.cell? ⟨b, 7, none⟩ = some c7 ∧ W.cell? ⟨b, 8, none⟩ = some c8) ∧ W.frozen? ⟨b, 0, none⟩ = false ∧ W.frozen? ⟨b, 1, none⟩ = false ∧ W.frozen? ⟨b, 2, none⟩ = false ∧ W.frozen? ⟨b, 3, none⟩ = false ∧ W.frozen? ⟨b, 4, none⟩ = false ∧ W.frozen? ⟨b, 5, none⟩ = false ∧ W.frozen? ⟨b, 6, none⟩ = false ∧ W.frozen? ⟨b, 7, none⟩ = false ∧ W.frozen? ⟨b, 8, none⟩ = false := by
  refine ⟨⟨?_, ?_, ?_, ?_, ?_, ?_, ?_, ?_, ?_⟩, frozen_of_row W b 0 _ _ h, frozen_of_row W b 1 _ _ h, frozen_of_row W b 2 _ _ h, frozen_of_row W b 3 _ _ h, frozen_of_row W b 4 _ _ h, frozen_of_row W b 5 _ _ h, frozen_of_row W b 6 _ _ h, frozen_of_row W b 7 _ _ h, frozen_of_row W b 8 _ _ h⟩ <;> (rw [cell_of_row _ _ _ _ _ _ h]; rfl)
abbrev set9 (W : World) (g : Nat) (d0 d1 d2 d3 d4 d5 d6 d7 d8 : Value) : World := (((((((((W.setCell ⟨g, 0, none⟩ d0).setCell ⟨g, 1, none⟩ d1).setCell ⟨g, 2, none⟩ d2).setCell ⟨g, 3, none⟩ d3).setCell ⟨g, 4, none⟩ d4).setCell ⟨g, 5, none⟩ d5).setCell ⟨g, 6, none⟩ d6).setCell ⟨g, 7, none⟩ d7).setCell ⟨g, 8, none⟩ d8)
theorem bt_set9 (W : World) (g : Nat) (d0 d1 d2 d3 d4 d5 d6 d7 d8 : Value) : Bt g W (set9 W g d0 d1 d2 d3 d4 d5 d6 d7 d8) := (((((((((Bt.setCell g W 0 d0).trans (Bt.setCell g _ 1 d1)).trans (Bt.setCell g _ 2 d2)).trans (Bt.setCell g _ 3 d3)).trans (Bt.setCell g _ 4 d4)).trans (Bt.setCell g _ 5 d5)).trans (Bt.setCell g _ 6 d6)).trans (Bt.setCell g _ 7 d7)).trans (Bt.setCell g _ 8 d8))
theorem row_set9 {W : World} {g : Nat} {c0 c1 c2 c3 c4 c5 c6 c7 c8 : Value} {t : TypeId} (h : W.heap[g]? = some (.cells #[c0, c1, c2, c3, c4, c5, c6, c7, c8] t (0, 0))) (d0 d1 d2 d3 d4 d5 d6 d7 d8 : Value) : (set9 W g d0 d1 d2 d3 d4 d5 d6 d7 d8).heap[g]? = some (.cells #[d0, d1, d2, d3, d4, d5, d6, d7, d8] t (0, 0)) := by
  show (((((((((W.setCell ⟨g, 0, none⟩ d0).setCell ⟨g, 1, none⟩ d1).setCell ⟨g, 2, none⟩ d2).setCell ⟨g, 3, none⟩ d3).setCell ⟨g, 4, none⟩ d4).setCell ⟨g, 5, none⟩ d5).setCell ⟨g, 6, none⟩ d6).setCell ⟨g, 7, none⟩ d7).setCell ⟨g, 8, none⟩ d8).heap[g]? = _
  have h1 : (W.setCell ⟨g, 0, none⟩ d0).heap[g]? = some (.cells #[d0, c1, c2, c3, c4, c5, c6, c7, c8] t (0, 0)) := heap_set7 W g 0 d0 _ _ _ h
  obtain ⟨W1, e1⟩ : ∃ WW : World, W.setCell ⟨g, 0, none⟩ d0 = WW := ⟨_, rfl⟩
  rw [e1] at h1 ⊢
  have h2 : (W1.setCell ⟨g, 1, none⟩ d1).heap[g]? = some (.cells #[d0, d1, c2, c3, c4, c5, c6, c7, c8] t (0, 0)) := heap_set7 W1 g 1 d1 _ _ _ h1
  obtain ⟨W2, e2⟩ : ∃ WW : World, W1.setCell ⟨g, 1, none⟩ d1 = WW := ⟨_, rfl⟩
  rw [e2] at h2 ⊢
  have h3 : (W2.setCell ⟨g, 2, none⟩ d2).heap[g]? = some (.cells #[d0, d1, d2, c3, c4, c5, c6, c7, c8] t (0, 0)) := heap_set7 W2 g 2 d2 _ _ _ h2
  obtain ⟨W3, e3⟩ : ∃ WW : World, W2.setCell ⟨g, 2, none⟩ d2 = WW := ⟨_, rfl⟩
  rw [e3] at h3 ⊢
  have h4 : (W3.setCell ⟨g, 3, none⟩ d3).heap[g]? = some (.cells #[d0, d1, d2, d3, c4, c5, c6, c7, c8] t (0, 0)) := heap_set7 W3 g 3 d3 _ _ _ h3
  obtain ⟨W4, e4⟩ : ∃ WW : World, W3.setCell ⟨g, 3, none⟩ d3 = WW := ⟨_, rfl⟩
  rw [e4] at h4 ⊢
  have h5 : (W4.setCell ⟨g, 4, none⟩ d4).heap[g]? = some (.cells #[d0, d1, d2, d3, d4, c5, c6, c7, c8] t (0, 0)) := heap_set7 W4 g 4 d4 _ _ _ h4
  obtain ⟨W5, e5⟩ : ∃ WW : World, W4.setCell ⟨g, 4, none⟩ d4 = WW := ⟨_, rfl⟩
  rw [e5] at h5 ⊢
  have h6 : (W5.setCell ⟨g, 5, none⟩ d5).heap[g]? = some (.cells #[d0, d1, d2, d3, d4, d5, c6, c7, c8] t (0, 0)) := heap_set7 W5 g 5 d5 _ _ _ h5
  obtain ⟨W6, e6⟩ : ∃ WW : World, W5.setCell ⟨g, 5, none⟩ d5 = WW := ⟨_, rfl⟩
  rw [e6] at h6 ⊢
  have h7 : (W6.setCell ⟨g, 6, none⟩ d6).heap[g]? = some (.cells #[d0, d1, d2, d3, d4, d5, d6, c7, c8] t (0, 0)) := heap_set7 W6 g 6 d6 _ _ _ h6
  obtain ⟨W7, e7⟩ : ∃ WW : World, W6.setCell ⟨g, 6, none⟩ d6 = WW := ⟨_, rfl⟩
  rw [e7] at h7 ⊢
  have h8 : (W7.setCell ⟨g, 7, none⟩ d7).heap[g]? = some (.cells #[d0, d1, d2, d3, d4, d5, d6, d7, c8] t (0, 0)) := heap_set7 W7 g 7 d7 _ _ _ h7
  obtain ⟨W8, e8⟩ : ∃ WW : World, W7.setCell ⟨g, 7, none⟩ d7 = WW := ⟨_, rfl⟩
  rw [e8] at h8 ⊢
  have h9 : (W8.setCell ⟨g, 8, none⟩ d8).heap[g]? = some (.cells #[d0, d1, d2, d3, d4, d5, d6, d7, d8] t (0, 0)) := heap_set7 W8 g 8 d8 _ _ _ h8
  exact h9
end Go.Proofs.Ytcgfdbmgnnmcjaa
