import Derived.Test.YtagljkbfgldlgaaK17
import Derived.Test.YtagljkbfgldlgaaK16
import Derived.Test.YtagljkbfgldlgaaK02
import Derived.WalkKit
import Derived.Lib.MapLaws
import Derived.Lib.ValidU
import Derived.Test.YtagljkbfgldlgaaRows
import Derived.Deep.AppendLies
import Derived.Laws.NewBlocks
import Derived.WalkSpells
import Derived.WalkLawsBesides
import Derived.Lib.ConvBytes
import Derived.Deep.RegionLaw
import Derived.Deep.QuietTactic
import Derived.BigQuiet
import Derived.Shelf.Bytes.SlSmallAll
import Derived.Below
import Derived.Deep.MidRow
import Derived.Deep.RegionHeld3
import Derived.Lib.BytesEntry
import Derived.Laws.Externs
import Derived.Laws.ResultCell
import Derived.Lib.SliceRun
import Derived.Shelf.Bytes.SlEqualAll
import Derived.Maps.AppendAt
/-
  With the opposite of s it is a signature just as well; what is none. No program in sight.
-/
namespace Go.Proofs.Ytagljkbfgldlgaa
open Go.RowKit Go.Shelf
set_option linter.unusedVariables false
set_option linter.unusedSimpArgs false

section
variable {P N : Nat} [NeZero P] {K : Cz}
/-- Points whose sum is none have one X. -/
theorem none_x (g : GoodK K P) {p q : Pz} (hp : Gd K P p) (hq : Gd K P q) (hpi : p.inf = false) (hqi : q.inf = false) (h : AddZ K p q (some noZ)) : q.x = p.x := by
  unfold AddZ at h
  rw [if_neg (good_p0 g), hpi, hqi, if_neg (by simp), if_neg (by simp)] at h
  unfold AddN at h
  by_cases hr : runZ K p q = 0
  · unfold runZ at hr
    by_cases hx : (q.x - p.x) % K.p ≠ 0
    · rw [if_pos hx] at hr
      exact absurd hr hx
    · have hx' : (q.x - p.x) % K.p = 0 := Classical.byContradiction hx
      exact (same_x g hq hp hqi hpi hx').1
  · rw [if_neg hr] at h
    split at h
    · cases h
    · obtain ⟨n, _, _, _, h⟩ := h
      injection h with h
      unfold noZ at h
      injection h with _ _ h
      cases h
/-- The opposite multiple has the same X. -/
theorem mt_opp (R : RightK K P N) (hp : PrimeN N) {a b : Nat} (hab : (a + b) % N = 0) (ha : a % N ≠ 0) {p q : Pz} (h : Mt K P (baseZ K) a p) (h' : Mt K P (baseZ K) b q) (hpi : p.inf = false) : q.x = p.x ∧ q.inf = false := by
  have hN0 : 0 < N := by
    rcases Nat.eq_zero_or_pos N with h0 | h0
    · subst h0
      rw [Nat.mod_zero] at hab ha
      omega
    · exact h0
  have hb : b % N ≠ 0 := fun e => ha (by have := Nat.add_mod a b N; rw [hab, e, Nat.add_zero, Nat.mod_mod] at this; exact this.symm)
  have h2 : Mt K P (baseZ K) (b % N) q := mt_same R.good R.base R.ord (Nat.mod_mod b N).symm h'
  have hqi := mt_fin R hp rfl (by omega) (Nat.mod_lt b hN0) h2
  obtain ⟨s, hs⟩ := add_some R.good p q
  obtain ⟨s1, e1, h1⟩ := Mt.add R.good R.base h h' hs
  injection e1 with e1
  subst e1
  have h3 : Mt K P (baseZ K) 0 s := mt_same R.good R.base R.ord (by rw [hab, Nat.zero_mod]) h1
  rw [Mt.uniq R.good h3 Mt.zero] at hs
  exact ⟨none_x R.good (h.gd R.base) (h'.gd R.base) hpi hqi hs, hqi⟩
theorem sgn_rng (R : RightK K P N) (hN0 : 0 < N) {z secret draw r s : Int} (h : SgnZ K P z secret draw r s) : 0 < r ∧ r < N ∧ 0 < s ∧ s < N := by
  obtain ⟨p, i, hpp, hpi, hr, hr0, _, hs, hs0⟩ := h
  rw [R.n] at hr hs
  have a1 := Int.emod_nonneg p.x (b := (N : Int)) (by omega)
  have a2 := Int.emod_lt_of_pos p.x (b := (N : Int)) (by omega)
  have a3 := Int.emod_nonneg (((z + (r * secret) % (N : Int)) % (N : Int)) * i) (b := (N : Int)) (by omega)
  have a4 := Int.emod_lt_of_pos (((z + (r * secret) % (N : Int)) % (N : Int)) * i) (b := (N : Int)) (by omega)
  rw [← hr] at a1 a2
  rw [← hs] at a3 a4
  omega
theorem sgn_neg (R : RightK K P N) (hp : PrimeN N) {z secret draw r s : Int} {q : Pz} (h1 : 0 < secret) (h2 : secret < N) (hd : 0 < draw ∧ draw < N) (hq : Mt K P (baseZ K) secret.toNat q) (h : SgnZ K P z secret draw r s) : VerZ K P q z r (K.n - s) true := by
  have hrng := sgn_rng R (by omega) h
  obtain ⟨p, i, hpp, hpi, rfl, hr0, ⟨hi0, hi1, hi2⟩, hs, hs0⟩ := h
  have hN0 : (0 : Int) < N := by omega
  have hqi := mt_fin R hp rfl (by omega) (by omega) hq
  have hon := on_good R.good (hq.gd R.base)
  have hn := R.n
  rw [hn] at hi1 hi2 hs hr0 hrng ⊢
  obtain ⟨r, hr⟩ : ∃ r, p.x % (N : Int) = r := ⟨_, rfl⟩
  rw [hr] at hs hr0 hrng ⊢
  have hg := gd_prime hp ((N : Int) - s) (by omega) (by omega)
  obtain ⟨y, hy0, hy1, hy2⟩ := inv_ex (m := (N : Int)) (a := (N : Int) - s) hN0 hg
  obtain ⟨p1, hp1⟩ := mt_ex R.good R.base ((z * y) % (N : Int)).toNat
  obtain ⟨p2, hp2⟩ := mt_ex R.good (hq.gd R.base) ((r * y) % (N : Int)).toNat
  obtain ⟨p3, hp3⟩ := add_some R.good p1 p2
  have hc := mt_comp R.good R.base hq _ _ hp2
  obtain ⟨p4, e4, h4⟩ := Mt.add R.good R.base hp1 hc hp3
  injection e4 with e4
  subst e4
  have g1 := Int.emod_nonneg (z * y) (b := (N : Int)) (by omega)
  have g2 := Int.emod_nonneg (r * y) (b := (N : Int)) (by omega)
  have key : Cg (N : Int) (draw + ((z * y) % N + (r * y) % N * secret)) 0 := by
    have c1 : Cg (N : Int) ((z * y) % N + (r * y) % N * secret) (z * y + r * y * secret) := (Cg.mod _ _).add ((Cg.mod _ _).mul (Cg.refl _ _))
    have c2 : Cg (N : Int) s ((z + r * secret) * i) := by
      rw [hs]
      exact (Cg.mod _ _).trans (((Cg.mod _ _).trans ((Cg.refl _ _).add (Cg.mod _ _))).mul (Cg.refl _ _))
    have c0 : Cg (N : Int) (y * s) (-1) := by
      have e1 : Cg (N : Int) (y * s) (- (y * ((N : Int) - s))) := ⟨y, by grind⟩
      exact e1.trans hy2.neg
    have c3 : Cg (N : Int) (y * ((z + r * secret) * i) * draw) (-1 * draw) := (((Cg.refl (N : Int) y).mul c2).symm.trans c0).mul (Cg.refl _ draw)
    have c4 : Cg (N : Int) (y * ((z + r * secret) * i) * draw) (z * y + r * y * secret) := by
      have := (Cg.refl (N : Int) (z * y + r * y * secret)).mul hi2
      rw [Int.mul_one] at this
      refine Cg.trans (Cg.of_eq ?_) this
      grind
    have c5 := (Cg.refl (N : Int) draw).add (c1.trans (c4.symm.trans c3))
    rwa [show draw + -1 * draw = 0 by omega] at c5
  have e5 : (draw.toNat + (((z * y) % (N : Int)).toNat + ((r * y) % (N : Int)).toNat * secret.toNat)) % N = 0 := by
    have := key.emod
    have e6 : (((draw.toNat + (((z * y) % (N : Int)).toNat + ((r * y) % (N : Int)).toNat * secret.toNat) : Nat)) : Int) = draw + ((z * y) % N + (r * y) % N * secret) := by
      rw [Int.natCast_add, Int.natCast_add, Int.natCast_mul, Int.toNat_of_nonneg g1, Int.toNat_of_nonneg g2, Int.toNat_of_nonneg (by omega), Int.toNat_of_nonneg (by omega)]
    rw [← e6, Int.zero_emod] at this
    exact_mod_cast this
  obtain ⟨hx, h3i⟩ := mt_opp R hp e5 (by rw [Nat.mod_eq_of_lt (by omega)]; omega) hpp h4 hpi
  refine .inr ⟨?_, y, p1, p2, p3, ?_, ?_, ?_, hp3, ?_⟩
  · unfold VerNo
    rw [hn, hqi, hon, hg]
    intro hno
    rcases hno with h | h | h | h | h
    · cases h
    · cases h
    · exact h ⟨hrng.1, hrng.2.1⟩
    · exact h ⟨by omega, by omega⟩
    · exact h rfl
  · rw [hn]; exact ⟨hy0, hy1, hy2⟩
  · rw [hn]; exact hp1
  · rw [hn]; exact hp2
  · rw [h3i, hn, hx, hr]; simp
end
end Go.Proofs.Ytagljkbfgldlgaa
/-
  Facts for a region that stores a curve in a box of its own.
-/
namespace Go.Proofs.Ytagljkbfgldlgaa
open Go.RowKit Go.Shelf
set_option linter.unusedVariables false
set_option linter.unusedSimpArgs false

def isSl (v : Value) : Prop := ∃ a l k, v = .slice a l k
/-- A block that has a curve's form. -/
def Sh9 (W : World) (b : Nat) : Prop := ∃ (i1 i2 : Int) (c2 c3 c4 c5 c6 c7 c8 : Value), W.heap[b]? = some (.cells #[.int .i64 i1, .int .i64 i2, c2, c3, c4, c5, c6, c7, c8] 31 (0, 0)) ∧ isSl c2 ∧ isSl c3 ∧ isSl c4 ∧ isSl c5 ∧ isSl c6 ∧ isSl c7 ∧ isSl c8
theorem Sh9.lt {W : World} {b : Nat} (h : Sh9 W b) : b < W.heap.size := by
  obtain ⟨i1, i2, c2, c3, c4, c5, c6, c7, c8, h, _⟩ := h
  exact (Array.getElem?_eq_some_iff.1 h).1
theorem Sh9.keep {W W' : World} {b : Nat} (h : Sh9 W b) (hb : Below W.heap.size W W') : Sh9 W' b := by
  obtain ⟨i1, i2, c2, c3, c4, c5, c6, c7, c8, h, h'⟩ := h
  exact ⟨i1, i2, c2, c3, c4, c5, c6, c7, c8, blk_old h hb, h'⟩
theorem Nv.apart9 {w w' : World} {v : Value} {n : Int} {L r : Nat} (h : Nv w v n L) (hs : Sh9 w r) (hb : Bt r w w') : Nv w' v n L := by
  obtain ⟨ao, len, cap, xs, e, h1, h2, h3⟩ := h
  obtain ⟨i1, i2, c2, c3, c4, c5, c6, c7, c8, hr, ⟨_, _, _, rfl⟩, ⟨_, _, _, rfl⟩, ⟨_, _, _, rfl⟩, ⟨_, _, _, rfl⟩, ⟨_, _, _, rfl⟩, ⟨_, _, _, rfl⟩, ⟨_, _, _, rfl⟩⟩ := hs
  refine ⟨ao, len, cap, xs, e, ⟨⟨h1.len, ?_⟩, h1.lc, h1.cm, h1.nn, h1.dg, h1.sm⟩, h2, h3⟩
  by_cases h0 : len = 0
  · exact .inl h0
  · obtain ⟨b', off, e2, hlt, hc⟩ := h1.lies.at (by omega)
    have hne : b' ≠ r := fun e3 => by
      subst e3
      have h4 := hc 0 (by omega)
      rw [cell_of_row _ _ _ _ _ _ hr] at h4
      obtain ⟨o, ho⟩ : ∃ o, off + 0 = o := ⟨_, rfl⟩
      rw [ho] at h4
      match o, h4 with
      | 0, h4 => cases h4
      | 1, h4 => cases h4
      | 2, h4 => cases h4
      | 3, h4 => cases h4
      | 4, h4 => cases h4
      | 5, h4 => cases h4
      | 6, h4 => cases h4
      | 7, h4 => cases h4
      | 8, h4 => cases h4
      | k + 9, h4 => simp at h4
    exact .inr ⟨b', off, e2, Nat.lt_of_lt_of_le hlt hb.size, fun i hi => (World.cell?_of_block (w := w) (hb.block b' hlt hne)).trans (hc i hi)⟩
theorem Cu.apart9 {w w' : World} {c : Value} {K : Cz} {L r : Nat} (h : Cu w c K L) (hs : Sh9 w r) (hb : Bt r w w') : Cu w' c K L := by
  obtain ⟨g1, g2, oo, lo, co, vp, va, vb, vx, vy, vn, e, h1, h2, h3, h4, h5, h6⟩ := h
  exact ⟨g1, g2, oo, lo, co, vp, va, vb, vx, vy, vn, e, h1.apart9 hs hb, h2.apart9 hs hb, h3.apart9 hs hb, h4.apart9 hs hb, h5.apart9 hs hb, h6.apart9 hs hb⟩
/-- A fact that stands while memory is made; and, if it says so, while a curve's box is filled. -/
structure Fh where
  sem : List Value → World → Prop
  keep : ∀ vs w w', Below w.heap.size w w' → sem vs w → sem vs w'
  ok' : Bool
  store : ok' = true → ∀ vs w w' r, Sh9 w r → Sh9 w' r → Bt r w w' → sem vs w → sem vs w'
def Fh.eq (e : Value) : Fh := ⟨fun vs _ => vs.getD 0 undef = e, fun _ _ _ _ h => h, true, fun _ _ _ _ _ _ _ _ h => h⟩
/-- A fact of values alone. -/
def Fh.pu (p : List Value → Prop) : Fh := ⟨fun vs _ => p vs, fun _ _ _ _ h => h, true, fun _ _ _ _ _ _ _ _ h => h⟩
def Fh.same : Fh := ⟨fun vs _ => vs.getD 0 undef = vs.getD 1 undef, fun _ _ _ _ h => h, true, fun _ _ _ _ _ _ _ _ h => h⟩
def Fh.nv (n : Int) (L : Nat) : Fh := ⟨fun vs W => Nv W (vs.getD 0 undef) n L, fun _ _ _ hb h => h.old hb, true, fun _ _ _ _ _ hs _ hb h => h.apart9 hs hb⟩
/-- The curves, the j-th of them told. -/
structure CuJ (W : World) (g j : Nat) (K : Cz) (g1 g2 : Int) (oo : Option Addr) (lo co : Nat) (b0 b1 b2 b3 b4 b5 : Nat) : Prop where
  big : ∃ cur t fr, W.heap[g]? = some (.cells cur t fr) ∧ 9 < cur.size
  at' : CuAt W g (j * 9) g1 g2 oo lo co b0 b1 b2 b3 b4 b5
  cu : Cu W (curV g1 g2 oo lo co b0 b1 b2 b3 b4 b5) K 1
theorem CuJ.keep {W W' : World} {g j : Nat} {K : Cz} {g1 g2 : Int} {oo : Option Addr} {lo co b0 b1 b2 b3 b4 b5 : Nat} (h : CuJ W g j K g1 g2 oo lo co b0 b1 b2 b3 b4 b5) (hb : Below W.heap.size W W') : CuJ W' g j K g1 g2 oo lo co b0 b1 b2 b3 b4 b5 := by
  obtain ⟨⟨cur, t, fr, h1, h2⟩, h3, h4⟩ := h
  exact ⟨⟨cur, t, fr, blk_old h1 hb, h2⟩, h3.keep hb, h4.old hb⟩
theorem CuJ.store {W W' : World} {g j r : Nat} {K : Cz} {g1 g2 : Int} {oo : Option Addr} {lo co b0 b1 b2 b3 b4 b5 : Nat} (h : CuJ W g j K g1 g2 oo lo co b0 b1 b2 b3 b4 b5) (hs : Sh9 W r) (hb : Bt r W W') : CuJ W' g j K g1 g2 oo lo co b0 b1 b2 b3 b4 b5 := by
  obtain ⟨⟨cur, t, fr, h1, h2⟩, h3, h4⟩ := h
  have hne : g ≠ r := fun e => by
    subst e
    obtain ⟨i1, i2, c2, c3, c4, c5, c6, c7, c8, hr, _⟩ := hs
    rw [h1] at hr
    injection hr with hr
    injection hr with hr _ _
    rw [hr] at h2
    simp at h2
  have hlt := (Array.getElem?_eq_some_iff.1 h1).1
  have hk : ∀ (i : Nat) (x : Value), W.cell? ⟨g, i, none⟩ = some x → W'.cell? ⟨g, i, none⟩ = some x := fun i x hx => (World.cell?_of_block (w := W) (hb.block g hlt hne)).trans hx
  exact ⟨⟨cur, t, fr, (hb.block g hlt hne).trans h1, h2⟩, ⟨hk _ _ h3.c0, hk _ _ h3.c1, hk _ _ h3.c2, hk _ _ h3.c3, hk _ _ h3.c4, hk _ _ h3.c5, hk _ _ h3.c6, hk _ _ h3.c7, hk _ _ h3.c8⟩, h4.apart9 hs hb⟩
def Fh.cl (j : Nat) (K : Cz) : Fh := ⟨fun vs W => ∃ g cap g1 g2 oo lo co b0 b1 b2 b3 b4 b5, vs.getD 0 undef = .slice (some ⟨g, 0, none⟩) 3 cap ∧ 3 ≤ cap ∧ cap ≤ maxLen ∧ CuJ W g j K g1 g2 oo lo co b0 b1 b2 b3 b4 b5, fun vs w w' hb h => by
  obtain ⟨g, cap, g1, g2, oo, lo, co, b0, b1, b2, b3, b4, b5, h1, h2, h3, h4⟩ := h
  exact ⟨g, cap, g1, g2, oo, lo, co, b0, b1, b2, b3, b4, b5, h1, h2, h3, h4.keep hb⟩, true, fun _ vs w w' r hs _ hb h => by
  obtain ⟨g, cap, g1, g2, oo, lo, co, b0, b1, b2, b3, b4, b5, h1, h2, h3, h4⟩ := h
  exact ⟨g, cap, g1, g2, oo, lo, co, b0, b1, b2, b3, b4, b5, h1, h2, h3, h4.store hs hb⟩⟩
def Fh.ix (j : Nat) : Fh := ⟨fun vs _ => ∃ g cap, vs.getD 1 undef = .slice (some ⟨g, 0, none⟩) 3 cap ∧ vs.getD 0 undef = .pointer (some ⟨g, j * 9, none⟩), fun _ _ _ _ h => h, true, fun _ _ _ _ _ _ _ _ h => h⟩
def Fh.cu (K : Cz) : Fh := ⟨fun vs W => Cu W (vs.getD 0 undef) K 1, fun _ _ _ hb h => h.old hb, true, fun _ _ _ _ _ hs _ hb h => h.apart9 hs hb⟩
def Fh.box (B : Nat) : Fh := ⟨fun vs W => ∃ b, vs.getD 0 undef = .pointer (some ⟨b, 0, none⟩) ∧ B ≤ b ∧ Sh9 W b, fun vs w w' hb h => by
  obtain ⟨b, h1, h2, h3⟩ := h
  exact ⟨b, h1, h2, h3.keep hb⟩, true, fun _ vs w w' r hs hs' hb h => by
  obtain ⟨b, h1, h2, h3⟩ := h
  by_cases hg : b = r
  · subst hg
    exact ⟨b, h1, h2, hs'⟩
  · obtain ⟨i1, i2, c2, c3, c4, c5, c6, c7, c8, hr, h'⟩ := h3
    exact ⟨b, h1, h2, i1, i2, c2, c3, c4, c5, c6, c7, c8, (hb.block b (Array.getElem?_eq_some_iff.1 hr).1 hg).trans hr, h'⟩⟩
def Fh.sto (B : Nat) (K : Cz) : Fh := ⟨fun vs W => ∃ b cs, vs.getD 0 undef = .pointer (some ⟨b, 0, none⟩) ∧ B ≤ b ∧ W.heap[b]? = some (.cells cs 31 (0, 0)) ∧ Cu W (.agg cs) K 1, fun vs w w' hb h => by
  obtain ⟨b, cs, h1, h2, h3, h4⟩ := h
  exact ⟨b, cs, h1, h2, blk_old h3 hb, h4.old hb⟩, false, fun h => by cases h⟩
theorem fh_keep (fs : List Fh) (j : Nat) (vs : List Value) {w w' : World} (hb : Below w.heap.size w w') (h : (fs.map Fh.sem).getD j (fun _ _ => True) vs w) : (fs.map Fh.sem).getD j (fun _ _ => True) vs w' := by
  rw [List.getD_eq_getElem?_getD, List.getElem?_map] at h ⊢
  cases hf : fs[j]? with
  | none => trivial
  | some f => rw [hf] at h; exact f.keep vs w w' hb h
theorem fh_store (fs : List Fh) (j : Nat) (vs : List Value) {w w' : World} {r : Nat} (hs : Sh9 w r) (hs' : Sh9 w' r) (hb : Bt r w w') (hf : (fs.map Fh.ok').getD j true = true) (h : (fs.map Fh.sem).getD j (fun _ _ => True) vs w) : (fs.map Fh.sem).getD j (fun _ _ => True) vs w' := by
  rw [List.getD_eq_getElem?_getD, List.getElem?_map] at h hf ⊢
  cases hq : fs[j]? with
  | none => trivial
  | some f => rw [hq] at h hf; exact f.store hf vs w w' r hs hs' hb h
theorem fh_but (i : Nat) (fs : List Fh) (h : (List.range fs.length).all (fun j => decide (j = i) || (fs.map Fh.ok').getD j true) = true) : ∀ j, j ≠ i → (fs.map Fh.ok').getD j true = true := by
  intro j hj
  rw [List.all_eq_true] at h
  by_cases hl : j < fs.length
  · have := h j (List.mem_range.2 hl)
    rw [Bool.or_eq_true] at this
    rcases this with this | this
    · exact absurd (by simpa using this) hj
    · exact this
  · rw [List.getD_eq_getElem?_getD, List.getElem?_eq_none (by simpa using Nat.le_of_not_lt hl)]
    rfl
section
variable {ops : Array Oper}
theorem GInv.growH {rd : List (List Nat)} {fs : List Fh} {a0 : Act} {w0 : World} {listed : Array Bool} {a : Act} {w : World} (h : GInv .any ops rd (fs.map Fh.sem) a0 w0 listed a w) {i : Nat} {dst : Option Tmp} {KK : Act → World → Prop}
    (hK : ∀ v w', Below w0.heap.size w0 w' → (∀ j vs, listed.getD j false = true → (fs.map Fh.sem).getD j (fun _ _ => True) vs w → (fs.map Fh.sem).getD j (fun _ _ => True) vs w') → (fs.map Fh.sem).getD i (fun _ _ => True) ((rd.getD i []).map fun s => (a.put dst v).tmps.getD s undef) w' → KK (a.put dst v) w') (v : Value) (w' : World) (hb : Below w.heap.size w w') (hf : (fs.map Fh.sem).getD i (fun _ _ => True) ((rd.getD i []).map fun s => (a.put dst v).tmps.getD s undef) w') : KK (a.put dst v) w' :=
  hK v w' (h.below.trans (hb.mono h.below.size)) (fun j vs _ hj => fh_keep fs j vs hb hj) hf
theorem GInv.fillH {rd : List (List Nat)} {fs : List Fh} {a0 : Act} {w0 : World} {listed : Array Bool} {a : Act} {w : World} (h : GInv .any ops rd (fs.map Fh.sem) a0 w0 listed a w) {i : Nat} {dst : Option Tmp} {KK : Act → World → Prop}
    (hK : ∀ v w', Below w0.heap.size w0 w' → (∀ j vs, listed.getD j false = true → (fs.map Fh.sem).getD j (fun _ _ => True) vs w → (fs.map Fh.sem).getD j (fun _ _ => True) vs w') → (fs.map Fh.sem).getD i (fun _ _ => True) ((rd.getD i []).map fun s => (a.put dst v).tmps.getD s undef) w' → KK (a.put dst v) w') (hli : listed.getD i false = false) (v : Value) (w' : World) (r : Nat) (hr : w0.heap.size ≤ r) (hs : Sh9 w r) (hs' : Sh9 w' r) (hb : Bt r w w') (hbx : ∀ j, j ≠ i → (fs.map Fh.ok').getD j true = true) (hf : (fs.map Fh.sem).getD i (fun _ _ => True) ((rd.getD i []).map fun s => (a.put dst v).tmps.getD s undef) w') : KK (a.put dst v) w' :=
  hK v w' (h.below.trans (hb.below hr h.below.size)) (fun j vs hl hj => fh_store fs j vs hs hs' hb (hbx j (by rintro rfl; rw [hli] at hl; cases hl)) hj) hf
end
theorem row9 {W : World} {b : Nat} {c0 c1 c2 c3 c4 c5 c6 c7 c8 : Value} {t : TypeId} (h : W.heap[b]? = some (.cells #[c0, c1, c2, c3, c4, c5, c6, c7, c8] t (0, 0))) : (W.cell? ⟨b, 0, none⟩ = some c0 ∧ W.cell? ⟨b, 1, none⟩ = some c1 ∧ W.cell? ⟨b, 2, none⟩ = some c2 ∧ W.cell? ⟨b, 3, none⟩ = some c3 ∧ W.cell? ⟨b, 4, none⟩ = some c4 ∧ W.cell? ⟨b, 5, none⟩ = some c5 ∧ W.cell? ⟨b, 6, none⟩ = some c6 ∧ W.cell? ⟨b, 7, none⟩ = some c7 ∧ W.cell? ⟨b, 8, none⟩ = some c8) ∧ W.frozen? ⟨b, 0, none⟩ = false ∧ W.frozen? ⟨b, 1, none⟩ = false ∧ W.frozen? ⟨b, 2, none⟩ = false ∧ W.frozen? ⟨b, 3, none⟩ = false ∧ W.frozen? ⟨b, 4, none⟩ = false ∧ W.frozen? ⟨b, 5, none⟩ = false ∧ W.frozen? ⟨b, 6, none⟩ = false ∧ W.frozen? ⟨b, 7, none⟩ = false ∧ W.frozen? ⟨b, 8, none⟩ = false := by
  refine ⟨⟨?_, ?_, ?_, ?_, ?_, ?_, ?_, ?_, ?_⟩, frozen_of_row W b 0 _ _ h, frozen_of_row W b 1 _ _ h, frozen_of_row W b 2 _ _ h, frozen_of_row W b 3 _ _ h, frozen_of_row W b 4 _ _ h, frozen_of_row W b 5 _ _ h, frozen_of_row W b 6 _ _ h, frozen_of_row W b 7 _ _ h, frozen_of_row W b 8 _ _ h⟩ <;> (rw [cell_of_row _ _ _ _ _ _ h]; rfl)
abbrev set9 (W : World) (g : Nat) (d0 d1 d2 d3 d4 d5 d6 d7 d8 : Value) : World := (((((((((W.setCell ⟨g, 0, none⟩ d0).setCell ⟨g, 1, none⟩ d1).setCell ⟨g, 2, none⟩ d2).setCell ⟨g, 3, none⟩ d3).setCell ⟨g, 4, none⟩ d4).setCell ⟨g, 5, none⟩ d5).setCell ⟨g, 6, none⟩ d6).setCell ⟨g, 7, none⟩ d7).setCell ⟨g, 8, none⟩ d8)
theorem bt_set9 (W : World) (g : Nat) (d0 d1 d2 d3 d4 d5 d6 d7 d8 : Value) : Bt g W (set9 W g d0 d1 d2 d3 d4 d5 d6 d7 d8) := (((((((((Bt.setCell g W 0 d0).trans (Bt.setCell g _ 1 d1)).trans (Bt.setCell g _ 2 d2)).trans (Bt.setCell g _ 3 d3)).trans (Bt.setCell g _ 4 d4)).trans (Bt.setCell g _ 5 d5)).trans (Bt.setCell g _ 6 d6)).trans (Bt.setCell g _ 7 d7)).trans (Bt.setCell g _ 8 d8))
theorem row_set9 {W : World} {g : Nat} {c0 c1 c2 c3 c4 c5 c6 c7 c8 : Value} {t : TypeId} (h : W.heap[g]? = some (.cells #[c0, c1, c2, c3, c4, c5, c6, c7, c8] t (0, 0))) (d0 d1 d2 d3 d4 d5 d6 d7 d8 : Value) : (set9 W g d0 d1 d2 d3 d4 d5 d6 d7 d8).heap[g]? = some (.cells #[d0, d1, d2, d3, d4, d5, d6, d7, d8] t (0, 0)) := by
  show (((((((((W.setCell ⟨g, 0, none⟩ d0).setCell ⟨g, 1, none⟩ d1).setCell ⟨g, 2, none⟩ d2).setCell ⟨g, 3, none⟩ d3).setCell ⟨g, 4, none⟩ d4).setCell ⟨g, 5, none⟩ d5).setCell ⟨g, 6, none⟩ d6).setCell ⟨g, 7, none⟩ d7).setCell ⟨g, 8, none⟩ d8).heap[g]? = _
  have h1 : (W.setCell ⟨g, 0, none⟩ d0).heap[g]? = some (.cells #[d0, c1, c2, c3, c4, c5, c6, c7, c8] t (0, 0)) := heap_set7 W g 0 d0 _ _ _ h
  obtain ⟨W1, e1⟩ : ∃ WW : World, W.setCell ⟨g, 0, none⟩ d0 = WW := ⟨_, rfl⟩
  rw [e1] at h1 ⊢
  have h2 : (W1.setCell ⟨g, 1, none⟩ d1).heap[g]? = some (.cells #[d0, d1, c2, c3, c4, c5, c6, c7, c8] t (0, 0)) := heap_set7 W1 g 1 d1 _ _ _ h1
  obtain ⟨W2, e2⟩ : ∃ WW : World, W1.setCell ⟨g, 1, none⟩ d1 = WW := ⟨_, rfl⟩
  rw [e2] at h2 ⊢
  have h3 : (W2.setCell ⟨g, 2, none⟩ d2).heap[g]? = some (.cells #[d0, d1, d2, c3, c4, c5, c6, c7, c8] t (0, 0)) := heap_set7 W2 g 2 d2 _ _ _ h2
  obtain ⟨W3, e3⟩ : ∃ WW : World, W2.setCell ⟨g, 2, none⟩ d2 = WW := ⟨_, rfl⟩
  rw [e3] at h3 ⊢
  have h4 : (W3.setCell ⟨g, 3, none⟩ d3).heap[g]? = some (.cells #[d0, d1, d2, d3, c4, c5, c6, c7, c8] t (0, 0)) := heap_set7 W3 g 3 d3 _ _ _ h3
  obtain ⟨W4, e4⟩ : ∃ WW : World, W3.setCell ⟨g, 3, none⟩ d3 = WW := ⟨_, rfl⟩
  rw [e4] at h4 ⊢
  have h5 : (W4.setCell ⟨g, 4, none⟩ d4).heap[g]? = some (.cells #[d0, d1, d2, d3, d4, c5, c6, c7, c8] t (0, 0)) := heap_set7 W4 g 4 d4 _ _ _ h4
  obtain ⟨W5, e5⟩ : ∃ WW : World, W4.setCell ⟨g, 4, none⟩ d4 = WW := ⟨_, rfl⟩
  rw [e5] at h5 ⊢
  have h6 : (W5.setCell ⟨g, 5, none⟩ d5).heap[g]? = some (.cells #[d0, d1, d2, d3, d4, d5, c6, c7, c8] t (0, 0)) := heap_set7 W5 g 5 d5 _ _ _ h5
  obtain ⟨W6, e6⟩ : ∃ WW : World, W5.setCell ⟨g, 5, none⟩ d5 = WW := ⟨_, rfl⟩
  rw [e6] at h6 ⊢
  have h7 : (W6.setCell ⟨g, 6, none⟩ d6).heap[g]? = some (.cells #[d0, d1, d2, d3, d4, d5, d6, c7, c8] t (0, 0)) := heap_set7 W6 g 6 d6 _ _ _ h6
  obtain ⟨W7, e7⟩ : ∃ WW : World, W6.setCell ⟨g, 6, none⟩ d6 = WW := ⟨_, rfl⟩
  rw [e7] at h7 ⊢
  have h8 : (W7.setCell ⟨g, 7, none⟩ d7).heap[g]? = some (.cells #[d0, d1, d2, d3, d4, d5, d6, d7, c8] t (0, 0)) := heap_set7 W7 g 7 d7 _ _ _ h7
  obtain ⟨W8, e8⟩ : ∃ WW : World, W7.setCell ⟨g, 7, none⟩ d7 = WW := ⟨_, rfl⟩
  rw [e8] at h8 ⊢
  have h9 : (W8.setCell ⟨g, 8, none⟩ d8).heap[g]? = some (.cells #[d0, d1, d2, d3, d4, d5, d6, d7, d8] t (0, 0)) := heap_set7 W8 g 8 d8 _ _ _ h8
  exact h9
end Go.Proofs.Ytagljkbfgldlgaa
/-
  A region that draws its order: an invariant beside the facts that sees the slots too (two boxes made in one region are two). No program in sight.
-/
namespace Go.Proofs.Ytagljkbfgldlgaa
open Go.Shelf Go.RowKit
set_option linter.unusedVariables false
set_option linter.unusedSimpArgs false

section
variable {P : Program} {ops : Array Oper} {Q : Exit → Act → World → Prop} {md : Region.Mode}
/-- What holds while some have come. -/
structure GT (md : Region.Mode) (ops : Array Oper) (rd : List (List Nat)) (Fs : List (List Value → World → Prop)) (a0 : Act) (V : Array Bool → Act → World → Prop) (listed : Array Bool) (a : Act) (w : World) : Prop where
  size : listed.size = ops.size
  defers : a.defers = a0.defers
  slots : a.tmps.size = a0.tmps.size
  old : ∀ s, (∀ j, listed.getD j false = true → dstIs ops j s = false) → a.tmps.getD s undef = a0.tmps.getD s undef
  inv : V listed a w
  facts : ∀ j, listed.getD j false = true → Fs.getD j (fun _ _ => True) ((rd.getD j []).map fun s => a.tmps.getD s undef) w
  down : ∀ j, listed.getD j false = true → ∀ e ∈ needsOf md ops j, listed.getD e false = true
/-- All that stands behind operation i. -/
theorem GT.deep {rd : List (List Nat)} {Fs : List (List Value → World → Prop)} {a0 : Act} {V : Array Bool → Act → World → Prop} {listed : Array Bool} {a : Act} {w : World} (h : GT md ops rd Fs a0 V listed a w) {i : Nat} (hr : ∀ e ∈ needsOf md ops i, listed.getD e false = true) (n e : Nat) (he : e ∈ reachOf md ops n i) : Fs.getD e (fun _ _ => True) ((rd.getD e []).map fun s => a.tmps.getD s undef) w :=
  h.facts e (reachN_sound (T := fun j => listed.getD j false = true) (fun x hx j hj => h.down x hx j hj) n _ hr e he)
theorem GT.stays {rd : List (List Nat)} {Fs : List (List Value → World → Prop)} {a0 : Act} {V : Array Bool → Act → World → Prop} {listed : Array Bool} {a : Act} {w : World} (h : GT md ops rd Fs a0 V listed a w) {i : Nat} (hi : listed.getD i false = false) (n s : Nat) (hs : (List.range ops.size).all (fun j => !dstIs ops j s || (reachOf md ops n j).contains i || decide (i = j)) = true) : a.tmps.getD s undef = a0.tmps.getD s undef := by
  refine h.old s fun j hj => ?_
  rw [List.all_eq_true] at hs
  by_cases hjs : j < ops.size
  · have := hs j (List.mem_range.2 hjs)
    rw [Bool.or_eq_true, Bool.or_eq_true] at this
    rcases this with (this | this) | this
    · simpa using this
    · have hm : i ∈ reachOf md ops n j := by simpa using this
      have := reachN_sound (md := md) (ops := ops) (T := fun j => listed.getD j false = true) (fun x hx j hj => h.down x hx j hj) n _ (h.down j hj) i hm
      rw [hi] at this
      cases this
    · have : i = j := by simpa using this
      rw [this, hj] at hi
      cases hi
  · unfold dstIs
    rw [Array.getElem?_eq_none (by omega)]
/-- One step, and what is then asked. -/
def GTStep (P : Program) (Q : Exit → Act → World → Prop) (ops : Array Oper) (rd : List (List Nat)) (Fs : List (List Value → World → Prop)) (V : Array Bool → Act → World → Prop) (i : Nat) (o : Oper) (listed : Array Bool) (a : Act) (w : World) : Prop :=
  ∀ KK : Act → World → Prop,
    (∀ v w', V (listed.setIfInBounds i true) (a.put o.dst v) w' → (∀ j, listed.getD j false = true → Fs.getD j (fun _ _ => True) ((rd.getD j []).map fun s => a.tmps.getD s undef) w → Fs.getD j (fun _ _ => True) ((rd.getD j []).map fun s => a.tmps.getD s undef) w') → Fs.getD i (fun _ _ => True) ((rd.getD i []).map fun s => (a.put o.dst v).tmps.getD s undef) w' → KK (a.put o.dst v) w') →
    if Region.wanted o (yielded ops a.tmps) = true then o.wp P a w KK Q else KK (a.put o.dst undef) w
theorem wpAny_t (n : Nat) (rd : List (List Nat)) (Fs : List (List Value → World → Prop)) (ord : List Nat) (a0 : Act) (V : Array Bool → Act → World → Prop) (hok : framesOk md ops n rd = true) (hord : orderOk md ops ord [] = true)
    (step : ∀ i o, ops[i]? = some o → ∀ listed a w, GT md ops rd Fs a0 V listed a w → listed.getD i false = false → (∀ e ∈ needsOf md ops i, listed.getD e false = true) → GTStep P Q ops rd Fs V i o listed a w)
    (done : ∀ listed a w, GT md ops rd Fs a0 V listed a w → (∀ i, i < ops.size → listed.getD i false = true) → Q .normal a w) :
    ∀ k listed a w, GT md ops rd Fs a0 V listed a w → unl ops.size listed = k → wpAny P md ops Q k listed a w
  | 0, listed, a, w, h, hk => by
    have hall : ∀ i, i < ops.size → listed.getD i false = true := fun i hi => by
      have h1 : (List.range ops.size).filter (fun j => !listed.getD j false) = [] := List.length_eq_zero_iff.1 hk
      rw [List.filter_eq_nil_iff] at h1
      have := h1 i (List.mem_range.2 hi)
      simpa using this
    refine ⟨?_, done listed a w h hall⟩
    cases hr : Region.ready md ops listed with
    | nil => rfl
    | cons i l =>
      obtain ⟨h1, h2, _⟩ := ready_mem (md := md) (ops := ops) (listed := listed) (i := i) (by rw [hr]; exact List.mem_cons_self)
      rw [getD_or _ _ (by rw [h.size]; exact h1), hall i h1] at h2
      cases h2
  | k + 1, listed, a, w, h, hk => by
    refine ⟨fun hr => ?_, fun i hi => ?_⟩
    · rcases order_all ord [] listed hord (fun i hi => by cases hi) h.size with h1 | ⟨i, hi⟩
      · exact done listed a w h h1
      · rw [hr] at hi; cases hi
    · obtain ⟨hi1, hi2, o, ho, hd⟩ := ready_mem hi
      rw [getD_or _ _ (by rw [h.size]; omega)] at hi2
      have hneed : ∀ e ∈ needsOf md ops i, listed.getD e false = true := fun e he => by
        obtain ⟨e', h1, h2, rfl⟩ := (needs_mem i o ho e).1 he
        exact hd e' h1 h2
      unfold wpOp
      rw [ho]
      simp only
      have hs := step i o ho listed a w h hi2 hneed (wpAny P md ops Q k (listed.setIfInBounds i true)) (by
        intro v w' hb hkeep hnew
        refine wpAny_t n rd Fs ord a0 V hok hord step done k _ _ _ ?_ ?_
        · have hput : ∀ s, dstIs ops i s = false → (a.put o.dst v).tmps.getD s undef = a.tmps.getD s undef := fun s hs => by
            unfold dstIs at hs
            rw [ho] at hs
            cases hdst : o.dst with
            | none => rfl
            | some d =>
              refine put_get _ _ _ _ ?_
              rintro rfl
              simp [hdst] at hs
          refine ⟨by simp [h.size], ?_, ?_, ?_, hb, ?_, ?_⟩
          · cases hdst : o.dst <;> exact h.defers
          · rw [← h.slots]
            cases hdst : o.dst with
            | none => rfl
            | some d => simp [Act.put]
          · intro s hs
            have h1 := hs i (by rw [lget_set _ _ _ (by rw [h.size]; omega), if_pos rfl])
            rw [hput s h1]
            refine h.old s fun j hj => hs j ?_
            rw [lget_set _ _ _ (by rw [h.size]; omega)]
            split
            · rfl
            · exact hj
          · intro j hj
            rw [lget_set _ _ _ (by rw [h.size]; omega)] at hj
            by_cases hij : i = j
            · subst hij
              exact hnew
            · rw [if_neg hij] at hj
              have h5 := hkeep j hj (h.facts j hj)
              have e : ((rd.getD j []).map fun s => (a.put o.dst v).tmps.getD s undef) = ((rd.getD j []).map fun s => a.tmps.getD s undef) := by
                apply List.map_congr_left
                intro s hs
                refine hput s ?_
                unfold framesOk at hok
                rw [List.all_eq_true] at hok
                have h6 := hok i (List.mem_range.2 hi1)
                rw [Bool.and_eq_true, List.all_eq_true, List.all_eq_true] at h6
                by_cases hjs : j < ops.size
                · have h7 := h6.2 j (List.mem_range.2 hjs)
                  rw [List.all_eq_true] at h7
                  have h8 := h7 s hs
                  rw [Bool.or_eq_true, Bool.or_eq_true] at h8
                  rcases h8 with (h8 | h8) | h8
                  · simpa using h8
                  · exact absurd (by simpa using h8) hij
                  · have hm : i ∈ reachOf md ops n j := by simpa using h8
                    have := reachN_sound (md := md) (ops := ops) (T := fun j => listed.getD j false = true) (fun x hx j hj => h.down x hx j hj) n _ (h.down j hj) i hm
                    rw [hi2] at this
                    cases this
                · have : listed.getD j false = false := by
                    simp only [Array.getD_eq_getD_getElem?]
                    rw [Array.getElem?_eq_none (by rw [h.size]; omega)]
                    rfl
                  rw [this] at hj
                  cases hj
              rw [e]
              exact h5
          · intro j hj e he
            rw [lget_set _ _ _ (by rw [h.size]; omega)] at hj ⊢
            by_cases hie : i = e
            · rw [if_pos hie]
            · rw [if_neg hie]
              by_cases hij : i = j
              · subst hij
                exact hneed e he
              · rw [if_neg hij] at hj
                exact h.down j hj e he
        · have := unl_set ops.size listed i hi1 (by rw [h.size]; omega) hi2
          omega)
      by_cases hw : Region.wanted o (yielded ops a.tmps) = true
      · rw [if_pos hw] at hs ⊢
        exact .inl hs
      · rw [if_neg hw] at hs ⊢
        exact hs
/-- The rule. -/
theorem wp_region_t {id : Nat} {a0 : Act} {w0 : World} (V : Array Bool → Act → World → Prop) (hV0 : V (Array.replicate ops.size false) a0 w0.drew) (n : Nat) (rd : List (List Nat)) (Fs : List (List Value → World → Prop)) (ord : List Nat) (hmx : P.follows .mixedOrders = true) (hok : framesOk .any ops n rd = true) (hord : orderOk .any ops ord [] = true)
    (step : ∀ i o, ops[i]? = some o → ∀ listed a w, GT .any ops rd Fs a0 V listed a w → listed.getD i false = false → (∀ e ∈ needsOf .any ops i, listed.getD e false = true) → GTStep P Q ops rd Fs V i o listed a w)
    (done : ∀ listed a w, GT .any ops rd Fs a0 V listed a w → (∀ i, i < ops.size → listed.getD i false = true) → Q .normal a w) : (Code.region id ops true).wp P Q a0 w0 := by
  have hrep : ∀ i, (Array.replicate ops.size false).getD i false = false := fun i => by
    simp only [Array.getD_eq_getD_getElem?]
    by_cases h : i < ops.size
    · rw [Array.getElem?_eq_getElem (by simpa using h)]; simp
    · rw [Array.getElem?_eq_none (by simpa using Nat.le_of_not_lt h)]; rfl
  refine wp_region_any hmx ?_
  have hu : unl ops.size (Array.replicate ops.size false) = ops.size := by
    unfold unl
    have : (List.range ops.size).filter (fun j => !(Array.replicate ops.size false).getD j false) = List.range ops.size := by
      rw [List.filter_eq_self]
      intro j _
      rw [hrep]
      rfl
    rw [this, List.length_range]
  exact wpAny_t (P := P) (Q := Q) (md := .any) n rd Fs ord a0 V hok hord step done ops.size (Array.replicate ops.size false) a0 w0.drew ⟨by simp, rfl, rfl, fun _ _ => rfl, hV0, fun i hl => (by rw [hrep] at hl; cases hl), fun i hl => (by rw [hrep] at hl; cases hl)⟩ hu
theorem GT.keptQ {md : Region.Mode} {rd : List (List Nat)} {Fs : List (List Value → World → Prop)} {a0 : Act} {V : Array Bool → Act → World → Prop} {listed : Array Bool} {a : Act} {w : World} (h : GT md ops rd Fs a0 V listed a w) (s : Nat) (hs : (List.range ops.size).all (fun j => !dstIs ops j s) = true) : a.tmps.getD s undef = a0.tmps.getD s undef := by
  refine h.old s fun j _ => ?_
  rw [List.all_eq_true] at hs
  by_cases hjs : j < ops.size
  · simpa using hs j (List.mem_range.2 hjs)
  · unfold dstIs
    rw [Array.getElem?_eq_none (by omega)]
end
end Go.Proofs.Ytagljkbfgldlgaa
/-
  Facts for the region that makes two keys' boxes.
-/
namespace Go.Proofs.Ytagljkbfgldlgaa
open Go.RowKit Go.Shelf
set_option linter.unusedVariables false
set_option linter.unusedSimpArgs false

/-- A store into a point's box. -/
def SPt (r : Nat) (w w' : World) : Prop := (∃ a1 l1 k1 a2 l2 k2 b, PSl w r (.slice a1 l1 k1) (.slice a2 l2 k2) (.bool b)) ∧ (∃ a1 l1 k1 a2 l2 k2 b, PSl w' r (.slice a1 l1 k1) (.slice a2 l2 k2) (.bool b)) ∧ Bt r w w'
theorem Nv.store {w w' : World} {v : Value} {n : Int} {L r : Nat} (h : Nv w v n L) (hs : SPt r w w') : Nv w' v n L := by
  obtain ⟨⟨_, _, _, _, _, _, _, h1⟩, _, hb⟩ := hs
  exact h.apart h1 hb
/-- A fact that stands while memory is made; and, if it says so, while a point's box is filled. -/
structure Fz where
  sem : List Value → World → Prop
  keep : ∀ vs w w', Below w.heap.size w w' → sem vs w → sem vs w'
  ok' : Bool
  store : ok' = true → ∀ vs w w' r, SPt r w w' → sem vs w → sem vs w'
def Fz.eq (e : Value) : Fz := ⟨fun vs _ => vs.getD 0 undef = e, fun _ _ _ _ h => h, true, fun _ _ _ _ _ _ h => h⟩
/-- A key by a curve. -/
def Fz.ky (j : Int) (x y : Int) : Fz := ⟨fun vs W => ∃ a1 l1 k1 a2 l2 k2, vs.getD 0 undef = .agg #[.int .u8 1, .int .i64 j, .slice a1 l1 k1, .slice a2 l2 k2, .bool false, .slice none 0 0, .slice none 0 0] ∧ Nv W (.slice a1 l1 k1) x 2 ∧ Nv W (.slice a2 l2 k2) y 2, fun vs w w' hb h => by
  obtain ⟨a1, l1, k1, a2, l2, k2, h1, h2, h3⟩ := h
  exact ⟨a1, l1, k1, a2, l2, k2, h1, h2.old hb, h3.old hb⟩, true, fun _ vs w w' r hs h => by
  obtain ⟨a1, l1, k1, a2, l2, k2, h1, h2, h3⟩ := h
  exact ⟨a1, l1, k1, a2, l2, k2, h1, h2.store hs, h3.store hs⟩⟩
/-- A point. -/
def Fz.pt (x y : Int) : Fz := ⟨fun vs W => ∃ a1 l1 k1 a2 l2 k2, vs.getD 0 undef = .agg #[.slice a1 l1 k1, .slice a2 l2 k2, .bool false] ∧ Nv W (.slice a1 l1 k1) x 2 ∧ Nv W (.slice a2 l2 k2) y 2, fun vs w w' hb h => by
  obtain ⟨a1, l1, k1, a2, l2, k2, h1, h2, h3⟩ := h
  exact ⟨a1, l1, k1, a2, l2, k2, h1, h2.old hb, h3.old hb⟩, true, fun _ vs w w' r hs h => by
  obtain ⟨a1, l1, k1, a2, l2, k2, h1, h2, h3⟩ := h
  exact ⟨a1, l1, k1, a2, l2, k2, h1, h2.store hs, h3.store hs⟩⟩
/-- A point's box, whatever it holds. -/
def Fz.box (B : Nat) : Fz := ⟨fun vs W => ∃ b a1 l1 k1 a2 l2 k2 c, vs.getD 0 undef = .pointer (some ⟨b, 0, none⟩) ∧ B ≤ b ∧ PSl W b (.slice a1 l1 k1) (.slice a2 l2 k2) (.bool c), fun vs w w' hb h => by
  obtain ⟨b, a1, l1, k1, a2, l2, k2, c, h1, h2, h3⟩ := h
  exact ⟨b, a1, l1, k1, a2, l2, k2, c, h1, h2, h3.keep hb⟩, true, fun _ vs w w' r hs h => by
  obtain ⟨b, a1, l1, k1, a2, l2, k2, c, h1, h2, h3⟩ := h
  obtain ⟨_, ⟨d1, m1, n1, d2, m2, n2, d, hs'⟩, hb⟩ := hs
  by_cases hg : b = r
  · subst hg
    exact ⟨b, d1, m1, n1, d2, m2, n2, d, h1, h2, hs'⟩
  · exact ⟨b, a1, l1, k1, a2, l2, k2, c, h1, h2, (hb.block b h3.lt hg).trans h3⟩⟩
/-- A point's box that is filled. -/
def Fz.sto (B : Nat) (x y : Int) : Fz := ⟨fun vs W => ∃ b a1 l1 k1 a2 l2 k2, vs.getD 0 undef = .pointer (some ⟨b, 0, none⟩) ∧ B ≤ b ∧ PSl W b (.slice a1 l1 k1) (.slice a2 l2 k2) (.bool false) ∧ Nv W (.slice a1 l1 k1) x 2 ∧ Nv W (.slice a2 l2 k2) y 2, fun vs w w' hb h => by
  obtain ⟨b, a1, l1, k1, a2, l2, k2, h1, h2, h3, h4, h5⟩ := h
  exact ⟨b, a1, l1, k1, a2, l2, k2, h1, h2, h3.keep hb, h4.old hb, h5.old hb⟩, false, fun h => by cases h⟩
theorem Fz.sto_apart {B : Nat} {x y : Int} {vs : List Value} {w w' : World} {r : Nat} (h : (Fz.sto B x y).sem vs w) (hs : SPt r w w') (hne : vs.getD 0 undef ≠ .pointer (some ⟨r, 0, none⟩)) : (Fz.sto B x y).sem vs w' := by
  obtain ⟨b, a1, l1, k1, a2, l2, k2, h1, h2, h3, h4, h5⟩ := h
  have hg : b ≠ r := fun e => hne (by rw [h1, e])
  exact ⟨b, a1, l1, k1, a2, l2, k2, h1, h2, (hs.2.2.block b h3.lt hg).trans h3, h4.store hs, h5.store hs⟩
theorem fz_keep (fs : List Fz) (j : Nat) (vs : List Value) {w w' : World} (hb : Below w.heap.size w w') (h : (fs.map Fz.sem).getD j (fun _ _ => True) vs w) : (fs.map Fz.sem).getD j (fun _ _ => True) vs w' := by
  rw [List.getD_eq_getElem?_getD, List.getElem?_map] at h ⊢
  cases hf : fs[j]? with
  | none => trivial
  | some f => rw [hf] at h; exact f.keep vs w w' hb h
theorem fz_store (fs : List Fz) (j : Nat) (vs : List Value) {w w' : World} {r : Nat} (hs : SPt r w w') (hf : (fs.map Fz.ok').getD j true = true) (h : (fs.map Fz.sem).getD j (fun _ _ => True) vs w) : (fs.map Fz.sem).getD j (fun _ _ => True) vs w' := by
  rw [List.getD_eq_getElem?_getD, List.getElem?_map] at h hf ⊢
  cases hq : fs[j]? with
  | none => trivial
  | some f => rw [hq] at h hf; exact f.store hf vs w w' r hs h
/-- Only memory is made; and the boxes of slots s and t, made by operations m and n, are two. -/
def VZ (W1 : World) (m n s t : Nat) (listed : Array Bool) (a : Act) (W : World) : Prop := Below W1.heap.size W1 W ∧ (listed.getD m false = true → listed.getD n false = true → a.tmps.getD s undef ≠ a.tmps.getD t undef)
section
variable {ops : Array Oper} {rd : List (List Nat)} {a0 : Act} {W1 : World} {m n s t : Nat} {listed : Array Bool} {a : Act} {w : World} {fs : List Fz}
theorem GT.growZ (h : GT .any ops rd (fs.map Fz.sem) a0 (VZ W1 m n s t) listed a w) {i : Nat} (him : i ≠ m) (hin : i ≠ n) {dst : Option Tmp} (hd : dst ≠ some s) (hd' : dst ≠ some t) {KK : Act → World → Prop}
    (hK : ∀ v w', VZ W1 m n s t (listed.setIfInBounds i true) (a.put dst v) w' → (∀ j, listed.getD j false = true → (fs.map Fz.sem).getD j (fun _ _ => True) ((rd.getD j []).map fun s => a.tmps.getD s undef) w → (fs.map Fz.sem).getD j (fun _ _ => True) ((rd.getD j []).map fun s => a.tmps.getD s undef) w') → (fs.map Fz.sem).getD i (fun _ _ => True) ((rd.getD i []).map fun s => (a.put dst v).tmps.getD s undef) w' → KK (a.put dst v) w') (v : Value) (w' : World) (hb : Below w.heap.size w w') (hf : (fs.map Fz.sem).getD i (fun _ _ => True) ((rd.getD i []).map fun s => (a.put dst v).tmps.getD s undef) w') : KK (a.put dst v) w' := by
  refine hK v w' ⟨bstep h.inv.1 hb, fun hm hn => ?_⟩ (fun j _ hj => fz_keep fs j _ hb hj) hf
  have e1 : (listed.setIfInBounds i true).getD m false = listed.getD m false := by
    simp only [Array.getD_eq_getD_getElem?]
    rw [Array.getElem?_setIfInBounds_ne him]
  have e2 : (listed.setIfInBounds i true).getD n false = listed.getD n false := by
    simp only [Array.getD_eq_getD_getElem?]
    rw [Array.getElem?_setIfInBounds_ne hin]
  rw [e1] at hm
  rw [e2] at hn
  cases dst with
  | none => exact h.inv.2 hm hn
  | some d =>
    rw [put_get _ _ _ _ (fun e => hd (by rw [e])), put_get _ _ _ _ (fun e => hd' (by rw [e]))]
    exact h.inv.2 hm hn
/-- A box is filled. -/
theorem GT.fillZ (h : GT .any ops rd (fs.map Fz.sem) a0 (VZ W1 m n s t) listed a w) {i : Nat} (him : i ≠ m) (hin : i ≠ n) {KK : Act → World → Prop}
    (hK : ∀ v w', VZ W1 m n s t (listed.setIfInBounds i true) (a.put none v) w' → (∀ j, listed.getD j false = true → (fs.map Fz.sem).getD j (fun _ _ => True) ((rd.getD j []).map fun s => a.tmps.getD s undef) w → (fs.map Fz.sem).getD j (fun _ _ => True) ((rd.getD j []).map fun s => a.tmps.getD s undef) w') → (fs.map Fz.sem).getD i (fun _ _ => True) ((rd.getD i []).map fun s => (a.put none v).tmps.getD s undef) w' → KK (a.put none v) w') (w' : World) (r : Nat) (hr : W1.heap.size ≤ r) (hs : SPt r w w') (hkeep : ∀ j, listed.getD j false = true → (fs.map Fz.ok').getD j true = true ∨ ((fs.map Fz.sem).getD j (fun _ _ => True) ((rd.getD j []).map fun s => a.tmps.getD s undef) w → (fs.map Fz.sem).getD j (fun _ _ => True) ((rd.getD j []).map fun s => a.tmps.getD s undef) w')) (hf : (fs.map Fz.sem).getD i (fun _ _ => True) ((rd.getD i []).map fun s => a.tmps.getD s undef) w') : KK (a.put none undef) w' := by
  refine hK undef w' ⟨h.inv.1.trans (hs.2.2.below hr h.inv.1.size), fun hm hn => ?_⟩ (fun j hl hj => ?_) hf
  · have e1 : (listed.setIfInBounds i true).getD m false = listed.getD m false := by
      simp only [Array.getD_eq_getD_getElem?]
      rw [Array.getElem?_setIfInBounds_ne him]
    have e2 : (listed.setIfInBounds i true).getD n false = listed.getD n false := by
      simp only [Array.getD_eq_getD_getElem?]
      rw [Array.getElem?_setIfInBounds_ne hin]
    rw [e1] at hm
    rw [e2] at hn
    exact h.inv.2 hm hn
  · rcases hkeep j hl with h1 | h1
    · exact fz_store fs j _ hs h1 hj
    · exact h1 hj
/-- The box of slot s or t is made. -/
theorem GT.boxZ (h : GT .any ops rd (fs.map Fz.sem) a0 (VZ W1 m n s t) listed a w) {i d : Nat} (hne : s ≠ t) (hi : (i = m ∧ d = s) ∨ (i = n ∧ d = t)) (hmn : m ≠ n) {KK : Act → World → Prop} (hsz : d < a.tmps.size)
    (hold : ∀ e, (d = s ∧ e = t ∧ listed.getD n false = true) ∨ (d = t ∧ e = s ∧ listed.getD m false = true) → ∃ b, a.tmps.getD e undef = .pointer (some ⟨b, 0, none⟩) ∧ b < w.heap.size)
    (hK : ∀ v w', VZ W1 m n s t (listed.setIfInBounds i true) (a.put (some d) v) w' → (∀ j, listed.getD j false = true → (fs.map Fz.sem).getD j (fun _ _ => True) ((rd.getD j []).map fun s => a.tmps.getD s undef) w → (fs.map Fz.sem).getD j (fun _ _ => True) ((rd.getD j []).map fun s => a.tmps.getD s undef) w') → (fs.map Fz.sem).getD i (fun _ _ => True) ((rd.getD i []).map fun s => (a.put (some d) v).tmps.getD s undef) w' → KK (a.put (some d) v) w') (w' : World) (hb : Below w.heap.size w w') (hf : (fs.map Fz.sem).getD i (fun _ _ => True) ((rd.getD i []).map fun s => (a.put (some d) (.pointer (some ⟨w.heap.size, 0, none⟩))).tmps.getD s undef) w') : KK (a.put (some d) (.pointer (some ⟨w.heap.size, 0, none⟩))) w' := by
  refine hK _ w' ⟨bstep h.inv.1 hb, fun hm hn => ?_⟩ (fun j _ hj => fz_keep fs j _ hb hj) hf
  rcases hi with ⟨rfl, rfl⟩ | ⟨rfl, rfl⟩
  · have e2 : (listed.setIfInBounds i true).getD n false = listed.getD n false := by
      simp only [Array.getD_eq_getD_getElem?]
      rw [Array.getElem?_setIfInBounds_ne hmn]
    rw [e2] at hn
    obtain ⟨b, h1, h2⟩ := hold t (.inl ⟨rfl, rfl, hn⟩)
    rw [put_self _ _ _ hsz, put_get _ _ _ _ hne, h1]
    intro e
    injection e with e
    injection e with e
    injection e with e
    omega
  · have e2 : (listed.setIfInBounds i true).getD m false = listed.getD m false := by
      simp only [Array.getD_eq_getD_getElem?]
      rw [Array.getElem?_setIfInBounds_ne (Ne.symm hmn)]
    rw [e2] at hm
    obtain ⟨b, h1, h2⟩ := hold s (.inr ⟨rfl, rfl, hm⟩)
    rw [put_self _ _ _ hsz, put_get _ _ _ _ (Ne.symm hne), h1]
    intro e
    injection e with e
    injection e with e
    injection e with e
    omega
end
end Go.Proofs.Ytagljkbfgldlgaa
/-
  A slice of the call's own, at a known block (it stood in ShaF).
-/
namespace Go.Proofs.Ytagljkbfgldlgaa
open Go.Shelf Go.RowKit
set_option linter.unusedVariables false
set_option linter.unusedSimpArgs false

/-- A slice of the call's own, at a known block. -/
structure OwnAt (e : TypeId) (k : IntKind) (w : World) (g cap : Nat) (xs : List Int) : Prop where
  blk : ∃ cur : Array Value, w.heap[g]? = some (.cells cur e (0, 0)) ∧ cur.toList.take xs.length = xs.map (Value.int k) ∧ cur.size = cap
  lc : xs.length ≤ cap
  cm : cap ≤ maxLen
theorem OwnAt.lt {e : TypeId} {k : IntKind} {w : World} {g cap : Nat} {xs : List Int} (h : OwnAt e k w g cap xs) : g < w.heap.size := by
  obtain ⟨cur, h1, _⟩ := h.blk
  exact (Array.getElem?_eq_some_iff.1 h1).1
theorem OwnAt.kept {e : TypeId} {k : IntKind} {w w' : World} {g cap : Nat} {xs : List Int} (h : OwnAt e k w g cap xs) (hk : w'.heap[g]? = w.heap[g]?) : OwnAt e k w' g cap xs := ⟨by rw [hk]; exact h.blk, h.lc, h.cm⟩
theorem OwnAt.below {e : TypeId} {k : IntKind} {w w' : World} {g cap B : Nat} {xs : List Int} (h : OwnAt e k w g cap xs) (hb : Below B w w') (hg : g < B) : OwnAt e k w' g cap xs := h.kept (hb.block g hg)
theorem OwnAt.cell {e : TypeId} {k : IntKind} {w : World} {g cap : Nat} {xs : List Int} (h : OwnAt e k w g cap xs) (j : Nat) (hj : j < xs.length) : w.cell? ⟨g, j, none⟩ = some (.int k (xs.getD j 0)) := by
  obtain ⟨cur, h1, h2, h3⟩ := h.blk
  rw [cell_of_row w g j cur e (0, 0) h1]
  have : (cur.toList.take xs.length)[j]? = (xs.map (Value.int k))[j]? := by rw [h2]
  rw [List.getElem?_take, if_pos hj] at this
  rw [← Array.getElem?_toList, this]
  simp [List.getD, hj]
theorem OwnAt.frozen {e : TypeId} {k : IntKind} {w : World} {g cap : Nat} {xs : List Int} (h : OwnAt e k w g cap xs) (j : Nat) : w.frozen? ⟨g, j, none⟩ = false := by
  obtain ⟨cur, h1, _⟩ := h.blk
  exact frozen_of_row w g j cur e h1
theorem OwnAt.lies {e : TypeId} {k : IntKind} {w : World} {g cap : Nat} {xs : List Int} (h : OwnAt e k w g cap xs) {n : Nat} (hn : xs.length = n) : Lies k w (some ⟨g, 0, none⟩) n xs :=
  ⟨hn, .inr ⟨g, 0, rfl, h.lt, fun i hi => by rw [Nat.zero_add]; exact h.cell i (by omega)⟩⟩
theorem OwnAt.set {e : TypeId} {k : IntKind} {w : World} {g cap : Nat} {xs : List Int} (h : OwnAt e k w g cap xs) (j : Nat) (hj : j < xs.length) (y : Int) : OwnAt e k (w.setCell ⟨g, j, none⟩ (.int k y)) g cap (xs.set j y) := by
  obtain ⟨cur, h1, h2, h3⟩ := h.blk
  refine ⟨⟨cur.setIfInBounds j (.int k y), heap_setCell_same w g j cur e _ h1, ?_, by simpa using h3⟩, by simpa using h.lc, h.cm⟩
  rw [List.length_set, Array.toList_setIfInBounds, List.take_set, h2, List.map_set]
theorem Own.at {e : TypeId} {k : IntKind} {w : World} {base : Nat} {v : Value} {xs : List Int} (h : Own e k w base v xs) (hx : 0 < xs.length) : ∃ g cap, v = .slice (some ⟨g, 0, none⟩) xs.length cap ∧ OwnAt e k w g cap xs ∧ base ≤ g := by
  rcases h.2 with ⟨rfl, h0⟩ | ⟨g, cap, cur, rfl, hg, hrow, h1, h2, h3, h4⟩
  · omega
  · exact ⟨g, cap, rfl, ⟨⟨cur, hrow, by simpa using h4, by simpa using h3⟩, h1, h2⟩, hg⟩

end Go.Proofs.Ytagljkbfgldlgaa
/-
  CBOR as the document says it, by plain functions on bytes. No program in sight.
-/
namespace Go.Proofs.Ytagljkbfgldlgaa
open Go.RowKit
set_option linter.unusedVariables false

/-- Bytes. -/
abbrev Bs := List UInt8
/-- An item. -/
structure It where
  kind : Nat
  n : Nat
  b : Bs
  kids : List It
def It.no : It := ⟨0, 0, [], []⟩
/-- So many bytes as a number, the greatest first. -/
def beC : Nat → Nat → Bs → Option (Nat × Bs)
  | 0, a, xs => some (a, xs)
  | _ + 1, _, [] => none
  | k + 1, a, c :: xs => beC k (a * 256 + c.toNat) xs
/-- The least number of each size. -/
def leastC (k : Nat) : Nat := if k = 0 then 24 else if k = 1 then 256 else if k = 2 then 65536 else 4294967296
/-- The number that a head says: low, and what stands behind it; or the fault. -/
def numC (low : Nat) (xs : Bs) : Except Nat (Nat × Bs) :=
  if low < 24 then .ok (low, xs) else if 27 < low then .error 20 else match beC (2 ^ (low - 24)) 0 xs with
    | none => .error 20
    | some (n, ys) => if n < leastC (low - 24) then .error 22 else .ok (n, ys)
/-- May an item be a key? -/
def keyC (i : It) : Bool := decide (1 ≤ i.kind) && decide (i.kind ≤ 4)
/-- One list of bytes ahead of another of the same length. -/
def ltB : Bs → Bs → Bool
  | [], [] => false
  | [], _ :: _ => true
  | _ :: _, [] => false
  | a :: xs, c :: ys => if a = c then ltB xs ys else decide (a.toNat < c.toNat)
/-- Is a key ahead of another one? -/
def aheadC (a c : It) : Bool :=
  if a.kind ≠ c.kind then decide (a.kind < c.kind)
  else if a.kind = 1 ∨ a.kind = 2 then decide (a.n < c.n)
  else if a.b.length ≠ c.b.length then decide (a.b.length < c.b.length) else ltB a.b c.b
/-- Is a key not behind the one ahead of it? -/
def badOrd : Option It → It → Bool
  | some l, k => !aheadC l k
  | none, _ => false
/-- A group's items, one by one: m: so many are left, first: none has been read; t: items so far. -/
def pcsC (item : Nat → Nat → Bs → Except Nat (It × Nat × Bs)) (pairs : Bool) (within : Nat) : Nat → Option It → List It → Nat → Bs → Except Nat (List It × Nat × Bs)
  | 0, _, kids, t, xs => .ok (kids, t, xs)
  | m + 1, last, kids, t, xs => match item within t xs with
    | .error e => .error e
    | .ok (k, t1, ys) => if pairs then
        (if keyC k = false then .error 20 else if badOrd last k then .error 21 else match item within t1 ys with
          | .error e => .error e
          | .ok (v, t2, zs) => pcsC item pairs within m (some k) (kids ++ [k, v]) t2 zs)
      else pcsC item pairs within m none (kids ++ [k]) t1 ys
/-- An item within so many others; t: so many items there were ahead; d: so many more may be within one another. -/
def itemC : Nat → Nat → Nat → Bs → Except Nat (It × Nat × Bs)
  | d, within, t, xs => if 512 ≤ t then .error 14 else match xs with
    | [] => .error 20
    | c :: ys =>
      if c.toNat / 32 = 7 then (if c.toNat % 32 < 20 ∨ 22 < c.toNat % 32 then .error 20 else .ok (⟨c.toNat % 32 - 13, 0, [], []⟩, t + 1, ys))
      else match numC (c.toNat % 32) ys with
        | .error e => .error e
        | .ok (n, zs) =>
          if c.toNat / 32 = 0 then .ok (⟨1, n, [], []⟩, t + 1, zs)
          else if c.toNat / 32 = 1 then .ok (⟨2, n, [], []⟩, t + 1, zs)
          else if c.toNat / 32 = 2 then (if zs.length < n then .error 20 else .ok (⟨3, 0, zs.take n, []⟩, t + 1, zs.drop n))
          else if c.toNat / 32 = 3 then (if zs.length < n then .error 20 else if Lib.validD (zs.take n) then .ok (⟨4, 0, zs.take n, []⟩, t + 1, zs.drop n) else .error 23)
          else if c.toNat / 32 = 6 then .error 20
          else match d with
            | 0 => .error 13
            | d + 1 => match pcsC (itemC d) (decide (c.toNat / 32 = 5)) (within + 1) n none [] (t + 1) zs with
              | .error e => .error e
              | .ok (kids, t2, us) => .ok (⟨c.toNat / 32 + 1, 0, [], kids⟩, t2, us)
/-- Decode: an item, and what is left; or the fault's number. -/
def decC (xs : Bs) : Except Nat (It × Bs) := if 8192 < xs.length then .error 3 else match itemC 8 0 0 xs with
  | .error e => .error e
  | .ok (i, _, ys) => .ok (i, ys)
def wholeC (xs : Bs) : Except Nat It := match decC xs with
  | .error e => .error e
  | .ok (i, ys) => if ys = [] then .ok i else .error 20
theorem awake_c1 : (match wholeC [161, 1, 2] with | .ok i => decide (i.kind = 6) && decide (i.kids.length = 2) | .error _ => false) = true := by decide +kernel
theorem awake_c2 : (match wholeC [24, 23] with | .ok _ => 0 | .error e => e) = 22 := by decide +kernel
theorem awake_c3 : (match wholeC [162, 2, 0, 1, 0] with | .ok _ => 0 | .error e => e) = 21 := by decide +kernel
theorem awake_c4 : (match wholeC [247] with | .ok _ => 0 | .error e => e) = 20 := by decide +kernel
end Go.Proofs.Ytagljkbfgldlgaa
/-
  What a call owns, and what becomes of the rest of the world.
-/
namespace Go.Proofs.Ytagljkbfgldlgaa
open Go.Shelf Go.RowKit Go.Lib
set_option linter.unusedVariables false
set_option linter.unusedSimpArgs false

theorem owns_keep {w w' : World} {base : Nat} {e : TypeId} {s : Nat} {v : Value} {n : Nat} {xs : List Value} (h : w.ownsRow base e s v n xs) (hb : ∀ g, v.ownBlock = some g → w'.heap[g]? = w.heap[g]?) : w'.ownsRow base e s v n xs := by
  refine ⟨h.1, ?_⟩
  rcases h.2 with h0 | ⟨g, cap, cur, rfl, hg, hrow, r⟩
  · exact .inl h0
  · exact .inr ⟨g, cap, cur, rfl, hg, by rw [hb g rfl]; exact hrow, r⟩
theorem owns_lt {w : World} {base : Nat} {e : TypeId} {s : Nat} {v : Value} {n : Nat} {xs : List Value} (h : w.ownsRow base e s v n xs) {g : Nat} (hg : v.ownBlock = some g) : base ≤ g ∧ g < w.heap.size ∧ ∃ cur, w.heap[g]? = some (.cells cur e (0, 0)) := by
  rcases h.2 with ⟨rfl, _⟩ | ⟨g', cap, cur, rfl, hb, hrow, r⟩
  · cases hg
  · cases hg; exact ⟨hb, (Array.getElem?_eq_some_iff.1 hrow).1, cur, hrow⟩
theorem owns_apart {w : World} {b b' : Nat} {e e' : TypeId} {s s' : Nat} {v v' : Value} {n n' : Nat} {xs xs' : List Value} (h : w.ownsRow b e s v n xs) (h' : w.ownsRow b' e' s' v' n' xs') (he : e ≠ e') {g : Nat} (hg : v.ownBlock = some g) : v'.ownBlock ≠ some g := fun hg' => by
  obtain ⟨_, _, c, hc⟩ := owns_lt h hg
  obtain ⟨_, _, c', hc'⟩ := owns_lt h' hg'
  rw [hc] at hc'
  cases hc'
  exact he rfl
theorem owns_cell {w : World} {base : Nat} {e : TypeId} {s : Nat} {n cap g : Nat} {xs : List Value} (h : w.ownsRow base e s (.slice (some ⟨g, 0, none⟩) n cap) n xs) (j : Nat) (hj : j < n * s) : w.cell? ⟨g, j, none⟩ = xs[j]? := by
  rcases h.2 with ⟨h0, _⟩ | ⟨g', cap', cur, h0, hb, hrow, h1, h2, h3, h4⟩
  · cases h0
  · cases h0
    rw [cell_of_row w g j cur e (0, 0) hrow, ← h4, List.getElem?_take, if_pos hj]
    simp
theorem owns_frozen {w : World} {base : Nat} {e : TypeId} {s : Nat} {n cap g : Nat} {xs : List Value} (h : w.ownsRow base e s (.slice (some ⟨g, 0, none⟩) n cap) n xs) (j : Nat) : w.frozen? ⟨g, j, none⟩ = false := by
  rcases h.2 with ⟨h0, _⟩ | ⟨g', cap', cur, h0, hb, hrow, h1, h2, h3, h4⟩
  · cases h0
  · cases h0; exact frozen_of_row w g j cur e hrow
theorem heap_set_at (w : World) (g j : Nat) (v : Value) (cs : Array Value) (t : TypeId) (fr : Nat × Nat) (h : w.heap[g]? = some (.cells cs t fr)) : (w.setCell ⟨g, j, none⟩ v).heap[g]? = some (.cells (cs.setIfInBounds j v) t fr) := by
  have hlt := (Array.getElem?_eq_some_iff.1 h).1
  have he : w.heap[g] = .cells cs t fr := (Array.getElem?_eq_some_iff.1 h).2
  simp [World.setCell, hlt]
  rw [Array.getElem_modify]
  simp [he]
theorem owns_set {w : World} {base : Nat} {e : TypeId} {s : Nat} {n cap g : Nat} {xs : List Value} (h : w.ownsRow base e s (.slice (some ⟨g, 0, none⟩) n cap) n xs) (j : Nat) (hj : j < n * s) (u : Value) : (w.setCell ⟨g, j, none⟩ u).ownsRow base e s (.slice (some ⟨g, 0, none⟩) n cap) n (xs.set j u) := by
  refine ⟨by rw [List.length_set]; exact h.1, ?_⟩
  rcases h.2 with ⟨h0, _⟩ | ⟨g', cap', cur, h0, hb, hrow, h1, h2, h3, h4⟩
  · cases h0
  · cases h0
    refine .inr ⟨g, cap, cur.setIfInBounds j u, rfl, hb, heap_set_at w g j u cur e (0, 0) hrow, h1, h2, by simp [h3], ?_⟩
    rw [Array.toList_setIfInBounds, List.take_set, h4]
/-- But for block g the world w' is as w was. -/
structure But (g : Nat) (w w' : World) : Prop where
  os : w'.os = w.os
  tape : w'.tape = w.tape
  output : w'.output = w.output
  size : w.heap.size ≤ w'.heap.size
  block : ∀ k, k < w.heap.size → k ≠ g → w'.heap[k]? = w.heap[k]?
theorem But.refl (g : Nat) (w : World) : But g w w := ⟨rfl, rfl, rfl, Nat.le_refl _, fun _ _ _ => rfl⟩
theorem But.trans {g : Nat} {a b c : World} (h : But g a b) (k : But g b c) : But g a c :=
  ⟨k.os.trans h.os, k.tape.trans h.tape, k.output.trans h.output, Nat.le_trans h.size k.size, fun i hi hg => (k.block i (Nat.lt_of_lt_of_le hi h.size) hg).trans (h.block i hi hg)⟩
theorem But.ofBelow {g : Nat} {w w' : World} (h : Below w.heap.size w w') : But g w w' := ⟨h.os, h.tape, h.output, h.size, fun k hk _ => h.block k hk⟩
theorem But.below {g B : Nat} {w w' : World} (h : But g w w') (hB : B ≤ g) (hw : B ≤ w.heap.size) : Below B w w' := ⟨h.os, h.tape, h.output, h.size, fun k hk => h.block k (by omega) (by omega)⟩
theorem But.setCell (g : Nat) (w : World) (j : Nat) (v : Value) : But g w (w.setCell ⟨g, j, none⟩ v) := ⟨rfl, rfl, rfl, by simp [World.setCell], fun k _ hk => Below.heap_setCell w ⟨g, j, none⟩ v k hk⟩
theorem But.cell {g : Nat} {w w' : World} (h : But g w w') {p : Addr} (hp : p.block < w.heap.size) (hg : p.block ≠ g) : w'.cell? p = w.cell? p := World.cell?_of_block (w := w) (h.block p.block hp hg)
theorem But.frozen {g : Nat} {w w' : World} (h : But g w w') {p : Addr} (hp : p.block < w.heap.size) (hg : p.block ≠ g) : w'.frozen? p = w.frozen? p := World.frozen?_of_block (w := w) (h.block p.block hp hg)
/-- Bytes that lie at p. -/
def BAt (w : World) (p : Option Addr) (n : Nat) (bs : Bs) : Prop := 0 < n → ∃ b o, p = some ⟨b, o, none⟩ ∧ ∀ i, i < n → w.cell? ⟨b, o + i, none⟩ = some (.int .u8 ((bs.getD i 0).toNat : Int))
/-- Bytes at p, kept where their block is. -/
theorem bytesAt_keep {w w' : World} {p : Option Addr} {n : Nat} {bs : Bs} (h : BAt w p n bs) {g : Nat} (hg : ∀ a, p = some a → a.block < g) (hb : ∀ k, k < g → w'.heap[k]? = w.heap[k]?) : BAt w' p n bs := fun h0 => by
  obtain ⟨b, o, rfl, hc⟩ := h h0
  exact ⟨b, o, rfl, fun i hi => by rw [← hc i hi]; exact World.cell?_of_block (w := w) (hb b (hg _ rfl))⟩
theorem bytesAt_in {w : World} {p : Option Addr} {n : Nat} {bs : Bs} (h : BAt w p n bs) (hn : bs.length = n) : Lib.BytesIn w p n (bs.map fun b => (b.toNat : Int)) := fun h0 => by
  obtain ⟨b, o, rfl, hc⟩ := h h0
  refine ⟨b, o, rfl, fun i hi => ?_⟩
  rw [hc i hi]
  simp [List.getD, hn, hi]
theorem bytesOf_map (bs : Bs) : Lib.bytesOf (bs.map fun b => (b.toNat : Int)) = bs := by
  simp [Lib.bytesOf, Function.comp_def]
theorem bytesAt_drop {w : World} {p : Option Addr} {n : Nat} {bs : Bs} (h : BAt w p n bs) (hn : bs.length = n) (c j : Nat) (hj : j ≤ n) (hc : n ≤ c) : BAt w (if c = j then p else p.map (fun x => x.add j)) (n - j) (bs.drop j) := fun h0 => by
  obtain ⟨b, o, rfl, hcl⟩ := h (by omega)
  rw [if_neg (by omega)]
  refine ⟨b, o + j, by simp [Addr.add], fun i hi => ?_⟩
  rw [show o + j + i = o + (j + i) by omega, hcl (j + i) (by omega)]
  simp [List.getD]
theorem alloc_sz (w : World) (o : Obj) : (w.alloc o).heap.size = w.heap.size + 1 := by
  show (w.heap.push o).size = _
  simp
theorem alloc2_cells {w w2 : World} {A B : Array Value} {t u : TypeId} (hb : Below ((w.alloc (.cells A t)).alloc (.cells B u)).heap.size ((w.alloc (.cells A t)).alloc (.cells B u)) w2) : (∀ j, w2.cell? ⟨w.heap.size, j, none⟩ = A[j]?) ∧ (∀ j, w2.cell? ⟨w.heap.size + 1, j, none⟩ = B[j]?) ∧ Below w.heap.size w w2 := by
  have hs : ((w.alloc (.cells A t)).alloc (.cells B u)).heap.size = w.heap.size + 2 := by rw [alloc_sz, alloc_sz]
  refine ⟨fun j => ?_, fun j => ?_, ?_⟩
  · refine cell_of_row w2 w.heap.size j A t (0, 0) ?_
    rw [hb.block _ (by omega), heap_alloc_old _ _ (by rw [alloc_sz]; omega)]
    exact heap_alloc_new w _
  · refine cell_of_row w2 (w.heap.size + 1) j B u (0, 0) ?_
    rw [hb.block _ (by omega)]
    exact heap_alloc2_new w _ _
  · exact (((Below.refl _ _).alloc (Nat.le_refl _) _).alloc (by rw [alloc_sz]; omega) _).trans (hb.mono (by omega))
theorem BAt.below {w w' : World} {p : Option Addr} {n : Nat} {l : Bs} (h : BAt w p n l) (hb : Below w.heap.size w w') : BAt w' p n l := fun h0 => by
  obtain ⟨b, o, e, hc⟩ := h h0
  have hlt := World.block_lt_of_cell? w ⟨b, o + 0, none⟩ (hc 0 h0)
  exact ⟨b, o, e, fun i hi => by rw [← hc i hi]; exact hb.cell (p := ⟨b, o + i, none⟩) hlt⟩
end Go.Proofs.Ytagljkbfgldlgaa
/-
  Items in memory.
-/
namespace Go.Proofs.Ytagljkbfgldlgaa
open Go.Shelf Go.RowKit Go.Lib
set_option linter.unusedVariables false
set_option linter.unusedSimpArgs false

/-- Bytes at a slice; P: the blocks where they may lie. -/
structure ByV (w : World) (P : Nat → Prop) (p : Option Addr) (c : Nat) (l : Bs) : Prop where
  cap : l.length ≤ c
  big : c ≤ 9223372036854775807
  lies : BAt w p l.length l
  ok : ∀ a, p = some a → 0 < l.length → P a.block
theorem ByV.lt {w : World} {P : Nat → Prop} {p : Option Addr} {c : Nat} {l : Bs} (h : ByV w P p c l) {a : Addr} (ha : p = some a) (h0 : 0 < l.length) : a.block < w.heap.size ∧ a.spot = none := by
  obtain ⟨b, o, e, hc⟩ := h.lies h0
  rw [ha] at e
  cases e
  exact ⟨World.block_lt_of_cell? w ⟨b, o + 0, none⟩ (hc 0 h0), rfl⟩
theorem ByV.keep {w w' : World} {P : Nat → Prop} {p : Option Addr} {c : Nat} {l : Bs} (h : ByV w P p c l) (hb : ∀ g, P g → g < w.heap.size → w'.heap[g]? = w.heap[g]?) : ByV w' P p c l := by
  refine ⟨h.cap, h.big, fun h0 => ?_, h.ok⟩
  obtain ⟨b, o, e, hc⟩ := h.lies h0
  have hl := h.lt e h0
  exact ⟨b, o, e, fun i hi => by rw [← hc i hi]; exact World.cell?_of_block (w := w) (hb b (h.ok _ e h0) hl.1)⟩
theorem ByV.mono {w : World} {P Q : Nat → Prop} {p : Option Addr} {c : Nat} {l : Bs} (h : ByV w P p c l) (hPQ : ∀ g, P g → g < w.heap.size → Q g) : ByV w Q p c l :=
  ⟨h.cap, h.big, h.lies, fun a ha h0 => hPQ _ (h.ok a ha h0) (h.lt ha h0).1⟩
theorem ByV.nil (w : World) (P : Nat → Prop) : ByV w P none 0 [] := ⟨Nat.le_refl _, by omega, fun h => absurd h (by simp), fun a ha => by cases ha⟩
theorem ByV.drop {w : World} {P : Nat → Prop} {p : Option Addr} {c : Nat} {l : Bs} (h : ByV w P p c l) (j : Nat) (hj : j ≤ l.length) : ByV w P (if c = j then p else p.map (fun x => x.add j)) (c - j) (l.drop j) := by
  have hc := h.cap
  have hb := h.big
  refine ⟨by rw [List.length_drop]; omega, by omega, ?_, ?_⟩
  · rw [List.length_drop]; exact bytesAt_drop h.lies rfl c j hj hc
  · intro a ha h0
    rw [List.length_drop] at h0
    rw [if_neg (by omega)] at ha
    cases p with
    | none => cases ha
    | some q =>
      have h1 := h.ok q rfl (by omega)
      simp at ha
      subst ha
      unfold Addr.add
      split <;> exact h1
theorem ByV.take {w : World} {P : Nat → Prop} {p : Option Addr} {c : Nat} {l : Bs} (h : ByV w P p c l) (j : Nat) (hj : j ≤ l.length) : ByV w P p c (l.take j) := by
  have hc := h.cap
  have hb := h.big
  have hl : (l.take j).length = j := by rw [List.length_take]; omega
  refine ⟨by omega, hb, fun h0 => ?_, fun a ha h0 => h.ok a ha (by omega)⟩
  rw [hl] at h0 ⊢
  obtain ⟨b, o, e, hcl⟩ := h.lies (by omega)
  refine ⟨b, o, e, fun i hi => ?_⟩
  rw [hcl i (by omega)]
  simp [List.getD, List.getElem?_take, hi]
/-- What an item is by itself; q: where its kids lie. -/
def ItHd (w : World) (P : Nat → Prop) (cs : List Value) (i : It) (q : Option Addr) : Prop :=
  ∃ p c c', cs = [.int .u8 (i.kind : Int), .int .u64 (i.n : Int), .slice p i.b.length c, .slice q i.kids.length c'] ∧ i.kind < 256 ∧ i.n < 18446744073709551616 ∧ ByV w P p c i.b ∧ i.kids.length ≤ c' ∧ c' ≤ 9223372036854775807
/-- Kids in memory. -/
def KidsAt (R : List Value → It → Prop) (w : World) (P : Nat → Prop) (q : Option Addr) (kids : List It) : Prop :=
  ∀ (j : Nat) (k : It), kids[j]? = some k → ∃ b o, q = some ⟨b, o, none⟩ ∧ P b ∧ ∃ c0 c1 c2 c3, w.cell? ⟨b, o + j * 4, none⟩ = some c0 ∧ w.cell? ⟨b, o + j * 4 + 1, none⟩ = some c1 ∧ w.cell? ⟨b, o + j * 4 + 2, none⟩ = some c2 ∧ w.cell? ⟨b, o + j * 4 + 3, none⟩ = some c3 ∧ R [c0, c1, c2, c3] k
/-- An item's cells, and what it reaches in memory, so deep. -/
def ItOk (w : World) (P : Nat → Prop) : Nat → List Value → It → Prop
  | 0, cs, i => ∃ q, ItHd w P cs i q
  | d + 1, cs, i => ∃ q, ItHd w P cs i q ∧ KidsAt (ItOk w P d) w P q i.kids
theorem ItOk.head {w : World} {P : Nat → Prop} {d : Nat} {cs : List Value} {i : It} (h : ItOk w P d cs i) : ∃ q, ItHd w P cs i q := by
  cases d with
  | zero => exact h
  | succ d => obtain ⟨q, h1, _⟩ := h; exact ⟨q, h1⟩
theorem ItHd.keep {w w' : World} {P : Nat → Prop} {cs : List Value} {i : It} {q : Option Addr} (h : ItHd w P cs i q) (hb : ∀ g, P g → g < w.heap.size → w'.heap[g]? = w.heap[g]?) : ItHd w' P cs i q := by
  obtain ⟨p, c, c', h1, h2, h3, h4, h5, h6⟩ := h
  exact ⟨p, c, c', h1, h2, h3, h4.keep hb, h5, h6⟩
theorem ItHd.mono {w : World} {P Q : Nat → Prop} {cs : List Value} {i : It} {q : Option Addr} (h : ItHd w P cs i q) (hPQ : ∀ g, P g → g < w.heap.size → Q g) : ItHd w Q cs i q := by
  obtain ⟨p, c, c', h1, h2, h3, h4, h5, h6⟩ := h
  exact ⟨p, c, c', h1, h2, h3, h4.mono hPQ, h5, h6⟩
theorem ItOk.keep {w w' : World} {P : Nat → Prop} (hb : ∀ g, P g → g < w.heap.size → w'.heap[g]? = w.heap[g]?) : ∀ {d : Nat} {cs : List Value} {i : It}, ItOk w P d cs i → ItOk w' P d cs i
  | 0, cs, i, ⟨q, h⟩ => ⟨q, h.keep hb⟩
  | d + 1, cs, i, ⟨q, h, hk⟩ => ⟨q, h.keep hb, fun j k hj => by
    obtain ⟨b, o, e, hp, c0, c1, c2, c3, k0, k1, k2, k3, hr⟩ := hk j k hj
    have hlt := World.block_lt_of_cell? w ⟨b, o + j * 4, none⟩ k0
    have hc : ∀ x v, w.cell? ⟨b, x, none⟩ = some v → w'.cell? ⟨b, x, none⟩ = some v := fun x v hv => by rw [← hv]; exact World.cell?_of_block (w := w) (hb b hp hlt)
    exact ⟨b, o, e, hp, c0, c1, c2, c3, hc _ _ k0, hc _ _ k1, hc _ _ k2, hc _ _ k3, ItOk.keep hb hr⟩⟩
theorem ItOk.mono {w : World} {P Q : Nat → Prop} (hPQ : ∀ g, P g → g < w.heap.size → Q g) : ∀ {d : Nat} {cs : List Value} {i : It}, ItOk w P d cs i → ItOk w Q d cs i
  | 0, cs, i, ⟨q, h⟩ => ⟨q, h.mono hPQ⟩
  | d + 1, cs, i, ⟨q, h, hk⟩ => ⟨q, h.mono hPQ, fun j k hj => by
    obtain ⟨b, o, e, hp, c0, c1, c2, c3, k0, k1, k2, k3, hr⟩ := hk j k hj
    exact ⟨b, o, e, hPQ b hp (World.block_lt_of_cell? w ⟨b, o + j * 4, none⟩ k0), c0, c1, c2, c3, k0, k1, k2, k3, ItOk.mono hPQ hr⟩⟩
theorem ItOk.below {w w' : World} {P : Nat → Prop} {d : Nat} {cs : List Value} {i : It} (h : ItOk w P d cs i) (hb : Below w.heap.size w w') : ItOk w' P d cs i := h.keep (fun g _ hg => hb.block g hg)
/-- An item without kids. -/
theorem ItOk.leaf {w : World} {P : Nat → Prop} (d : Nat) {p : Option Addr} {c : Nat} {i : It} (hk : i.kind < 256) (hn : i.n < 18446744073709551616) (hb : ByV w P p c i.b) (h0 : i.kids = []) : ItOk w P d [.int .u8 (i.kind : Int), .int .u64 (i.n : Int), .slice p i.b.length c, .slice none 0 0] i := by
  have hh : ItHd w P [.int .u8 (i.kind : Int), .int .u64 (i.n : Int), .slice p i.b.length c, .slice none 0 0] i none := ⟨p, c, 0, by rw [h0]; rfl, hk, hn, hb, by rw [h0]; simp, by omega⟩
  cases d with
  | zero => exact ⟨none, hh⟩
  | succ d => exact ⟨none, hh, fun j k hj => by rw [h0] at hj; simp at hj⟩
theorem ItOk.four {w : World} {P : Nat → Prop} {d : Nat} {cs : List Value} {i : It} (h : ItOk w P d cs i) : ∃ c0 c1 c2 c3, cs = [c0, c1, c2, c3] := by
  obtain ⟨q, p, c, c', e, _⟩ := h.head
  exact ⟨_, _, _, _, e⟩
theorem flatten_get : ∀ (css : List (List Value)) (i j : Nat) (cs : List Value), (∀ c ∈ css, c.length = 4) → css[i]? = some cs → j < 4 → css.flatten[i * 4 + j]? = cs[j]?
  | [], i, j, cs, _, hi, _ => by simp at hi
  | x :: css, 0, j, cs, h4, hi, hj => by
    simp at hi; subst hi
    rw [Nat.zero_mul, Nat.zero_add, List.flatten_cons, List.getElem?_append_left (by rw [h4 x (by simp)]; exact hj)]
  | x :: css, i + 1, j, cs, h4, hi, hj => by
    simp at hi
    have hx := h4 x (by simp)
    rw [List.flatten_cons, List.getElem?_append_right (by omega), hx, show (i + 1) * 4 + j - 4 = i * 4 + j by omega]
    exact flatten_get css i j cs (fun c hc => h4 c (by simp [hc])) hi hj
/-- So deep an item is at most. -/
def deepC : Nat → It → Prop
  | 0, i => i.kids = []
  | d + 1, i => ∀ k ∈ i.kids, deepC d k
end Go.Proofs.Ytagljkbfgldlgaa
/-
  Bytes of the call's own and bytes that came in: append, bytes.Clone, as a string.
-/
namespace Go.Proofs.Ytagljkbfgldlgaa
open Go.Shelf Go.RowKit
set_option linter.unusedVariables false
set_option linter.unusedSimpArgs false


theorem infoU8 : (Try.prog.info? 5).map (fun i => (i.zero, i.size, i.bytes)) = some (some (.int .u8 0), 1, 1) := by kernel_rfl
theorem byteCells_len (l : Bs) : (Lib.byteCells l).length = l.length := by simp [Lib.byteCells]
theorem byteCells_app (a b : Bs) : Lib.byteCells a ++ Lib.byteCells b = Lib.byteCells (a ++ b) := by simp [Lib.byteCells]
theorem own_byv {w : World} {base : Nat} {v : Value} {l : Bs} (h : w.ownsRow base 5 1 v l.length (Lib.byteCells l)) : ∃ p c, v = .slice p l.length c ∧ ByV w (fun b => base ≤ b) p c l := by
  rcases h.2 with ⟨e, h0⟩ | ⟨g, cap, cur, e, hb, hr, h1, h2, _⟩
  · have : l = [] := List.eq_nil_of_length_eq_zero h0
    subst this
    exact ⟨none, 0, e, ByV.nil w _⟩
  · refine ⟨some ⟨g, 0, none⟩, cap, e, ⟨h1, by unfold maxLen at h2; omega, fun _ => ⟨g, 0, rfl, fun i hi => ?_⟩, fun a ha _ => by cases ha; exact hb⟩⟩
    rw [e] at h
    rw [Nat.zero_add, owns_cell h i (by omega)]
    unfold Lib.byteCells
    rw [List.getElem?_map, List.getElem?_eq_getElem hi]
    simp [List.getD, hi]
/-- Bytes appended to bytes of the call's own. -/
theorem wpList_append_bat {w : World} {ops : Array Oper} {rest : List Oper} {o : Oper} {a : Act} {Q : Exit → Act → World → Prop} (hgd : o.guard = none) (s x : Operand)
    (ho : o.op = .call { callee := .builtin .append, args := #[s, x], argTypes := #[25, 25] }) (base : Nat) (v : Value) (hs : a.eval s = v) (old : Bs) (m : Nat) (hm : old.length = m) (hown : w.ownsRow base 5 1 v m (Lib.byteCells old)) (ad : Addr) (n c : Nat) (l : Bs) (hn : l.length = n) (hx : a.eval x = .slice (some ad) n c) (hr : BAt w (some ad) n l) (hlen : m + n ≤ 100000000) (hbase : base ≤ w.heap.size)
    (h : ∀ v' w', w'.ownsRow base 5 1 v' (m + n) (Lib.byteCells (old ++ l)) → w.grownBy w' v.ownBlock → wpList Try.prog ops Q rest (a.put o.dst v') w') : wpList Try.prog ops Q (o :: rest) a w := by
  obtain ⟨i0, hi0, hz0, hz1, hz2⟩ := info_parts infoU8
  refine wpList_append_own (w := w) hgd s x _ ho base 5 i0 (.int .u8 0) 1 1 Try.underlying25 hi0 hz0 hz1 hz2 rfl (by decide) v m (Lib.byteCells old) hs hown ad n c (Lib.byteCells l) hx (by rw [byteCells_len, hn, Nat.mul_one]) ?_ (by intro u hu; simp only [Lib.byteCells, List.mem_map] at hu; obtain ⟨x, _, rfl⟩ := hu; rfl) (by unfold maxLen; omega) (by omega) hbase ?_
  · intro j u hj
    obtain ⟨hj1, hj2⟩ := List.getElem?_eq_some_iff.1 hj
    have hj3 : j < l.length := by simpa [Lib.byteCells] using hj1
    obtain ⟨b, f, e, hc⟩ := hr (by omega)
    cases e
    rw [Addr.add_mid, hc j (by omega), ← hj2]
    simp [Lib.byteCells, List.getD, hj3]
  · intro v' w' hown' hgr _
    rw [byteCells_app] at hown'
    exact h v' w' hown' hgr
theorem run_append_nilc {w : World} (base : Nat) (ty : TypeId) (v : Value) (n c : Nat) (xs : List Value) (hown : w.ownsRow base 5 1 v n xs) : (Builtin.append_ #[25, 25] ty #[v, .slice none 0 c]).run Try.prog w = .ok v w := by
  obtain ⟨i0, hi0, hz0, hz1, hz2⟩ := info_parts infoU8
  rcases hown.2 with ⟨rfl, rfl⟩ | ⟨g, cap, cur, rfl, _, _, hnc, _⟩
  · simp [Builtin.append_, run_underlying Try.underlying25, sizeOf, typeInfo, hi0, Builtin.lenOf, Builtin.firstCells]
  · simp [Builtin.append_, run_underlying Try.underlying25, sizeOf, typeInfo, hi0, Builtin.lenOf, Builtin.firstCells, hnc, storeCells]
theorem owns_slice {w : World} {base : Nat} {e : TypeId} {s : Nat} {v : Value} {n : Nat} {xs : List Value} (h : w.ownsRow base e s v n xs) : ∃ p c, v = .slice p n c := by
  rcases h.2 with ⟨rfl, rfl⟩ | ⟨g, cap, cur, rfl, _⟩
  · exact ⟨_, _, rfl⟩
  · exact ⟨_, _, rfl⟩
/-- Bytes appended to bytes of the call's own; where they lie then. -/
theorem wp_append_wt {w : World} {o : Oper} {a : Act} {K : Act → World → Prop} {Q : Exit → Act → World → Prop} (s x : Operand)
    (ho : o.op = .call { callee := .builtin .append, args := #[s, x], argTypes := #[25, 25] }) (base : Nat) (v : Value) (hs : a.eval s = v) (old : Bs) (m : Nat) (hm : old.length = m) (hown : w.ownsRow base 5 1 v m (Lib.byteCells old)) (p : Option Addr) (n c : Nat) (l : Bs) (hn : l.length = n) (hx : a.eval x = .slice p n c) (hr : BAt w p n l) (hlen : m + n ≤ 100000000) (hbase : base ≤ w.heap.size)
    (h : ∀ v' w', w'.ownsRow base 5 1 v' (m + n) (Lib.byteCells (old ++ l)) → w.grownBy w' v.ownBlock → (v'.ownBlock = v.ownBlock ∨ v'.ownBlock = some w.heap.size) → K (a.put o.dst v') w') : o.wp Try.prog a w K Q := by
  obtain ⟨i0, hi0, hz0, hz1, hz2⟩ := info_parts infoU8
  cases p with
  | none =>
    have h0 : n = 0 := by
      rcases Nat.eq_zero_or_pos n with h1 | h1
      · exact h1
      · obtain ⟨b, o, e, _⟩ := hr h1
        cases e
    subst h0
    have : l = [] := List.eq_nil_of_length_eq_zero hn
    subst this
    have hrun := run_append_nilc (w := w) base o.type v m c _ hown
    unfold Oper.wp
    simp [execOp, ho, resolve, invoke, builtin, hs, hx, hrun, Result.andThen]
    exact h v w (by simpa using hown) ⟨rfl, rfl, rfl, Nat.le_refl _, fun _ _ _ => rfl⟩ (.inl rfl)
  | some ad =>
    obtain ⟨v', w', hrun, h2, h3, _, h5⟩ := run_append_own_at (P := Try.prog) w base 25 o.type 5 i0 (.int .u8 0) 1 1 Try.underlying25 hi0 hz0 hz1 hz2 rfl (by decide) v m (Lib.byteCells old) hown ad n c (Lib.byteCells l) (by rw [byteCells_len, hn, Nat.mul_one]) (by
      intro j u hj
      obtain ⟨hj1, hj2⟩ := List.getElem?_eq_some_iff.1 hj
      have hj3 : j < l.length := by simpa [Lib.byteCells] using hj1
      obtain ⟨b, f, e, hc⟩ := hr (by omega)
      cases e
      rw [Addr.add_mid, hc j (by omega), ← hj2]
      simp [Lib.byteCells, List.getD, hj3]) (by intro u hu; simp only [Lib.byteCells, List.mem_map] at hu; obtain ⟨x, _, rfl⟩ := hu; rfl) (by unfold maxLen; omega) (by omega) hbase
    rw [byteCells_app] at h2
    unfold Oper.wp
    simp only [execOp, ho, resolve, invoke, builtin, Sem.run_bind, Sem.run_pure, Result.andThen_ok, List.map_toArray, List.map_cons, List.map_nil, hs, hx, hrun]
    exact h v' w' h2 h3 h5
theorem wpList_append_wt {w : World} {ops : Array Oper} {rest : List Oper} {o : Oper} {a : Act} {Q : Exit → Act → World → Prop} (hgd : o.guard = none) (s x : Operand)
    (ho : o.op = .call { callee := .builtin .append, args := #[s, x], argTypes := #[25, 25] }) (base : Nat) (v : Value) (hs : a.eval s = v) (old : Bs) (m : Nat) (hm : old.length = m) (hown : w.ownsRow base 5 1 v m (Lib.byteCells old)) (p : Option Addr) (n c : Nat) (l : Bs) (hn : l.length = n) (hx : a.eval x = .slice p n c) (hr : BAt w p n l) (hlen : m + n ≤ 100000000) (hbase : base ≤ w.heap.size)
    (h : ∀ v' w', w'.ownsRow base 5 1 v' (m + n) (Lib.byteCells (old ++ l)) → w.grownBy w' v.ownBlock → (v'.ownBlock = v.ownBlock ∨ v'.ownBlock = some w.heap.size) → wpList Try.prog ops Q rest (a.put o.dst v') w') : wpList Try.prog ops Q (o :: rest) a w :=
  wpList_plain hgd fun _ hK => wp_append_wt s x ho base v hs old m hm hown p n c l hn hx hr hlen hbase fun v' w' h1 h2 h3 => hK _ _ (h v' w' h1 h2 h3)
/-- The same in a region that draws. -/
theorem step_append_wt {w : World} {ops : Array Oper} {o : Oper} {a : Act} {K : Act → World → Prop} {Q : Exit → Act → World → Prop} {E : Prop} (hw : Region.wanted o (yielded ops a.tmps) = true) (s x : Operand)
    (ho : o.op = .call { callee := .builtin .append, args := #[s, x], argTypes := #[25, 25] }) (base : Nat) (v : Value) (hs : a.eval s = v) (old : Bs) (m : Nat) (hm : old.length = m) (hown : w.ownsRow base 5 1 v m (Lib.byteCells old)) (p : Option Addr) (n c : Nat) (l : Bs) (hn : l.length = n) (hx : a.eval x = .slice p n c) (hr : BAt w p n l) (hlen : m + n ≤ 100000000) (hbase : base ≤ w.heap.size)
    (h : ∀ v' w', w'.ownsRow base 5 1 v' (m + n) (Lib.byteCells (old ++ l)) → w.grownBy w' v.ownBlock → (v'.ownBlock = v.ownBlock ∨ v'.ownBlock = some w.heap.size) → K (a.put o.dst v') w') : if Region.wanted o (yielded ops a.tmps) = true then Oper.wp Try.prog o a w K Q else E := by
  rw [if_pos hw]
  exact wp_append_wt s x ho base v hs old m hm hown p n c l hn hx hr hlen hbase h
/-- Bytes as a string. -/
theorem conv_bat {w : World} {p : Option Addr} {n c : Nat} {l : Bs} (h : BAt w p n l) (hl : l.length = n) : (convert 25 9 (.slice p n c)).run Try.prog w = .ok (.string ⟨l.toArray⟩) w := by
  have h2 := Lib.BytesIn.convert (P := Try.prog) (bytesAt_in h hl) (by simp [hl]) c 25 5 9 Try.underlying25 Try.underlying5 Try.underlying9
  rw [h2, show strOfNums (l.map fun b => (b.toNat : Int)) = ⟨l.toArray⟩ from by
    apply ByteArray.ext
    apply Array.toList_inj.1
    rw [← Lib.toList_data, Lib.strOfNums_toList, bytesOf_map]]

theorem own_conv {w : World} {base n : Nat} {p : Option Addr} {c : Nat} {l : Bs} (h : w.ownsRow base 5 1 (.slice p n c) n (Lib.byteCells l)) (hl : l.length = n) : (convert 25 9 (.slice p n c)).run Try.prog w = .ok (.string ⟨l.toArray⟩) w := by
  subst hl
  obtain ⟨p', c', e, hv⟩ := own_byv h
  cases e
  exact conv_bat hv.lies rfl
/-- A slice of numbers that came in. -/
def CameJ (k : IntKind) (w : World) (a : Option Addr) (len cap : Nat) (zs : List Int) : Prop :=
  (a = none ∧ len = 0 ∧ cap = 0 ∧ zs = []) ∨
  ∃ x, a = some x ∧ len ≤ cap ∧ cap ≤ maxLen ∧ zs.length = cap ∧ (∀ i, i < zs.length → w.cell? (x.add i) = some (.int k (zs.getD i 0))) ∧ ∀ n ∈ zs, (Lit.int k n).wf = true
theorem byte_wf {x : Int} (h : (Lit.int .u8 x).wf = true) : 0 ≤ x ∧ x < 256 := by
  simp [Lit.wf, IntKind.min, IntKind.max, IntKind.signed, IntKind.bits] at h
  exact ⟨by omega, by omega⟩
theorem CameJ.le {k : IntKind} {w : World} {a : Option Addr} {len cap : Nat} {zs : List Int} (h : CameJ k w a len cap zs) : len ≤ maxLen := by
  rcases h with ⟨_, h1, _⟩ | ⟨x, _, h1, h2, _⟩
  · rw [h1]; exact Nat.zero_le _
  · exact Nat.le_trans h1 h2
/-- The bytes that came in. -/
theorem CameJ.byv {w : World} {a : Option Addr} {len cap : Nat} {zs : List Int} (h : CameJ .u8 w a len cap zs) : ∃ bs : Bs, bs.length = len ∧ ByV w (fun b => b < w.heap.size) a cap bs := by
  rcases h with ⟨rfl, rfl, rfl, rfl⟩ | ⟨x, rfl, h1, h2, h3, h4, h5⟩
  · exact ⟨[], rfl, ByV.nil w _⟩
  · obtain ⟨b, off, spot⟩ := x
    have hl : ((zs.take len).map fun z => UInt8.ofNat z.toNat).length = len := by simp; omega
    refine ⟨(zs.take len).map fun z => UInt8.ofNat z.toNat, hl, by rw [hl]; exact h1, by unfold maxLen at h2; omega, fun h0 => ?_, fun y hy h0 => ?_⟩
    · rw [hl] at h0
      have hsp : spot = none := by
        have := h4 0 (by omega)
        simpa [Addr.add] using World.cell?_spot this
      subst hsp
      refine ⟨b, off, rfl, fun i hi => ?_⟩
      rw [hl] at hi
      have hc := h4 i (by omega)
      rw [Addr.add_mid] at hc
      rw [hc]
      have hiz : i < zs.length := by omega
      have hw := byte_wf (h5 zs[i] (List.getElem_mem hiz))
      have e1 : zs.getD i 0 = zs[i] := by simp [List.getD, hiz]
      have e2 : ((zs.take len).map fun z => UInt8.ofNat z.toNat).getD i 0 = UInt8.ofNat (zs[i]).toNat := by
        simp [List.getD, List.getElem?_take, hi, List.getElem?_eq_getElem hiz]
      rw [e1, e2]
      congr 2
      simp [UInt8.toNat_ofNat']
      omega
    · cases hy
      rw [hl] at h0
      have hc := h4 0 (by omega)
      have hsp : spot = none := by simpa [Addr.add] using World.cell?_spot hc
      subst hsp
      rw [Addr.add_mid] at hc
      exact World.block_lt_of_cell? w _ hc

theorem alloc_le (w : World) (o : Obj) : w.heap.size ≤ (w.alloc o).heap.size := by rw [alloc_sz]; omega
/-- Bytes as cells. -/
def u8sC (l : Bs) : Array Value := (l.map fun b => Value.int .u8 (b.toNat : Int)).toArray
theorem byv_lit (W : World) (l : Bs) (hl : l.length ≤ 1000) : ByV (W.alloc (.cells (u8sC l) 5)) (fun b => b < (W.alloc (.cells (u8sC l) 5)).heap.size) (some ⟨W.heap.size, 0, none⟩) l.length l := by
  refine ⟨Nat.le_refl _, by omega, fun _ => ⟨W.heap.size, 0, rfl, fun i hi => ?_⟩, fun a ha _ => by cases ha; rw [alloc_sz]; show W.heap.size < W.heap.size + 1; omega⟩
  rw [Nat.zero_add, cell_of_row _ W.heap.size i _ _ _ (heap_alloc_new W _)]
  simp [u8sC, List.getD, hi]
theorem below_drews {B : Nat} {a w : World} (h : Below B a w) : ∀ q, Below B a (w.drewN q)
  | 0 => h
  | q + 1 => (below_drews h q).drew

/-- Bytes as a number, the greatest first. -/
def bv (l : Bs) : Nat := l.foldl (fun a c => a * 256 + c.toNat) 0
theorem bv_snoc (l : Bs) (c : UInt8) : bv (l ++ [c]) = bv l * 256 + c.toNat := by simp [bv]
theorem fold_lt : ∀ (l : Bs) (a : Nat), l.foldl (fun a c => a * 256 + c.toNat) a < (a + 1) * 256 ^ l.length
  | [], a => by simp
  | c :: l, a => by
    have h := fold_lt l (a * 256 + c.toNat)
    have hc := c.toNat_lt
    rw [List.foldl_cons, List.length_cons, Nat.pow_succ]
    refine Nat.lt_of_lt_of_le h ?_
    rw [Nat.mul_comm (256 ^ l.length) 256, ← Nat.mul_assoc]
    exact Nat.mul_le_mul_right _ (by omega)
theorem bv_lt (l : Bs) : bv l < 256 ^ l.length := by
  have := fold_lt l 0
  simpa [bv] using this
theorem take_snoc {l : Bs} {k : Nat} {c : UInt8} (h : l[k]? = some c) : l.take (k + 1) = l.take k ++ [c] := by
  rw [List.take_add_one, h]
  rfl

end Go.Proofs.Ytagljkbfgldlgaa
/-
  Bytes appended in a region that draws; a byte turned.
-/
namespace Go.Proofs.Ytagljkbfgldlgaa
open Go.Shelf Go.RowKit
set_option linter.unusedVariables false
set_option linter.unusedSimpArgs false

set_option maxRecDepth 100000 in
/-- append(out, src...) of bytes as numbers, in a region that draws. -/
theorem step_append_n8 {w : World} {ops : Array Oper} {o : Oper} {a : Act} {K : Act → World → Prop} {Q : Exit → Act → World → Prop} {E : Prop} (hw : Region.wanted o (yielded ops a.tmps) = true) (s x : Operand)
    (ho : o.op = .call { callee := .builtin .append, args := #[s, x], argTypes := #[25, 25] }) (base : Nat) (v : Value) (hs : a.eval s = v) (xs : List Int) (hown : Own 5 .u8 w base v xs) (ao : Option Addr) (m c : Nat) (ys : List Int) (hx : a.eval x = .slice ao m c) (hy : Lies .u8 w ao m ys) (hlen : xs.length + m ≤ 100000000) (hbase : base ≤ w.heap.size)
    (h : ∀ v' w', Own 5 .u8 w' base v' (xs ++ ys) → w.grownBy w' v.ownBlock → K (a.put o.dst v') w') : if Region.wanted o (yielded ops a.tmps) = true then Oper.wp Try.prog o a w K Q else E := by
  rw [if_pos hw]
  obtain ⟨i0, hi0, hz0, hz1, hz2⟩ := info_parts infoU8
  have hl := hy.len
  cases ao with
  | none =>
    have h0 : m = 0 := by
      rcases hy.2 with h | ⟨b, off, e, _⟩
      · exact h
      · cases e
    subst h0
    have : ys = [] := List.eq_nil_of_length_eq_zero hl
    subst this
    have hrun := run_append_nilc (w := w) base o.type v xs.length c _ hown
    unfold Oper.wp
    simp [execOp, ho, resolve, invoke, builtin, hs, hx, hrun, Result.andThen]
    exact h v w (by rw [List.append_nil]; exact hown) ⟨rfl, rfl, rfl, Nat.le_refl _, fun _ _ _ => rfl⟩
  | some ad =>
    obtain ⟨v', w', hrun, h2, h3, _, h5⟩ := run_append_own_at (P := Try.prog) w base 25 o.type 5 i0 (.int .u8 0) 1 1 Try.underlying25 hi0 hz0 hz1 hz2 rfl (by decide) v xs.length (xs.map (Value.int .u8)) hown ad m c (ys.map (Value.int .u8)) (by simp [hl]) (by
      intro j u hj
      simp only [List.getElem?_map] at hj
      by_cases hjm : j < ys.length
      · obtain ⟨b, off, e', hlt, hc⟩ := hy.at (by omega)
        injection e' with e'
        subst e'
        have := hc j (by omega)
        rw [List.getElem?_eq_getElem hjm] at hj
        simp only [Option.map_some, Option.some.injEq] at hj
        rw [add_none, this, ← hj]
        simp [List.getD, List.getElem?_eq_getElem hjm]
      · rw [List.getElem?_eq_none (by omega)] at hj
        simp at hj) (by intro u hu; obtain ⟨x, _, rfl⟩ := List.mem_map.1 hu; rfl) (by unfold maxLen; omega) (by omega) hbase
    unfold Oper.wp
    simp only [execOp, ho, resolve, invoke, builtin, Sem.run_bind, Sem.run_pure, Result.andThen_ok, List.map_toArray, List.map_cons, List.map_nil, hs, hx, hrun]
    refine h v' w' ?_ h3
    unfold Own
    rw [List.length_append, List.map_append, hl]
    exact h2
set_option maxRecDepth 100000 in
theorem xor8b : ∀ x : Nat, x < 256 → ∀ b : Nat, b < 8 → 0 ≤ bits .xor .u8 (x : Int) (2 ^ b) ∧ bits .xor .u8 (x : Int) (2 ^ b) < 256 := by decide +kernel
theorem xor8z {x : Int} (h : 0 ≤ x ∧ x < 256) {b : Nat} (hb : b < 8) : 0 ≤ bits .xor .u8 x (2 ^ b) ∧ bits .xor .u8 x (2 ^ b) < 256 := by
  obtain ⟨n, rfl⟩ := Int.eq_ofNat_of_zero_le h.1
  exact xor8b n (by omega) b hb
theorem OwnAt.num {w : World} {g cap : Nat} {xs : List Int} (h : OwnAt 5 .u8 w g cap xs) {n : Nat} (hn : xs.length = n) (hd : Dg 256 xs) (hs : n ≤ 1000) : NumIn .u8 256 w (some ⟨g, 0, none⟩) n cap xs :=
  ⟨h.lies hn, by have := h.lc; omega, h.cm, fun h => (by cases h), hd, by omega⟩
end Go.Proofs.Ytagljkbfgldlgaa
