/-
  The code's Mul.
-/
import Derived.Test.YtdojbknkaoiioaaHE
import Derived.Test.YtdojbknkaoiioaaBitI
namespace Go.Proofs.Ytdojbknkaoiioaa
open Go.RowKit Go.Shelf
set_option linter.unusedVariables false
set_option linter.unusedSimpArgs false
attribute [local go_sem] Oper.semAt_some

/-- What Mul keeps in memory from its beginning on. -/
structure FrC (W : World) (b : Nat) (cv pv : Array Value) : Prop where
  c : W.heap[b]? = some (.cells cv 29 (0, 0))
  p : W.heap[b + 1]? = some (.cells pv 43 (0, 0))
  r : PSl W (b + 1 + 1) (.slice none 0 0) (.slice none 0 0) (.bool false)
  o : W.heap[b + 1 + 1 + 1]? = some (.cells #[.bool false] 4 (0, 0))
theorem frC_new (w : World) (cv pv : Array Value) : FrC ((((w.alloc (.cells cv 29)).alloc (.cells pv 43)).alloc (.cells #[.slice none 0 0, .slice none 0 0, .bool false] 43)).alloc (.cells #[.bool false] 4)) w.heap.size cv pv ∧ Below w.heap.size w ((((w.alloc (.cells cv 29)).alloc (.cells pv 43)).alloc (.cells #[.slice none 0 0, .slice none 0 0, .bool false] 43)).alloc (.cells #[.bool false] 4)) := by
  obtain ⟨w1, e1⟩ : ∃ x, w.alloc (.cells cv 29) = x := ⟨_, rfl⟩
  obtain ⟨w2, e2⟩ : ∃ x, w1.alloc (.cells pv 43) = x := ⟨_, rfl⟩
  obtain ⟨w3, e3⟩ : ∃ x, w2.alloc (.cells #[.slice none 0 0, .slice none 0 0, .bool false] 43) = x := ⟨_, rfl⟩
  have z1 : w1.heap.size = w.heap.size + 1 := by rw [← e1]; exact alloc_sz7 _ _
  have z2 : w2.heap.size = w.heap.size + 1 + 1 := by rw [← e2, alloc_sz7, z1]
  have z3 : w3.heap.size = w.heap.size + 1 + 1 + 1 := by rw [← e3, alloc_sz7, z2]
  have n1 : w1.heap[w.heap.size]? = some (.cells cv 29 (0, 0)) := by rw [← e1]; exact heap_alloc_new w _
  have n2 : w2.heap[w.heap.size + 1]? = some (.cells pv 43 (0, 0)) := by rw [← e2, ← z1]; exact heap_alloc_new w1 _
  have n3 : w3.heap[w.heap.size + 1 + 1]? = some (.cells #[.slice none 0 0, .slice none 0 0, .bool false] 43 (0, 0)) := by rw [← e3, ← z2]; exact heap_alloc_new w2 _
  have n4 := heap_alloc_new w3 (.cells #[.bool false] 4)
  rw [z3] at n4
  have m1 : w2.heap[w.heap.size]? = some (.cells cv 29 (0, 0)) := by rw [← e2]; exact heap_new n1 (by omega)
  have k1 : w3.heap[w.heap.size]? = some (.cells cv 29 (0, 0)) := by rw [← e3]; exact heap_new m1 (by omega)
  have k2 : w3.heap[w.heap.size + 1]? = some (.cells pv 43 (0, 0)) := by rw [← e3]; exact heap_new n2 (by omega)
  have bb : Below w.heap.size w (w3.alloc (.cells #[.bool false] 4)) := by
    rw [← e3, ← e2, ← e1]
    exact ((((Below.refl w.heap.size w).alloc (Nat.le_refl _) _).alloc (by rw [alloc_sz7]; omega) _).alloc (by rw [alloc_sz7, alloc_sz7]; omega) _).alloc (by rw [alloc_sz7, alloc_sz7, alloc_sz7]; omega) _
  rw [e1, e2, e3]
  exact ⟨⟨heap_new k1 (by omega), heap_new k2 (by omega), heap_new n3 (by omega), n4⟩, bb⟩
theorem FrC.keep {W W' : World} {b : Nat} {cv pv : Array Value} (h : FrC W b cv pv) (hb : Below W.heap.size W W') : FrC W' b cv pv :=
  ⟨(hb.block _ (Array.getElem?_eq_some_iff.1 h.c).1).trans h.c, (hb.block _ (Array.getElem?_eq_some_iff.1 h.p).1).trans h.p, h.r.keep hb, (hb.block _ (Array.getElem?_eq_some_iff.1 h.o).1).trans h.o⟩
/-- One bit more. -/
def stepR (K : Cz) (P : Pz) (set : Bool) (q : Pz) (r : Option Pz) : Prop := ∃ d, AddZ K q q d ∧ ((d = none ∧ r = none) ∨ ∃ e, d = some e ∧ if set then AddZ K e P r else r = some e)
/-- What the bits so far make. -/
def MF (K : Cz) (P : Pz) (pre : List (Int × Bool)) : Pz → Prop := pre.foldl (fun S x => fun q' => ∃ q, S q ∧ stepR K P x.2 q (some q')) (fun q => q = noZ)
theorem MF_snoc (K : Cz) (P : Pz) (pre : List (Int × Bool)) (x : Int × Bool) (q' : Pz) : MF K P (pre ++ [x]) q' ↔ ∃ q, MF K P pre q ∧ stepR K P x.2 q (some q') := by
  unfold MF
  rw [List.foldl_append]
  exact Iff.rfl
/-- What Mul answers. -/
def MulZ (K : Cz) (P : Pz) (bits : List (Int × Bool)) (r : Option Pz) : Prop := (∃ q, r = some q ∧ MF K P bits q) ∨ (r = none ∧ ∃ pre x q, (pre ++ [x]) <+: bits ∧ MF K P pre q ∧ stepR K P x.2 q none)
theorem blk_kept {W W' : World} {k : Nat} {cs : Array Value} {t : TypeId} {row : Option Nat} (h : W.heap[k]? = some (.cells cs t (0, 0))) (hg : W.grownBy W' row) (hr : ∀ r, row = some r → ∃ o : Obj, W.heap[r]? = some o ∧ o.isCells = false) : W'.heap[k]? = some (.cells cs t (0, 0)) := by
  rw [hg.block k (Array.getElem?_eq_some_iff.1 h).1 (fun e => by
    obtain ⟨o, ho, hc⟩ := hr k e.symm
    rw [h] at ho
    cases ho
    cases hc), h]
theorem Nv.kept {W W' : World} {v : Value} {n : Int} {L : Nat} {row : Option Nat} (h : Nv W v n L) (hg : W.grownBy W' row) (hr : ∀ r, row = some r → ∃ o : Obj, W.heap[r]? = some o ∧ o.isCells = false) : Nv W' v n L := by
  obtain ⟨ao, len, cap, xs, e, h1, h2, h3⟩ := h
  exact ⟨ao, len, cap, xs, e, h1.keptc hg hr, h2, h3⟩
theorem Cu.kept {W W' : World} {c : Value} {K : Cz} {L : Nat} {row : Option Nat} (h : Cu W c K L) (hg : W.grownBy W' row) (hr : ∀ r, row = some r → ∃ o : Obj, W.heap[r]? = some o ∧ o.isCells = false) : Cu W' c K L := by
  obtain ⟨g1, g2, oo, lo, co, vp, va, vb, vx, vy, vn, e, h1, h2, h3, h4, h5, h6⟩ := h
  exact ⟨g1, g2, oo, lo, co, vp, va, vb, vx, vy, vn, e, h1.kept hg hr, h2.kept hg hr, h3.kept hg hr, h4.kept hg hr, h5.kept hg hr, h6.kept hg hr⟩
theorem Pv.kept {W W' : World} {c : Value} {p : Pz} {L : Nat} {row : Option Nat} (h : Pv W c p L) (hg : W.grownBy W' row) (hr : ∀ r, row = some r → ∃ o : Obj, W.heap[r]? = some o ∧ o.isCells = false) : Pv W' c p L := by
  obtain ⟨vx, vy, e, h1, h2⟩ := h
  exact ⟨vx, vy, e, h1.kept hg hr, h2.kept hg hr⟩
/-- A block of a truth alone. -/
def BBx (w : World) (g : Nat) (b : Bool) : Prop := w.heap[g]? = some (.cells #[.bool b] 4 (0, 0))
theorem Nv.apartB {w w' : World} {v : Value} {n : Int} {L r : Nat} {b : Bool} (h : Nv w v n L) (hs : BBx w r b) (hb : Bt r w w') : Nv w' v n L := by
  obtain ⟨ao, len, cap, xs, e, h1, h2, h3⟩ := h
  refine ⟨ao, len, cap, xs, e, ⟨⟨h1.len, ?_⟩, h1.lc, h1.cm, h1.nn, h1.dg, h1.sm⟩, h2, h3⟩
  by_cases h0 : len = 0
  · exact .inl h0
  · obtain ⟨b', off, e2, hlt, hc⟩ := h1.lies.at (by omega)
    have hne : b' ≠ r := fun e3 => by
      subst e3
      have h4 := hc 0 (by omega)
      rw [cell_of_row _ _ _ _ _ _ hs] at h4
      obtain ⟨o, ho⟩ : ∃ o, off + 0 = o := ⟨_, rfl⟩
      rw [ho] at h4
      match o, h4 with
      | 0, h4 => cases h4
      | k + 1, h4 => simp at h4
    exact .inr ⟨b', off, e2, Nat.lt_of_lt_of_le hlt hb.size, fun i hi => (World.cell?_of_block (w := w) (hb.block b' hlt hne)).trans (hc i hi)⟩
/-- The state between two bits. -/
structure MSt (w : World) (b gs go : Nat) (cv pv : Array Value) (K : Cz) (P : Pz) (L : Nat) (x1 y1 : Option Addr) (x2 x3 y2 y3 : Nat) (q : Pz) (W : World) : Prop where
  fr : FrC W b cv pv
  sum : PSl W gs (.slice x1 x2 x3) (.slice y1 y2 y3) (.bool q.inf)
  sx : Nv W (.slice x1 x2 x3) q.x L
  sy : Nv W (.slice y1 y2 y3) q.y L
  ok : BBx W go true
  cu : Cu W (.agg cv) K L
  pp : Pv W (.agg pv) P L
  low : Below w.heap.size w W
theorem MSt.old {w : World} {b gs go : Nat} {cv pv : Array Value} {K : Cz} {P : Pz} {L : Nat} {x1 y1 : Option Addr} {x2 x3 y2 y3 : Nat} {q : Pz} {W W' : World} (h : MSt w b gs go cv pv K P L x1 y1 x2 x3 y2 y3 q W) (hb : Below W.heap.size W W') : MSt w b gs go cv pv K P L x1 y1 x2 x3 y2 y3 q W' :=
  ⟨h.fr.keep hb, h.sum.keep hb, h.sx.old hb, h.sy.old hb, (hb.block _ (Array.getElem?_eq_some_iff.1 h.ok).1).trans h.ok, h.cu.old hb, h.pp.old hb, h.low.trans (hb.mono h.low.size)⟩
theorem MSt.kept {w : World} {b gs go : Nat} {cv pv : Array Value} {K : Cz} {P : Pz} {L : Nat} {x1 y1 : Option Addr} {x2 x3 y2 y3 : Nat} {q : Pz} {W W' : World} {row : Option Nat} {B : Nat} (hB : w.heap.size ≤ B) (h : MSt w b gs go cv pv K P L x1 y1 x2 x3 y2 y3 q W) (hg : W.grownBy W' row) (hr : ∀ r, row = some r → B ≤ r ∧ ∃ o : Obj, W.heap[r]? = some o ∧ o.isCells = false) : MSt w b gs go cv pv K P L x1 y1 x2 x3 y2 y3 q W' := by
  have hr2 := fun r e => (hr r e).2
  exact ⟨⟨blk_kept h.fr.c hg hr2, blk_kept h.fr.p hg hr2, blk_kept h.fr.r hg hr2, blk_kept h.fr.o hg hr2⟩, blk_kept h.sum hg hr2, h.sx.kept hg hr2, h.sy.kept hg hr2, blk_kept h.ok hg hr2, h.cu.kept hg hr2, h.pp.kept hg hr2, ownFrom_below (β := Unit) (Nat.le_refl _) hB () W W' row h.low hg hr⟩
/-- The world with another sum. -/
def sumW (W : World) (gs go : Nat) (vx vy : Value) (inf ok : Bool) : World := (((W.setCell ⟨gs, 0, none⟩ vx).setCell ⟨gs, 1, none⟩ vy).setCell ⟨gs, 2, none⟩ (.bool inf)).setCell ⟨go, 0, none⟩ (.bool ok)
theorem nv_sum {W : World} {v : Value} {n : Int} {L gs go : Nat} {a1 a2 : Option Addr} {l1 k1 l2 k2 : Nat} {b ok0 : Bool} (h : Nv W v n L) (hs : PSl W gs (.slice a1 l1 k1) (.slice a2 l2 k2) (.bool b)) (ho : BBx W go ok0) (hne : go ≠ gs) (vx vy : Value) (inf ok : Bool) : Nv (sumW W gs go vx vy inf ok) v n L := by
  have b3 := Bt.set3 W gs vx vy (.bool inf)
  have ho2 : BBx (((W.setCell ⟨gs, 0, none⟩ vx).setCell ⟨gs, 1, none⟩ vy).setCell ⟨gs, 2, none⟩ (.bool inf)) go ok0 := (b3.block go (Array.getElem?_eq_some_iff.1 ho).1 hne).trans ho
  exact (h.apart hs b3).apartB ho2 (Bt.setCell go _ 0 _)
theorem sumW_blocks {W : World} {gs go : Nat} (vx vy : Value) (inf ok : Bool) (k : Nat) (hk : k < W.heap.size) (h1 : k ≠ gs) (h2 : k ≠ go) : (sumW W gs go vx vy inf ok).heap[k]? = W.heap[k]? := by
  have b3 := Bt.set3 W gs vx vy (.bool inf)
  exact ((Bt.setCell go _ 0 (.bool ok)).block k (Nat.lt_of_lt_of_le hk b3.size) h2).trans (b3.block k hk h1)
theorem sumW_sum {W : World} {gs go : Nat} {c0 c1 c2 : Value} (hs : PSl W gs c0 c1 c2) (hne : go ≠ gs) (vx vy : Value) (inf ok : Bool) : PSl (sumW W gs go vx vy inf ok) gs vx vy (.bool inf) := by
  have s3 := hs.set3 vx vy (.bool inf)
  exact ((Bt.setCell go _ 0 (.bool ok)).block gs s3.lt (Ne.symm hne)).trans s3
theorem sumW_ok {W : World} {gs go : Nat} {ok0 : Bool} (ho : BBx W go ok0) (hne : go ≠ gs) (vx vy : Value) (inf ok : Bool) : BBx (sumW W gs go vx vy inf ok) go ok := by
  have b3 := Bt.set3 W gs vx vy (.bool inf)
  have ho2 : BBx (((W.setCell ⟨gs, 0, none⟩ vx).setCell ⟨gs, 1, none⟩ vy).setCell ⟨gs, 2, none⟩ (.bool inf)) go ok0 := (b3.block go (Array.getElem?_eq_some_iff.1 ho).1 hne).trans ho
  have := heap_set7 _ go 0 (.bool ok) _ _ _ ho2
  exact this
theorem sumW_below {w W : World} {gs go : Nat} (h : Below w.heap.size w W) (h1 : w.heap.size ≤ gs) (h2 : w.heap.size ≤ go) (vx vy : Value) (inf ok : Bool) : Below w.heap.size w (sumW W gs go vx vy inf ok) := by
  have b3 := Bt.set3 W gs vx vy (.bool inf)
  have b4 := Bt.setCell go (((W.setCell ⟨gs, 0, none⟩ vx).setCell ⟨gs, 1, none⟩ vy).setCell ⟨gs, 2, none⟩ (.bool inf)) 0 (.bool ok)
  exact h.trans ((b3.below h1 h.size).trans (b4.below h2 (Nat.le_trans h.size b3.size)))
theorem sumW_keeps (W : World) (gs go : Nat) (vx vy : Value) (inf ok : Bool) : KeepsOthers W (sumW W gs go vx vy inf ok) := (((KeepsOthers.setCell _ _ _).trans (KeepsOthers.setCell _ _ _)).trans (KeepsOthers.setCell _ _ _)).trans (KeepsOthers.setCell _ _ _)
theorem bitsAt_sum {W : World} {g3 g4 : Nat} {V : Int} {N gs go : Nat} {a1 a2 : Option Addr} {l1 k1 l2 k2 : Nat} {b ok0 : Bool} (h : BitsAt W g3 g4 V N) (hs : PSl W gs (.slice a1 l1 k1) (.slice a2 l2 k2) (.bool b)) (ho : BBx W go ok0) (hne : go ≠ gs) (h3 : gs ≠ g3 ∧ go ≠ g3) (vx vy : Value) (inf ok : Bool) : BitsAt (sumW W gs go vx vy inf ok) g3 g4 V N := by
  obtain ⟨ao, la, ca, xs, e1, e2, e3, e4, e5, e6, e7⟩ := h
  have hn4 : g4 ≠ gs := fun e => by
    subst e
    have := hs.facts.1.symm.trans e3
    cases this
  have hn5 : g4 ≠ go := fun e => by
    subst e
    rw [cell_of_row _ _ _ _ _ _ ho] at e3
    cases e3
  have hz := (sumW_keeps W gs go vx vy inf ok).size
  have hb := sumW_blocks (W := W) (gs := gs) (go := go) vx vy inf ok
  have hv := nv_sum (L := la) (v := .slice ao la ca) (n := val B64 xs) ⟨ao, la, ca, xs, rfl, e5, rfl, Nat.le_refl _⟩ hs ho hne vx vy inf ok
  generalize sumW W gs go vx vy inf ok = W' at *
  have c4 : W'.cell? ⟨g4, 0, none⟩ = some (.int .i64 N) := by rw [← e3]; exact World.cell?_of_block (w := W) (hb g4 e2 hn4 hn5)
  have c3 : W'.cell? ⟨g3, 0, none⟩ = some (.slice ao la ca) := by rw [← e4]; exact World.cell?_of_block (w := W) (hb g3 e1 (Ne.symm h3.1) (Ne.symm h3.2))
  obtain ⟨p1, p2, p3, p4, ee, q1, q2, q3⟩ := hv
  injection ee with u1 u2 u3
  subst u1 u2 u3
  exact ⟨ao, la, ca, p4, Nat.lt_of_lt_of_le e1 hz, Nat.lt_of_lt_of_le e2 hz, c4, c3, q1, by rw [q2]; exact e6, e7⟩
/-- The state with another sum. -/
theorem MSt.next {w : World} {b gs go : Nat} {cv pv : Array Value} {K : Cz} {P : Pz} {L : Nat} {x1 y1 x1' y1' : Option Addr} {x2 x3 y2 y3 x2' x3' y2' y3' : Nat} {q q' : Pz} {W : World} (h : MSt w b gs go cv pv K P L x1 y1 x2 x3 y2 y3 q W) (hg : b + 1 + 1 + 1 < gs ∧ gs + 1 = go ∧ w.heap.size = b) (nx : Nv W (.slice x1' x2' x3') q'.x L) (ny : Nv W (.slice y1' y2' y3') q'.y L) : MSt w b gs go cv pv K P L x1' y1' x2' x3' y2' y3' q' (sumW W gs go (.slice x1' x2' x3') (.slice y1' y2' y3') q'.inf true) := by
  have hne : go ≠ gs := by omega
  have nn : ∀ {v : Value} {n : Int}, Nv W v n L → Nv (sumW W gs go (.slice x1' x2' x3') (.slice y1' y2' y3') q'.inf true) v n L := fun hv => nv_sum hv h.sum h.ok hne _ _ _ _
  have bk := fun k hk h1 h2 => sumW_blocks (W := W) (gs := gs) (go := go) (.slice x1' x2' x3') (.slice y1' y2' y3') q'.inf true k hk h1 h2
  refine ⟨⟨(bk b (Array.getElem?_eq_some_iff.1 h.fr.c).1 (by omega) (by omega)).trans h.fr.c, (bk _ (Array.getElem?_eq_some_iff.1 h.fr.p).1 (by omega) (by omega)).trans h.fr.p, (bk _ h.fr.r.lt (by omega) (by omega)).trans h.fr.r, (bk _ (Array.getElem?_eq_some_iff.1 h.fr.o).1 (by omega) (by omega)).trans h.fr.o⟩, sumW_sum h.sum hne _ _ _ _, nn nx, nn ny, sumW_ok h.ok hne _ _ _ _, ?_, ?_, sumW_below h.low (by omega) (by omega) _ _ _ _⟩
  · obtain ⟨g1, g2, oo, lo, co, vp, va, vb, vx, vy, vn, e, h1, h2, h3, h4, h5, h6⟩ := h.cu
    exact ⟨g1, g2, oo, lo, co, vp, va, vb, vx, vy, vn, e, nn h1, nn h2, nn h3, nn h4, nn h5, nn h6⟩
  · obtain ⟨vx, vy, e, h1, h2⟩ := h.pp
    exact ⟨vx, vy, e, nn h1, nn h2⟩
/-- Between two bits. -/
def MGo (w : World) (b gs go : Nat) (cv pv : Array Value) (K : Cz) (P : Pz) (L : Nat) (pre : List (Int × Bool)) (W : World) : Prop := ∃ x1 y1 x2 x3 y2 y3 q, MF K P pre q ∧ MSt w b gs go cv pv K P L x1 y1 x2 x3 y2 y3 q W
/-- A sum that isn't. -/
def MEnd (w : World) (b : Nat) (K : Cz) (P : Pz) (c : Code) (pre : List (Int × Bool)) (W : World) : Prop := c = .ret ∧ (PSl W (b + 1 + 1) (.slice none 0 0) (.slice none 0 0) (.bool false) ∧ BBx W (b + 1 + 1 + 1) false) ∧ Below w.heap.size w W ∧ ∃ pre' x q, pre = pre' ++ [x] ∧ MF K P pre' q ∧ stepR K P x.2 q none
theorem MGo.kept {w : World} {b gs go : Nat} {cv pv : Array Value} {K : Cz} {P : Pz} {L B : Nat} (hB : w.heap.size ≤ B) : OwnFrom B (MGo w b gs go cv pv K P L) := by
  rintro pre A A' row ⟨x1, y1, x2, x3, y2, y3, q, h1, h2⟩ hg hr
  exact ⟨x1, y1, x2, x3, y2, y3, q, h1, h2.kept hB hg hr⟩
theorem MEnd.kept {w : World} {b : Nat} {K : Cz} {P : Pz} {B : Nat} (hB : w.heap.size ≤ B) (c : Code) : OwnFrom B (MEnd w b K P c) := by
  rintro pre A A' row ⟨h1, h2, h3, h4⟩ hg hr
  have hr2 := fun r e => (hr r e).2
  exact ⟨h1, ⟨blk_kept h2.1 hg hr2, blk_kept h2.2 hg hr2⟩, ownFrom_below (β := Unit) (Nat.le_refl _) hB () A A' row h3 hg hr, h4⟩
theorem BBx.facts {W : World} {g : Nat} {b : Bool} (h : BBx W g b) : W.cell? ⟨g, 0, none⟩ = some (.bool b) ∧ W.frozen? ⟨g, 0, none⟩ = false := by
  refine ⟨?_, ?_⟩
  · rw [cell_of_row _ _ _ _ _ _ h]; rfl
  · exact frozen_of_row W g 0 _ _ h
theorem FrC.cells {W : World} {b : Nat} {c0 c1 c2 c3 c4 c5 c6 c7 c8 p0 p1 p2 : Value} (h : FrC W b #[c0, c1, c2, c3, c4, c5, c6, c7, c8] #[p0, p1, p2]) : (W.cell? ⟨b, 0, none⟩ = some c0 ∧ W.cell? ⟨b, 1, none⟩ = some c1 ∧ W.cell? ⟨b, 2, none⟩ = some c2 ∧ W.cell? ⟨b, 3, none⟩ = some c3 ∧ W.cell? ⟨b, 4, none⟩ = some c4 ∧ W.cell? ⟨b, 5, none⟩ = some c5 ∧ W.cell? ⟨b, 6, none⟩ = some c6 ∧ W.cell? ⟨b, 7, none⟩ = some c7 ∧ W.cell? ⟨b, 8, none⟩ = some c8) ∧ W.cell? ⟨b + 1, 0, none⟩ = some p0 ∧ W.cell? ⟨b + 1, 1, none⟩ = some p1 ∧ W.cell? ⟨b + 1, 2, none⟩ = some p2 := by
  refine ⟨⟨?_, ?_, ?_, ?_, ?_, ?_, ?_, ?_, ?_⟩, ?_, ?_, ?_⟩
  all_goals first
    | (rw [cell_of_row _ _ _ _ _ _ h.c]; rfl)
    | (rw [cell_of_row _ _ _ _ _ _ h.p]; rfl)
/-- The end of a sum that isn't. -/
theorem MSt.fails {w : World} {b gs go : Nat} {cv pv : Array Value} {K : Cz} {P : Pz} {L : Nat} {x1 y1 : Option Addr} {x2 x3 y2 y3 : Nat} {q : Pz} {W : World} (h : MSt w b gs go cv pv K P L x1 y1 x2 x3 y2 y3 q W) (hg : b + 1 + 1 + 1 < gs ∧ gs + 1 = go ∧ w.heap.size = b) {pre : List (Int × Bool)} {x : Int × Bool} {q0 : Pz} (hm : MF K P pre q0) (hs : stepR K P x.2 q0 none) :
    KeepsOthers W (((((sumW W gs go (.slice none 0 0) (.slice none 0 0) false false).setCell ⟨b + 1 + 1, 0, none⟩ (.slice none 0 0)).setCell ⟨b + 1 + 1, 1, none⟩ (.slice none 0 0)).setCell ⟨b + 1 + 1, 2, none⟩ (.bool false)).setCell ⟨b + 1 + 1 + 1, 0, none⟩ (.bool false)) ∧ MEnd w b K P .ret (pre ++ [x]) (((((sumW W gs go (.slice none 0 0) (.slice none 0 0) false false).setCell ⟨b + 1 + 1, 0, none⟩ (.slice none 0 0)).setCell ⟨b + 1 + 1, 1, none⟩ (.slice none 0 0)).setCell ⟨b + 1 + 1, 2, none⟩ (.bool false)).setCell ⟨b + 1 + 1 + 1, 0, none⟩ (.bool false)) := by
  have ks := sumW_keeps W gs go (.slice none 0 0) (.slice none 0 0) false false
  have bk := fun k hk h1 h2 => sumW_blocks (W := W) (gs := gs) (go := go) (.slice none 0 0) (.slice none 0 0) false false k hk h1 h2
  have lo := sumW_below (gs := gs) (go := go) h.low (by omega) (by omega) (.slice none 0 0) (.slice none 0 0) false false
  have r1 : PSl _ (b + 1 + 1) (.slice none 0 0) (.slice none 0 0) (.bool false) := (bk _ h.fr.r.lt (by omega) (by omega)).trans h.fr.r
  have o1 : BBx _ (b + 1 + 1 + 1) false := (bk _ (Array.getElem?_eq_some_iff.1 h.fr.o).1 (by omega) (by omega)).trans h.fr.o
  generalize sumW W gs go (.slice none 0 0) (.slice none 0 0) false false = W2 at *
  refine ⟨ks.trans (sumW_keeps W2 (b + 1 + 1) (b + 1 + 1 + 1) _ _ false false), rfl, ⟨sumW_sum r1 (by omega) _ _ _ _, sumW_ok o1 (by omega) _ _ _ _⟩, sumW_below lo (by omega) (by omega) _ _ _ _, pre, x, q0, rfl, hm, hs⟩
theorem ret_ptb {fn : Func} {p u : Tmp} (h : fn.results = #[.cell p 43, .cell u 4]) (tmps : Array Value) (w : World) (g g' : Nat) (c0 c1 c2 : Value) (b : Bool) (hp : tmps.getD p undef = .pointer (some ⟨g, 0, none⟩)) (hu : tmps.getD u undef = .pointer (some ⟨g', 0, none⟩)) (hg : PSl w g c0 c1 c2) (hb : BBx w g' b) :
    (results fn tmps).run Try.prog w = .ok (.tuple #[.agg #[c0, c1, c2], .bool b]) w := by
  have hp' : tmps[p]?.getD undef = .pointer (some ⟨g, 0, none⟩) := by simpa using hp
  have hu' : tmps[u]?.getD undef = .pointer (some ⟨g', 0, none⟩) := by simpa using hu
  have hl := run_loadVar_row (P := Try.prog) w g 43 43 #[c0, c1, c2] (0, 0) _ hg Try.underlying43 rfl sizePt
  have hc := hb.facts.1
  obtain ⟨x0, x1, x2, _⟩ := hg.facts
  simp [results, h, hp', hu', asAddr, go_sem, x0, x1, x2, hc]
set_option maxRecDepth 100000 in
set_option maxHeartbeats 4000000 in
theorem Mul_pt (c k p : Value) (K : Cz) (n : Int) (P : Pz) (L : Nat) (w : World) (hc : Cu w c K L) (hk : Nv w k n L) (hp : Pv w p P L) (hL : 1 ≤ L ∧ L ≤ 70) (h0 : K.p ≠ 0) :
    Calls Try.prog 17 #[c, k, p] w fun e w' => ∃ r, MulZ K P (bitsOf n (blen n.toNat) (blen n.toNat)) r ∧ Pa w w' e r L := by
  obtain ⟨g1, g2, oo, lo, co, vp, va, vb, vx, vy, vn, rfl, c1, c2, c3, c4, c5, c6⟩ := hc
  obtain ⟨px, py, rfl, p1, p2⟩ := hp
  obtain ⟨a1, a2, a3, a4, rfl, a5⟩ := c1
  obtain ⟨b1, b2, b3, b4, rfl, b5'⟩ := c2
  obtain ⟨d1, d2, d3, d4, rfl, d5⟩ := c3
  obtain ⟨e1, e2, e3, e4, rfl, e5⟩ := c4
  obtain ⟨f1, f2, f3, f4, rfl, f5⟩ := c5
  obtain ⟨j1, j2, j3, j4, rfl, j5⟩ := c6
  obtain ⟨k1, k2, k3, k4, rfl, k5⟩ := p1
  obtain ⟨l1, l2, l3, l4, rfl, l5⟩ := p2
  obtain ⟨m1, m2, m3, m4, rfl, m5⟩ := hk
  have FZ := frC_new w #[.int .i64 g1, .int .i64 g2, .slice oo lo co, .slice a1 a2 a3, .slice b1 b2 b3, .slice d1 d2 d3, .slice e1 e2 e3, .slice f1 f2 f3, .slice j1 j2 j3] #[.slice k1 k2 k3, .slice l1 l2 l3, .bool P.inf]
  obtain ⟨W, hW⟩ : ∃ W, (((w.alloc (.cells #[.int .i64 g1, .int .i64 g2, .slice oo lo co, .slice a1 a2 a3, .slice b1 b2 b3, .slice d1 d2 d3, .slice e1 e2 e3, .slice f1 f2 f3, .slice j1 j2 j3] 29)).alloc (.cells #[.slice k1 k2 k3, .slice l1 l2 l3, .bool P.inf] 43)).alloc (.cells #[.slice none 0 0, .slice none 0 0, .bool false] 43)).alloc (.cells #[.bool false] 4) = W := ⟨_, rfl⟩
  rw [hW] at FZ
  obtain ⟨FZ, hb⟩ := FZ
  have HZ := isZero_any (.slice a1 a2 a3) K.p L W (Nv.old ⟨a1, a2, a3, a4, rfl, a5⟩ hb)
  have hd : decide (K.p = 0) = false := by simp [h0]
  rw [hd] at HZ
  have HN := nothing_any W
  have HW : Hid (_ = W) := hW
  clear hW
  refine (callsIn_wide (n := 4)).1 ?_
  refine callsIn_of_wp_marks Try.func17 rfl trivial ?_ rfl
  simp only [Try.ntmps17, List.size_toArray, List.length_cons, List.length_nil, Nat.reduceAdd, Nat.reduceSub, Array.replicate_succ, Array.replicate_zero, List.push_toArray, List.append_toArray, List.nil_append, List.cons_append]
  gi_wp2_with fail
  refine ⟨trivial, ?_⟩
  rw [HW.out]
  refine (callsIn_wide.2 HZ).mono ?_
  rintro e w2 ⟨rfl, rfl⟩
  gi_wp2_with fail
  refine ⟨trivial, ?_⟩
  refine (callsIn_wide.2 HN).mono ?_
  rintro e w3 ⟨rfl, hb3⟩
  have B3 := hb.trans (hb3.mono hb.size)
  have F3 := FZ.keep hb3
  obtain ⟨gs, hgs⟩ : ∃ gs, w3.heap.size = gs := ⟨_, rfl⟩
  obtain ⟨W5, hW5⟩ : ∃ W5, (w3.alloc (.cells #[.slice none 0 0, .slice none 0 0, .bool true] 43)).alloc (.cells #[.bool true] 4) = W5 := ⟨_, rfl⟩
  have b5 : Below w3.heap.size w3 W5 := by rw [← hW5]; exact ((Below.refl _ _).alloc (Nat.le_refl _) _).alloc (by rw [alloc_sz7]; omega) _
  have s5 : PSl W5 gs (.slice none 0 0) (.slice none 0 0) (.bool true) := by rw [← hW5, ← hgs]; exact heap_new (heap_alloc_new w3 _) (by rw [alloc_sz7]; omega)
  have o5 : BBx W5 (gs + 1) true := by
    have := heap_alloc_new (w3.alloc (.cells #[.slice none 0 0, .slice none 0 0, .bool true] 43)) (.cells #[.bool true] 4)
    rw [alloc_sz7, hgs, hW5] at this
    exact this
  have B5 := B3.trans (b5.mono B3.size)
  have hgg : w.heap.size + 1 + 1 + 1 < gs := by rw [← hgs]; exact (Array.getElem?_eq_some_iff.1 F3.o).1
  have HBITS := Bits_new m1 m2 m3 m4 W5 (m5.1.old B5) (by omega)
  have HMS : Hid (MSt w w.heap.size gs (gs + 1) #[.int .i64 g1, .int .i64 g2, .slice oo lo co, .slice a1 a2 a3, .slice b1 b2 b3, .slice d1 d2 d3, .slice e1 e2 e3, .slice f1 f2 f3, .slice j1 j2 j3] #[.slice k1 k2 k3, .slice l1 l2 l3, .bool P.inf] K P L none none 0 0 0 0 noZ W5) :=
    ⟨F3.keep b5, s5, nv_nil W5 L, nv_nil W5 L, o5, Cu.old ⟨g1, g2, oo, lo, co, _, _, _, _, _, _, rfl, ⟨a1, a2, a3, a4, rfl, a5⟩, ⟨b1, b2, b3, b4, rfl, b5'⟩, ⟨d1, d2, d3, d4, rfl, d5⟩, ⟨e1, e2, e3, e4, rfl, e5⟩, ⟨f1, f2, f3, f4, rfl, f5⟩, ⟨j1, j2, j3, j4, rfl, j5⟩⟩ B5, Pv.old ⟨_, _, rfl, ⟨k1, k2, k3, k4, rfl, k5⟩, ⟨l1, l2, l3, l4, rfl, l5⟩⟩ B5, B5⟩
  have HVN : Hid (val B64 m4 = n) := m5.2.1
  have HGG : Hid (w.heap.size + 1 + 1 + 1 < gs ∧ gs < W5.heap.size ∧ gs + 1 < W5.heap.size) := ⟨hgg, s5.lt, (Array.getElem?_eq_some_iff.1 o5).1⟩
  have HW5 : Hid (_ = W5) := hW5
  clear hW5 B5 B3 b5 s5 o5 hgg F3 FZ HN HZ hb hb3 HW
  gi_wp2_with fail
  rw [HW5.out]
  refine ⟨trivial, ?_⟩
  refine (callsIn_wide.2 HBITS).mono ?_
  rintro e W6 ⟨g3, g4, rfl, hBA, hbl, hg3⟩
  rw [HVN.out] at hBA
  obtain ⟨N, hN⟩ : ∃ N, blen n.toNat = N := ⟨_, rfl⟩
  rw [hN] at hBA
  have HNN : Hid (blen n.toNat = N) := hN
  clear hN
  have HGI : Hid (MSt w w.heap.size gs (gs + 1) _ _ K P L none none 0 0 0 0 noZ W6) := HMS.out.old hbl
  have HNE : Hid (gs ≠ g3 ∧ gs + 1 ≠ g3 ∧ w.heap.size ≤ W6.heap.size) := ⟨by have := HGG.out; omega, by have := HGG.out; omega, HGI.out.low.size⟩
  clear HMS hbl HBITS hg3 HW5
  have HGX : Hid (w.heap.size + 1 + 1 + 1 < gs ∧ True) := ⟨HGG.out.1, trivial⟩
  have HLL : Hid (1 ≤ L ∧ L ≤ 1000) := ⟨hL.1, by omega⟩
  clear HGG hgs a5 b5' d5 e5 f5 j5 k5 l5 m5 HVN hd h0 hL
  gi_wp2
  refine wpIn_rangeFunc_ownF rfl (by omega) (gf := 74) (lb := #[.pointer (some ⟨g4, 0, none⟩), .pointer (some ⟨g3, 0, none⟩)]) rfl trivial (enters_of Try.func74 (by kernel_rfl) rfl)
    (bits_stopsI (4 - 1) (by omega) W6 g3 g4 n N hBA) (fun h k hB => k (h hB)) (fun W l o o' _ hl hc _ hB => hB.keptc (grownBy_putObj' W l o') (fun r e => by cases e; exact ⟨o, hl, hc⟩)) (Below.refl _ _) (fun _ => rfl)
    (MGo w w.heap.size gs (gs + 1) #[.int .i64 g1, .int .i64 g2, .slice oo lo co, .slice a1 a2 a3, .slice b1 b2 b3, .slice d1 d2 d3, .slice e1 e2 e3, .slice f1 f2 f3, .slice j1 j2 j3] #[.slice k1 k2 k3, .slice l1 l2 l3, .bool P.inf] K P L) (MEnd w w.heap.size K P)
    (MGo.kept HNE.out.2.2) (MEnd.kept HNE.out.2.2) ⟨none, none, 0, 0, 0, 0, noZ, rfl, HGI.out⟩
    (fun x => { tmps := #[.agg #[.int .i64 g1, .int .i64 g2, .slice oo lo co, .slice a1 a2 a3, .slice b1 b2 b3, .slice d1 d2 d3, .slice e1 e2 e3, .slice f1 f2 f3, .slice j1 j2 j3], .slice m1 m2 m3, .agg #[.slice k1 k2 k3, .slice l1 l2 l3, .bool P.inf], .pointer (some ⟨w.heap.size, 0, none⟩), undef, .pointer (some ⟨w.heap.size + 1, 0, none⟩), .pointer (some ⟨w.heap.size + 1 + 1, 0, none⟩), .pointer (some ⟨w.heap.size + 1 + 1 + 1, 0, none⟩), .pointer (some ⟨gs, 0, none⟩), .pointer (some ⟨gs + 1, 0, none⟩), undef, .bool x.2, .pointer (some ⟨w.heap.size, 3, none⟩), .slice a1 a2 a3, .bool false, undef, .agg #[.slice none 0 0, .slice none 0 0, .bool true], .slice m1 m2 m3, .func (.func 74) #[] #[.pointer (some ⟨g4, 0, none⟩), .pointer (some ⟨g3, 0, none⟩)], .int .i64 x.1, .bool x.2, undef, undef, undef, undef, undef, undef, undef, undef, undef, undef, undef, undef, undef, undef, undef, undef, undef, undef, undef, undef, undef, undef, undef], defers := [] }) ?assign ?body ?done ?stop
  case assign =>
    intro l x W' K hK
    gi_wp2
    exact hK
  case body =>
    rintro l pre ⟨z1, z2⟩ W' ⟨x1, y1, x2, x3, y2, y3, q, hmf, hst⟩ hlen
    have HST : Hid (MSt w w.heap.size gs (gs + 1) #[.int .i64 g1, .int .i64 g2, .slice oo lo co, .slice a1 a2 a3, .slice b1 b2 b3, .slice d1 d2 d3, .slice e1 e2 e3, .slice f1 f2 f3, .slice j1 j2 j3] #[.slice k1 k2 k3, .slice l1 l2 l3, .bool P.inf] K P L x1 y1 x2 x3 y2 y3 q W') := hst
    have HMF : Hid (MF K P pre q) := hmf
    have HA := Add_pt _ (.agg #[.slice x1 x2 x3, .slice y1 y2 y3, .bool q.inf]) (.agg #[.slice x1 x2 x3, .slice y1 y2 y3, .bool q.inf]) K q q L W' hst.cu ⟨_, _, rfl, hst.sx, hst.sy⟩ ⟨_, _, rfl, hst.sx, hst.sy⟩ HLL.out
    obtain ⟨⟨C0, C1, C2, C3, C4, C5, C6, C7, C8⟩, P0, P1, P2⟩ := hst.fr.cells
    obtain ⟨S0, S1, S2, S3, S4, S5⟩ := hst.sum.facts
    clear hst hmf hBA HGI
    gi_wp2_with fail
    refine ⟨trivial, ?_⟩
    refine (CallsIn.inRound l (callsIn_wide.2 HA)).mono ?_
    rintro e W2 ⟨r, hr, hb2, hpa⟩
    have HS2 : Hid (MSt w w.heap.size gs (gs + 1) #[.int .i64 g1, .int .i64 g2, .slice oo lo co, .slice a1 a2 a3, .slice b1 b2 b3, .slice d1 d2 d3, .slice e1 e2 e3, .slice f1 f2 f3, .slice j1 j2 j3] #[.slice k1 k2 k3, .slice l1 l2 l3, .bool P.inf] K P L x1 y1 x2 x3 y2 y3 q W2) := HST.out.old hb2
    obtain ⟨T0, T1, T2, T3, T4, T5⟩ := HS2.out.sum.facts
    obtain ⟨U0, U1⟩ := HS2.out.ok.facts
    have KO : Hid (KeepsOthers W' W2) := KeepsOthers.of_below hb2
    have KP : Hid (BitsAt W' g3 g4 n N → BitsAt W2 g3 g4 n N) := fun hB => hB.old hb2
    clear C0 C1 C2 C3 C4 C5 C6 C7 C8 P0 P1 P2 S0 S1 S2 S3 S4 S5 HST HA hb2
    have N7 : w.heap.size ≠ gs ∧ w.heap.size ≠ gs + 1 ∧ w.heap.size + 1 ≠ gs ∧ w.heap.size + 1 ≠ gs + 1 ∧ w.heap.size + 1 + 1 ≠ gs ∧ w.heap.size + 1 + 1 ≠ gs + 1 ∧ w.heap.size + 1 + 1 + 1 ≠ gs ∧ w.heap.size + 1 + 1 + 1 ≠ gs + 1 := by have := HGX.out.1; omega
    obtain ⟨M1, M2, M3, M4, M5, M6, M7, M8⟩ := N7
    obtain ⟨⟨C0, C1, C2, C3, C4, C5, C6, C7, C8⟩, P0, P1, P2⟩ := HS2.out.fr.cells
    obtain ⟨R0, R1, R2, R3, R4, R5⟩ := HS2.out.fr.r.facts
    obtain ⟨O0, O1⟩ := BBx.facts HS2.out.fr.o
    have N1 : gs ≠ w.heap.size + 1 + 1 := by have := HGX.out.1; omega
    have N2 : gs ≠ w.heap.size + 1 + 1 + 1 := by have := HGX.out.1; omega
    have N3 : gs + 1 ≠ w.heap.size + 1 + 1 := by have := HGX.out.1; omega
    have N4 : gs + 1 ≠ w.heap.size + 1 + 1 + 1 := by have := HGX.out.1; omega
    rcases hpa with ⟨v, d, rfl, rfl, hv⟩ | ⟨rfl, rfl⟩
    · obtain ⟨vx, vy, rfl, hvx, hvy⟩ := hv
      have hvx' := hvx
      have hvy' := hvy
      obtain ⟨o1, o2, o3, o4, rfl, o5⟩ := hvx
      obtain ⟨r1, r2, r3, r4, rfl, r5⟩ := hvy
      have NX := HS2.out.next (q' := d) ⟨HGX.out.1, rfl, rfl⟩ hvx' hvy'
      have KP2 : Hid (BitsAt W' g3 g4 n N → BitsAt (sumW W2 gs (gs + 1) (.slice o1 o2 o3) (.slice r1 r2 r3) d.inf true) g3 g4 n N) := fun hB => bitsAt_sum (KP.out hB) HS2.out.sum HS2.out.ok (by omega) ⟨HNE.out.1, HNE.out.2.1⟩ _ _ _ _
      have KO2 : Hid (KeepsOthers W' (sumW W2 gs (gs + 1) (.slice o1 o2 o3) (.slice r1 r2 r3) d.inf true)) := KO.out.trans (sumW_keeps _ _ _ _ _ _ _)
      have HN : Hid (MSt w w.heap.size gs (gs + 1) #[.int .i64 g1, .int .i64 g2, .slice oo lo co, .slice a1 a2 a3, .slice b1 b2 b3, .slice d1 d2 d3, .slice e1 e2 e3, .slice f1 f2 f3, .slice j1 j2 j3] #[.slice k1 k2 k3, .slice l1 l2 l3, .bool P.inf] K P L o1 r1 o2 o3 r2 r3 d (sumW W2 gs (gs + 1) (.slice o1 o2 o3) (.slice r1 r2 r3) d.inf true)) := NX
      have HR : Hid (AddZ K q q (some d)) := hr
      clear hr hvx' hvy' o5 r5 NX KP KO HS2
      cases z2 with
      | false =>
        gi_wp2
        exact ⟨KO2.out, KP2.out, o1, r1, o2, o3, r2, r3, d, (MF_snoc K P pre (z1, false) d).2 ⟨q, HMF.out, some d, HR.out, .inr ⟨d, rfl, rfl⟩⟩, HN.out⟩
      | true =>
        have HA2 := Add_pt _ (.agg #[.slice o1 o2 o3, .slice r1 r2 r3, .bool d.inf]) (.agg #[.slice k1 k2 k3, .slice l1 l2 l3, .bool P.inf]) K d P L (sumW W2 gs (gs + 1) (.slice o1 o2 o3) (.slice r1 r2 r3) d.inf true) HN.out.cu ⟨_, _, rfl, HN.out.sx, HN.out.sy⟩ HN.out.pp HLL.out
        gi_wp2_with fail
        refine ⟨trivial, ?_⟩
        refine (CallsIn.inRound l (callsIn_wide.2 HA2)).mono ?_
        clear C0 C1 C2 C3 C4 C5 C6 C7 C8 P0 P1 P2 T0 T1 T2 T3 T4 T5 U0 U1 R0 R1 R2 R3 R4 R5 O0 O1
        rintro e W4 ⟨r, hr, hb4, hpa⟩
        have HS4 : Hid (MSt w w.heap.size gs (gs + 1) #[.int .i64 g1, .int .i64 g2, .slice oo lo co, .slice a1 a2 a3, .slice b1 b2 b3, .slice d1 d2 d3, .slice e1 e2 e3, .slice f1 f2 f3, .slice j1 j2 j3] #[.slice k1 k2 k3, .slice l1 l2 l3, .bool P.inf] K P L o1 r1 o2 o3 r2 r3 d W4) := HN.out.old hb4
        obtain ⟨T0, T1, T2, T3, T4, T5⟩ := HS4.out.sum.facts
        obtain ⟨U0, U1⟩ := HS4.out.ok.facts
        obtain ⟨R0, R1, R2, R3, R4, R5⟩ := HS4.out.fr.r.facts
        obtain ⟨O0, O1⟩ := BBx.facts HS4.out.fr.o
        have KO4 : Hid (KeepsOthers W' W4) := KO2.out.trans (KeepsOthers.of_below hb4)
        have KP4 : Hid (BitsAt W' g3 g4 n N → BitsAt W4 g3 g4 n N) := fun hB => (KP2.out hB).old hb4
        clear hb4 HN KO2 KP2 HA2
        rcases hpa with ⟨v, d', rfl, rfl, hv⟩ | ⟨rfl, rfl⟩
        · obtain ⟨vx, vy, rfl, hvx, hvy⟩ := hv
          have hvx' := hvx
          have hvy' := hvy
          obtain ⟨t1, t2, t3, t4, rfl, t5⟩ := hvx
          obtain ⟨u1, u2, u3, u4, rfl, u5⟩ := hvy
          have NX := HS4.out.next (q' := d') ⟨HGX.out.1, rfl, rfl⟩ hvx' hvy'
          have KP5 : Hid (BitsAt W' g3 g4 n N → BitsAt (sumW W4 gs (gs + 1) (.slice t1 t2 t3) (.slice u1 u2 u3) d'.inf true) g3 g4 n N) := fun hB => bitsAt_sum (KP4.out hB) HS4.out.sum HS4.out.ok (by omega) ⟨HNE.out.1, HNE.out.2.1⟩ _ _ _ _
          have KO5 : Hid (KeepsOthers W' (sumW W4 gs (gs + 1) (.slice t1 t2 t3) (.slice u1 u2 u3) d'.inf true)) := KO4.out.trans (sumW_keeps _ _ _ _ _ _ _)
          have HN5 : Hid (MSt w w.heap.size gs (gs + 1) #[.int .i64 g1, .int .i64 g2, .slice oo lo co, .slice a1 a2 a3, .slice b1 b2 b3, .slice d1 d2 d3, .slice e1 e2 e3, .slice f1 f2 f3, .slice j1 j2 j3] #[.slice k1 k2 k3, .slice l1 l2 l3, .bool P.inf] K P L t1 u1 t2 t3 u2 u3 d' (sumW W4 gs (gs + 1) (.slice t1 t2 t3) (.slice u1 u2 u3) d'.inf true)) := NX
          have HR5 : Hid (AddZ K d P (some d')) := hr
          clear hr hvx' hvy' t5 u5 NX KP4 KO4 HS4
          gi_wp2
          exact ⟨KO5.out, KP5.out, t1, u1, t2, t3, u2, u3, d', (MF_snoc K P pre (z1, true) d').2 ⟨q, HMF.out, some d, HR.out, .inr ⟨d, rfl, HR5.out⟩⟩, HN5.out⟩
        · have HF := HS4.out.fails ⟨HGX.out.1, rfl, rfl⟩ (x := (z1, true)) HMF.out ⟨some d, HR.out, .inr ⟨d, rfl, hr⟩⟩
          have HFF : Hid _ := HF
          clear HF hr
          gi_wp2
          exact ⟨KO4.out.trans HFF.out.1, HFF.out.2⟩
    · have HF := HS2.out.fails ⟨HGX.out.1, rfl, rfl⟩ (x := (z1, z2)) HMF.out ⟨none, hr, .inl ⟨rfl, rfl⟩⟩
      have HFF : Hid _ := HF
      clear HF hr
      gi_wp2
      exact ⟨KO.out.trans HFF.out.1, HFF.out.2⟩
  case done =>
    rintro D ys W' hD hys ⟨x1, y1, x2, x3, y2, y3, q, hmf, hst⟩ hK
    have HST : Hid (MSt w w.heap.size gs (gs + 1) #[.int .i64 g1, .int .i64 g2, .slice oo lo co, .slice a1 a2 a3, .slice b1 b2 b3, .slice d1 d2 d3, .slice e1 e2 e3, .slice f1 f2 f3, .slice j1 j2 j3] #[.slice k1 k2 k3, .slice l1 l2 l3, .bool P.inf] K P L x1 y1 x2 x3 y2 y3 q W') := hst
    have HMF : Hid (MF K P (bitsOf n N N) q) := by rw [← hys]; exact hmf
    have HK : Hid (W'.heap[D]? = some (.deferred (some [])) ∧ W6.heap.size ≤ D) := ⟨hK, hD⟩
    obtain ⟨S0, S1, S2, S3, S4, S5⟩ := hst.sum.facts
    obtain ⟨R0, R1, R2, R3, R4, R5⟩ := hst.fr.r.facts
    obtain ⟨O0, O1⟩ := BBx.facts hst.fr.o
    clear hst hmf hBA HGI hys hK hD
    have SS := sumW_sum HST.out.fr.r (go := w.heap.size + 1 + 1 + 1) (by omega) (.slice x1 x2 x3) (.slice y1 y2 y3) q.inf true
    have SO := sumW_ok (gs := w.heap.size + 1 + 1) HST.out.fr.o (by omega) (.slice x1 x2 x3) (.slice y1 y2 y3) q.inf true
    have SX := nv_sum HST.out.sx HST.out.fr.r HST.out.fr.o (by omega) (.slice x1 x2 x3) (.slice y1 y2 y3) q.inf true
    have SY := nv_sum HST.out.sy HST.out.fr.r HST.out.fr.o (by omega) (.slice x1 x2 x3) (.slice y1 y2 y3) q.inf true
    have SB := sumW_below (gs := w.heap.size + 1 + 1) (go := w.heap.size + 1 + 1 + 1) HST.out.low (by omega) (by omega) (.slice x1 x2 x3) (.slice y1 y2 y3) q.inf true
    have SK := (sumW_keeps W' (w.heap.size + 1 + 1) (w.heap.size + 1 + 1 + 1) (.slice x1 x2 x3) (.slice y1 y2 y3) q.inf true).same D _ HK.out.1 rfl
    have HALL : Hid (_ ∧ _ ∧ _ ∧ _ ∧ _ ∧ _) := ⟨SS, SO, SX, SY, SB, SK⟩
    clear SS SO SX SY SB SK
    gi_wp2
    obtain ⟨SS, SO, SX, SY, SB, SK⟩ := HALL.out
    refine ⟨by simp, .inl ⟨_, _, rfl, run_takeDeferred SK, ?_⟩⟩
    have gk := grownBy_putObj' (sumW W' (w.heap.size + 1 + 1) (w.heap.size + 1 + 1 + 1) (.slice x1 x2 x3) (.slice y1 y2 y3) q.inf true) D (.deferred none)
    have hr : ∀ r, some D = some r → ∃ o : Obj, (sumW W' (w.heap.size + 1 + 1) (w.heap.size + 1 + 1 + 1) (.slice x1 x2 x3) (.slice y1 y2 y3) q.inf true).heap[r]? = some o ∧ o.isCells = false := fun r e => by cases e; exact ⟨_, SK, rfl⟩
    refine ⟨_, ret_ptb rfl _ _ (w.heap.size + 1 + 1) (w.heap.size + 1 + 1 + 1) _ _ _ _ rfl rfl (blk_kept SS gk hr) (blk_kept SO gk hr), some q, .inl ⟨q, rfl, by rw [HNN.out]; exact HMF.out⟩, SB.trans (belowK_b (w := w) (Nat.le_refl _) _ D _ _ (by have := HK.out.2; have := HNE.out.2.2; omega) SK rfl rfl), .inl ⟨_, q, rfl, rfl, _, _, rfl, SX.kept gk hr, SY.kept gk hr⟩⟩
  case stop =>
    rintro D c pre W' hD hpre ⟨rfl, h1, h2, h3⟩ hK
    obtain ⟨pre', x, q, rfl, hm, hs⟩ := h3
    gi_wp2
    refine ⟨by simp, .inl ⟨_, _, rfl, run_takeDeferred hK, ?_⟩⟩
    have gk := grownBy_putObj' W' D (.deferred none)
    have hr : ∀ r, some D = some r → ∃ o : Obj, W'.heap[r]? = some o ∧ o.isCells = false := fun r e => by cases e; exact ⟨_, hK, rfl⟩
    exact ⟨_, ret_ptb rfl _ _ (w.heap.size + 1 + 1) (w.heap.size + 1 + 1 + 1) _ _ _ _ rfl rfl (blk_kept h1.1 gk hr) (blk_kept h1.2 gk hr), none, .inr ⟨rfl, pre', x, q, by rw [HNN.out]; exact hpre, hm, hs⟩, h2.trans (belowK_b (w := w) (Nat.le_refl _) _ D _ _ (by have := HNE.out.2.2; omega) hK rfl rfl), .inr ⟨rfl, rfl⟩⟩
end Go.Proofs.Ytdojbknkaoiioaa
