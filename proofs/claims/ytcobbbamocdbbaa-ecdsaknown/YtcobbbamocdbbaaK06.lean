import Derived.Test.YtcobbbamocdbbaaK05
import Derived.Test.YtcobbbamocdbbaaK03
import Derived.WalkKit
import Derived.Test.YtcobbbamocdbbaaK04
/-
  Facts on what operations of a drawn region leave: numbers, points, boxes.
-/
namespace Go.Proofs.Ytcobbbamocdbbaa
open Go.Shelf Go.RowKit
set_option linter.unusedVariables false
set_option linter.unusedSimpArgs false

/-- A point that was answered, or none: the value. -/
def Pr (w : World) (v : Value) (r : Option Pz) (L : Nat) : Prop := (∃ u p, r = some p ∧ v = .tuple #[u, .bool true] ∧ Pv w u p L) ∨ (r = none ∧ v = .tuple #[.agg #[.slice none 0 0, .slice none 0 0, .bool false], .bool false])
theorem Pr.old {w w' : World} {v : Value} {r : Option Pz} {L : Nat} (h : Pr w v r L) (hb : Below w.heap.size w w') : Pr w' v r L := by
  rcases h with ⟨u, p, h1, h2, h3⟩ | h
  · exact .inl ⟨u, p, h1, h2, h3.old hb⟩
  · exact .inr h
theorem Pa.pr {w w' : World} {e : Ending} {r : Option Pz} {L : Nat} (h : Pa w w' e r L) : Below w.heap.size w w' ∧ ∃ v, e = .returned v ∧ Pr w' v r L := by
  obtain ⟨hb, (⟨v, p, h1, h2, h3⟩ | ⟨h1, h2⟩)⟩ := h
  · exact ⟨hb, _, h2, .inl ⟨v, p, h1, rfl, h3⟩⟩
  · exact ⟨hb, _, h2, .inr ⟨h1, rfl⟩⟩
theorem Pv.apart {w w' : World} {c : Value} {p : Pz} {L r : Nat} {a1 a2 : Option Addr} {l1 k1 l2 k2 : Nat} {b : Bool} (h : Pv w c p L) (hs : PSl w r (.slice a1 l1 k1) (.slice a2 l2 k2) (.bool b)) (hb : Bt r w w') : Pv w' c p L := by
  obtain ⟨vx, vy, e, h1, h2⟩ := h
  exact ⟨vx, vy, e, h1.apart hs hb, h2.apart hs hb⟩
theorem Pr.parts {w : World} {v : Value} {r : Option Pz} {L : Nat} (h : Pr w v r L) : ∃ o1 l1 k1 o2 l2 k2 bb ok, v = .tuple #[.agg #[.slice o1 l1 k1, .slice o2 l2 k2, .bool bb], .bool ok] := by
  rcases h with ⟨u, p, h1, h2, vx, vy, rfl, ⟨a1, a2, a3, a4, rfl, a5⟩, ⟨b1, b2, b3, b4, rfl, b5⟩⟩ | ⟨_, h2⟩
  · exact ⟨_, _, _, _, _, _, _, _, h2⟩
  · exact ⟨_, _, _, _, _, _, _, _, h2⟩
/-- A point's box. -/
def BxP (B : Nat) (W : World) (v : Value) (c0 c1 c2 : Value) : Prop := ∃ b o1 l1 k1 o2 l2 k2 bb, v = .pointer (some ⟨b, 0, none⟩) ∧ B ≤ b ∧ c0 = .slice o1 l1 k1 ∧ c1 = .slice o2 l2 k2 ∧ c2 = .bool bb ∧ PSl W b c0 c1 c2
/-- A fact that stands while memory is made; and, if it says so, while a box is filled. -/
structure Fk where
  sem : List Value → World → Prop
  keep : ∀ vs w w', Below w.heap.size w w' → sem vs w → sem vs w'
  box' : Bool
  store : box' = true → ∀ vs w w' r a1 a2 l1 k1 l2 k2 b b1 b2 m1 n1 m2 n2 b', PSl w r (.slice a1 l1 k1) (.slice a2 l2 k2) (.bool b) → PSl w' r (.slice b1 m1 n1) (.slice b2 m2 n2) (.bool b') → Bt r w w' → sem vs w → sem vs w'
/-- A fact on values alone. -/
def Fk.pure (S : List Value → Prop) : Fk := ⟨fun vs _ => S vs, fun _ _ _ _ h => h, true, fun _ _ _ _ _ _ _ _ _ _ _ _ _ _ _ _ _ _ _ _ _ _ h => h⟩
def Fk.any : Fk := Fk.pure fun _ => True
def Fk.eq (e : Value) : Fk := Fk.pure fun vs => vs.getD 0 undef = e
def Fk.same : Fk := Fk.pure fun vs => vs.getD 0 undef = vs.getD 1 undef
def Fk.ext (i : Nat) : Fk := Fk.pure fun vs => ∃ t : Array Value, vs.getD 1 undef = .tuple t ∧ vs.getD 0 undef = t.getD i undef
def Fk.nv (R : Int → Prop) (L : Nat) : Fk := ⟨fun vs W => ∃ n, R n ∧ Nv W (vs.getD 0 undef) n L, fun vs w w' hb h => by
  obtain ⟨n, h1, h2⟩ := h
  exact ⟨n, h1, h2.old hb⟩, true, fun _ vs w w' r a1 a2 l1 k1 l2 k2 b b1 b2 m1 n1 m2 n2 b' hs _ hb h => by
  obtain ⟨n, h1, h2⟩ := h
  exact ⟨n, h1, h2.apart hs hb⟩⟩
def Fk.pv (R : Pz → Prop) (L : Nat) : Fk := ⟨fun vs W => ∃ p, R p ∧ Pv W (vs.getD 0 undef) p L, fun vs w w' hb h => by
  obtain ⟨n, h1, h2⟩ := h
  exact ⟨n, h1, h2.old hb⟩, true, fun _ vs w w' r a1 a2 l1 k1 l2 k2 b b1 b2 m1 n1 m2 n2 b' hs _ hb h => by
  obtain ⟨n, h1, h2⟩ := h
  exact ⟨n, h1, h2.apart hs hb⟩⟩
def Fk.pr (R : Option Pz → Prop) (L : Nat) : Fk := ⟨fun vs W => ∃ r, R r ∧ Pr W (vs.getD 0 undef) r L, fun vs w w' hb h => by
  obtain ⟨n, h1, h2⟩ := h
  exact ⟨n, h1, h2.old hb⟩, true, fun _ vs w w' r a1 a2 l1 k1 l2 k2 b b1 b2 m1 n1 m2 n2 b' hs _ hb h => by
  obtain ⟨n, h1, h2⟩ := h
  refine ⟨n, h1, ?_⟩
  rcases h2 with ⟨u, p, q1, q2, q3⟩ | h2
  · exact .inl ⟨u, p, q1, q2, q3.apart hs hb⟩
  · exact .inr h2⟩
def Fk.box (B : Nat) : Fk := ⟨fun vs W => ∃ c0 c1 c2, BxP B W (vs.getD 0 undef) c0 c1 c2, fun vs w w' hb h => by
  obtain ⟨c0, c1, c2, b, o1, l1, k1, o2, l2, k2, bb, h1, h2, h3, h4, h5, h6⟩ := h
  exact ⟨c0, c1, c2, b, o1, l1, k1, o2, l2, k2, bb, h1, h2, h3, h4, h5, h6.keep hb⟩, true, fun _ vs w w' r a1 a2 l1 k1 l2 k2 b b1 b2 m1 n1 m2 n2 b' hs hs' hb h => by
  obtain ⟨c0, c1, c2, g, o1, p1, q1, o2, p2, q2, bb, h1, h2, h3, h4, h5, h6⟩ := h
  by_cases hg : g = r
  · subst hg
    exact ⟨_, _, _, g, b1, m1, n1, b2, m2, n2, b', h1, h2, rfl, rfl, rfl, hs'⟩
  · exact ⟨c0, c1, c2, g, o1, p1, q1, o2, p2, q2, bb, h1, h2, h3, h4, h5, (hb.block g h6.lt hg).trans h6⟩⟩
def Fk.sto (B : Nat) : Fk := ⟨fun vs W => ∃ c0 c1 c2, vs.getD 1 undef = .agg #[c0, c1, c2] ∧ BxP B W (vs.getD 0 undef) c0 c1 c2, fun vs w w' hb h => by
  obtain ⟨c0, c1, c2, h0, b, o1, l1, k1, o2, l2, k2, bb, h1, h2, h3, h4, h5, h6⟩ := h
  exact ⟨c0, c1, c2, h0, b, o1, l1, k1, o2, l2, k2, bb, h1, h2, h3, h4, h5, h6.keep hb⟩, false, fun h => by cases h⟩
theorem sem_keep (f : Fk) (vs : List Value) {w w' : World} (hb : Below w.heap.size w w') (h : f.sem vs w) : f.sem vs w' := f.keep vs w w' hb h
theorem sem_store (f : Fk) (vs : List Value) {w w' : World} {r : Nat} {a1 a2 : Option Addr} {l1 k1 l2 k2 : Nat} {b : Bool} (hs : PSl w r (.slice a1 l1 k1) (.slice a2 l2 k2) (.bool b)) {b1 b2 : Option Addr} {m1 n1 m2 n2 : Nat} {b' : Bool} (hs' : PSl w' r (.slice b1 m1 n1) (.slice b2 m2 n2) (.bool b')) (hb : Bt r w w') (hf : f.box' = true) (h : f.sem vs w) : f.sem vs w' := f.store hf vs w w' r a1 a2 l1 k1 l2 k2 b b1 b2 m1 n1 m2 n2 b' hs hs' hb h
/-- But for one, no fact is one of a box that was filled. -/
theorem box_but (i : Nat) (fs : List Fk) (h : (List.range fs.length).all (fun j => decide (j = i) || (fs.map Fk.box').getD j true) = true) : ∀ j, j ≠ i → (fs.map Fk.box').getD j true = true := by
  intro j hj
  rw [List.all_eq_true] at h
  by_cases hl : j < fs.length
  · have := h j (List.mem_range.2 hl)
    rw [Bool.or_eq_true] at this
    rcases this with this | this
    · exact absurd (by simpa using this) hj
    · exact this
  · rw [List.getD_eq_getElem?_getD, List.getElem?_eq_none (by simpa using Nat.le_of_not_lt hl)]
    rfl
theorem fs_keep (fs : List Fk) (j : Nat) (vs : List Value) {w w' : World} (hb : Below w.heap.size w w') (h : (fs.map Fk.sem).getD j (fun _ _ => True) vs w) : (fs.map Fk.sem).getD j (fun _ _ => True) vs w' := by
  rw [List.getD_eq_getElem?_getD, List.getElem?_map] at h ⊢
  cases hf : fs[j]? with
  | none => trivial
  | some f => rw [hf] at h; exact sem_keep f vs hb h
theorem fs_store (fs : List Fk) (j : Nat) (vs : List Value) {w w' : World} {r : Nat} {a1 a2 : Option Addr} {l1 k1 l2 k2 : Nat} {b : Bool} (hs : PSl w r (.slice a1 l1 k1) (.slice a2 l2 k2) (.bool b)) {b1 b2 : Option Addr} {m1 n1 m2 n2 : Nat} {b' : Bool} (hs' : PSl w' r (.slice b1 m1 n1) (.slice b2 m2 n2) (.bool b')) (hb : Bt r w w') (hf : (fs.map Fk.box').getD j true = true) (h : (fs.map Fk.sem).getD j (fun _ _ => True) vs w) : (fs.map Fk.sem).getD j (fun _ _ => True) vs w' := by
  rw [List.getD_eq_getElem?_getD, List.getElem?_map] at h hf ⊢
  cases hq : fs[j]? with
  | none => trivial
  | some f => rw [hq] at h hf; exact sem_store f vs hs hs' hb hf h
theorem wanted_at {ops : Array Oper} {a : Act} {j d : Nat} {b : Bool} {oj : Oper} (h1 : ops[j]? = some oj) (h2 : oj.dst = some d) (h : a.tmps.getD d undef = .bool b) : (yielded ops a.tmps j == some b) = true := by
  unfold yielded
  rw [h1]
  simp only [Option.bind_some, h2]
  rw [Array.getD_eq_getD_getElem?] at h
  cases he : a.tmps[d]? with
  | none => rw [he] at h; cases h
  | some v => rw [he] at h; simp only [Option.getD_some] at h; rw [h]; simp
/-- A point in a box. -/
def PtB (B : Nat) (W : World) (b : Nat) (p : Pz) (L : Nat) : Prop := B ≤ b ∧ ∃ o1 l1 k1 o2 l2 k2, PSl W b (.slice o1 l1 k1) (.slice o2 l2 k2) (.bool p.inf) ∧ Nv W (.slice o1 l1 k1) p.x L ∧ Nv W (.slice o2 l2 k2) p.y L
theorem PtB.old {B : Nat} {W W' : World} {b : Nat} {p : Pz} {L : Nat} (h : PtB B W b p L) (hb : Below W.heap.size W W') : PtB B W' b p L := by
  obtain ⟨h0, o1, l1, k1, o2, l2, k2, h1, h2, h3⟩ := h
  exact ⟨h0, o1, l1, k1, o2, l2, k2, h1.keep hb, h2.old hb, h3.old hb⟩
/-- What 'p, ok := ..' leaves. -/
theorem pair_end {R : Option Pz → Prop} {L B : Nat} {W : World} {vs1 vs2 vs3 vs4 vs5 vs6 : List Value} (h1 : (Fk.pr R L).sem vs1 W) (h2 : Fk.same.sem vs2 W) (h3 : (Fk.ext 0).sem vs3 W) (h4 : (Fk.ext 1).sem vs4 W) (h5 : (Fk.sto B).sem vs5 W) (h6 : Fk.same.sem vs6 W)
    (e1 : vs2.getD 1 undef = vs1.getD 0 undef) (e2 : vs3.getD 1 undef = vs2.getD 0 undef) (e3 : vs4.getD 1 undef = vs2.getD 0 undef) (e4 : vs5.getD 1 undef = vs3.getD 0 undef) (e5 : vs6.getD 1 undef = vs4.getD 0 undef) :
    ∃ r b, R r ∧ vs5.getD 0 undef = .pointer (some ⟨b, 0, none⟩) ∧ ((∃ p, r = some p ∧ vs6.getD 0 undef = .bool true ∧ PtB B W b p L) ∨ (r = none ∧ vs6.getD 0 undef = .bool false ∧ PtB B W b ⟨0, 0, false⟩ L)) := by
  obtain ⟨r, hr, hp⟩ := h1
  have h2' : vs2.getD 0 undef = vs2.getD 1 undef := h2
  have h6' : vs6.getD 0 undef = vs6.getD 1 undef := h6
  obtain ⟨t3, q3, q3'⟩ := h3
  obtain ⟨t4, q4, q4'⟩ := h4
  obtain ⟨c0, c1, c2, hc, b, o1, l1, k1, o2, l2, k2, bb, hb, hB, rfl, rfl, rfl, hs⟩ := h5
  rw [e2, h2', e1] at q3
  rw [e3, h2', e1] at q4
  rw [e4, q3'] at hc
  rw [e5, q4'] at h6'
  refine ⟨r, b, hr, hb, ?_⟩
  rcases hp with ⟨u, p, h7, h8, vx, vy, rfl, n1, n2⟩ | ⟨h7, h8⟩
  · left
    rw [h8] at q3 q4
    injection q3 with q3
    injection q4 with q4
    subst q3
    subst q4
    injection hc with hc
    have hl := congrArg Array.toList hc
    simp only [List.cons.injEq, and_true] at hl
    obtain ⟨rfl, rfl, hbb⟩ := hl
    injection hbb with hbb
    subst hbb
    exact ⟨p, h7, h6', hB, o1, l1, k1, o2, l2, k2, hs, n1, n2⟩
  · right
    rw [h8] at q3 q4
    injection q3 with q3
    injection q4 with q4
    subst q3
    subst q4
    injection hc with hc
    have hl := congrArg Array.toList hc
    simp only [List.cons.injEq, and_true] at hl
    obtain ⟨h9, h10, hbb⟩ := hl
    injection hbb with hbb
    subst hbb
    rw [← h9, ← h10] at hs
    exact ⟨h7, h6', hB, none, 0, 0, none, 0, 0, hs, nv_nil _ _, nv_nil _ _⟩
section
variable {P : Program} {ops : Array Oper} {Q : Exit → Act → World → Prop}
/-- An operation that only makes memory: what is asked of it. -/
theorem GInv.grow {rd : List (List Nat)} {fs : List Fk} {a0 : Act} {w0 : World} {listed : Array Bool} {a : Act} {w : World} (h : GInv .any ops rd (fs.map Fk.sem) a0 w0 listed a w) {i : Nat} {dst : Option Tmp} {KK : Act → World → Prop}
    (hK : ∀ v w', Below w0.heap.size w0 w' → (∀ j vs, listed.getD j false = true → (fs.map Fk.sem).getD j (fun _ _ => True) vs w → (fs.map Fk.sem).getD j (fun _ _ => True) vs w') → (fs.map Fk.sem).getD i (fun _ _ => True) ((rd.getD i []).map fun s => (a.put dst v).tmps.getD s undef) w' → KK (a.put dst v) w') (v : Value) (w' : World) (hb : Below w.heap.size w w') (hf : (fs.map Fk.sem).getD i (fun _ _ => True) ((rd.getD i []).map fun s => (a.put dst v).tmps.getD s undef) w') : KK (a.put dst v) w' :=
  hK v w' (h.below.trans (hb.mono h.below.size)) (fun j vs _ hj => fs_keep fs j vs hb hj) hf
/-- An operation that fills a box. -/
theorem GInv.fill {rd : List (List Nat)} {fs : List Fk} {a0 : Act} {w0 : World} {listed : Array Bool} {a : Act} {w : World} (h : GInv .any ops rd (fs.map Fk.sem) a0 w0 listed a w) {i : Nat} {dst : Option Tmp} {KK : Act → World → Prop}
    (hK : ∀ v w', Below w0.heap.size w0 w' → (∀ j vs, listed.getD j false = true → (fs.map Fk.sem).getD j (fun _ _ => True) vs w → (fs.map Fk.sem).getD j (fun _ _ => True) vs w') → (fs.map Fk.sem).getD i (fun _ _ => True) ((rd.getD i []).map fun s => (a.put dst v).tmps.getD s undef) w' → KK (a.put dst v) w') (hli : listed.getD i false = false) (v : Value) (r : Nat) {a1 a2 : Option Addr} {l1 k1 l2 k2 : Nat} {b : Bool} (hs : PSl w r (.slice a1 l1 k1) (.slice a2 l2 k2) (.bool b)) (b1 b2 : Option Addr) (m1 n1 m2 n2 : Nat) (b' : Bool) (hr : w0.heap.size ≤ r) (hbx : ∀ j, j ≠ i → (fs.map Fk.box').getD j true = true)
    (hf : (fs.map Fk.sem).getD i (fun _ _ => True) ((rd.getD i []).map fun s => (a.put dst v).tmps.getD s undef) (((w.setCell ⟨r, 0, none⟩ (.slice b1 m1 n1)).setCell ⟨r, 1, none⟩ (.slice b2 m2 n2)).setCell ⟨r, 2, none⟩ (.bool b'))) : KK (a.put dst v) (((w.setCell ⟨r, 0, none⟩ (.slice b1 m1 n1)).setCell ⟨r, 1, none⟩ (.slice b2 m2 n2)).setCell ⟨r, 2, none⟩ (.bool b')) :=
  hK v _ (h.below.trans ((Bt.set3 w r _ _ _).below hr h.below.size)) (fun j vs hl hj => fs_store fs j vs hs (hs.set3 _ _ _) (Bt.set3 w r _ _ _) (hbx j (by rintro rfl; rw [hli] at hl; cases hl)) hj) hf
theorem GInv.kept {md : Region.Mode} {rd : List (List Nat)} {Fs : List (List Value → World → Prop)} {a0 : Act} {w0 : World} {listed : Array Bool} {a : Act} {w : World} (h : GInv md ops rd Fs a0 w0 listed a w) (s : Nat) (hs : (List.range ops.size).all (fun j => !dstIs ops j s) = true) : a.tmps.getD s undef = a0.tmps.getD s undef := by
  refine h.old s fun j _ => ?_
  rw [List.all_eq_true] at hs
  by_cases hjs : j < ops.size
  · simpa using hs j (List.mem_range.2 hjs)
  · unfold dstIs
    rw [Array.getElem?_eq_none (by omega)]
end
end Go.Proofs.Ytcobbbamocdbbaa
/-
  The code's comesBack and Check.
-/
namespace Go.Proofs.Ytcobbbamocdbbaa
open Go.Shelf Go.RowKit
set_option linter.unusedVariables false
set_option linter.unusedSimpArgs false

def backB (K : Cz) (r : Option Pz) : Bool := match r with
  | none => false
  | some p => p.inf
theorem Cu.slices {w : World} {c : Value} {K : Cz} {L : Nat} (h : Cu w c K L) : ∃ (g1 g2 : Int) (oo : Option Addr) (lo co : Nat) (a1 : Option Addr) (a2 a3 : Nat) (b1 : Option Addr) (b2 b3 : Nat) (d1 : Option Addr) (d2 d3 : Nat) (e1 : Option Addr) (e2 e3 : Nat) (f1 : Option Addr) (f2 f3 : Nat) (j1 : Option Addr) (j2 j3 : Nat), c = .agg #[.int .i64 g1, .int .i64 g2, .slice oo lo co, .slice a1 a2 a3, .slice b1 b2 b3, .slice d1 d2 d3, .slice e1 e2 e3, .slice f1 f2 f3, .slice j1 j2 j3] ∧ Nv w (.slice a1 a2 a3) K.p L ∧ Nv w (.slice b1 b2 b3) K.a L ∧ Nv w (.slice d1 d2 d3) K.b L ∧ Nv w (.slice e1 e2 e3) K.gx L ∧ Nv w (.slice f1 f2 f3) K.gy L ∧ Nv w (.slice j1 j2 j3) K.n L := by
  obtain ⟨g1, g2, oo, lo, co, vp, va, vb, vx, vy, vn, rfl, c1, c2, c3, c4, c5, c6⟩ := h
  obtain ⟨a1, a2, a3, a4, rfl, a5⟩ := c1
  obtain ⟨b1, b2, b3, b4, rfl, b5⟩ := c2
  obtain ⟨d1, d2, d3, d4, rfl, d5⟩ := c3
  obtain ⟨e1, e2, e3, e4, rfl, e5⟩ := c4
  obtain ⟨f1, f2, f3, f4, rfl, f5⟩ := c5
  obtain ⟨j1, j2, j3, j4, rfl, j5⟩ := c6
  exact ⟨g1, g2, oo, lo, co, a1, a2, a3, b1, b2, b3, d1, d2, d3, e1, e2, e3, f1, f2, f3, j1, j2, j3, rfl, ⟨a1, a2, a3, a4, rfl, a5⟩, ⟨b1, b2, b3, b4, rfl, b5⟩, ⟨d1, d2, d3, d4, rfl, d5⟩, ⟨e1, e2, e3, e4, rfl, e5⟩, ⟨f1, f2, f3, f4, rfl, f5⟩, ⟨j1, j2, j3, j4, rfl, j5⟩⟩
/-- The cells of a box with nine values. -/
theorem cells9 {W : World} {g : Nat} {v0 v1 v2 v3 v4 v5 v6 v7 v8 : Value} {t : TypeId} (h : W.heap[g]? = some (.cells #[v0, v1, v2, v3, v4, v5, v6, v7, v8] t (0, 0))) : W.cell? ⟨g, 0, none⟩ = some v0 ∧ W.cell? ⟨g, 1, none⟩ = some v1 ∧ W.cell? ⟨g, 2, none⟩ = some v2 ∧ W.cell? ⟨g, 3, none⟩ = some v3 ∧ W.cell? ⟨g, 4, none⟩ = some v4 ∧ W.cell? ⟨g, 5, none⟩ = some v5 ∧ W.cell? ⟨g, 6, none⟩ = some v6 ∧ W.cell? ⟨g, 7, none⟩ = some v7 ∧ W.cell? ⟨g, 8, none⟩ = some v8 := by
  refine ⟨?_, ?_, ?_, ?_, ?_, ?_, ?_, ?_, ?_⟩ <;> (rw [cell_of_row _ _ _ _ _ _ h]; rfl)
set_option maxRecDepth 100000 in
set_option maxHeartbeats 4000000 in
theorem back_any (c : Value) (K : Cz) (L : Nat) (w : World) (hc : Cu w c K L) (h0 : K.p ≠ 0) (hL : 1 ≤ L ∧ L ≤ 70) :
    Calls Try.prog 42 #[c] w fun e w' => ∃ r, MulZ K (baseZ K) (bitsOf K.n (blen K.n.toNat) (blen K.n.toNat)) r ∧ e = .returned (.bool (backB K r)) ∧ Below w.heap.size w w' := by
  have HCU : Hid (Cu w c K L) := hc
  obtain ⟨g1, g2, oo, lo, co, a1, a2, a3, b1, b2, b3, d1, d2, d3, e1, e2, e3, f1, f2, f3, j1, j2, j3, rfl, -, -, -, -, -, c6⟩ := hc.slices
  have HN : Hid (Nv w (.slice j1 j2 j3) K.n L) := c6
  obtain ⟨W0, hW0⟩ : ∃ W0, w.alloc (.cells #[.int .i64 g1, .int .i64 g2, .slice oo lo co, .slice a1 a2 a3, .slice b1 b2 b3, .slice d1 d2 d3, .slice e1 e2 e3, .slice f1 f2 f3, .slice j1 j2 j3] 29) = W0 := ⟨_, rfl⟩
  have HW : Hid (W0.heap[w.heap.size]? = some (.cells #[.int .i64 g1, .int .i64 g2, .slice oo lo co, .slice a1 a2 a3, .slice b1 b2 b3, .slice d1 d2 d3, .slice e1 e2 e3, .slice f1 f2 f3, .slice j1 j2 j3] 29 (0, 0)) ∧ Below w.heap.size w W0) := by rw [← hW0]; exact ⟨heap_alloc_new w _, (Below.refl _ _).alloc (Nat.le_refl _) _⟩
  clear hc c6
  go_enter Try.func42, Try.ntmps42
  go_wp2_with fail

  clear hW0
  refine wp_region_frames 9 [[6], [7], [8], [9], [10], [11], [5, 11], [12, 5], [13, 5], [3], [3, 12], [4, 13]] (([.eq (Value.agg #[Value.int IntKind.i64 g1, Value.int IntKind.i64 g2, Value.slice oo lo co, Value.slice a1 a2 a3, Value.slice b1 b2 b3, Value.slice d1 d2 d3, Value.slice e1 e2 e3, Value.slice f1 f2 f3, Value.slice j1 j2 j3]), .eq (Value.pointer (some { block := w.heap.size, off := 8 })), .eq (Value.slice j1 j2 j3), .eq (Value.agg #[Value.int IntKind.i64 g1, Value.int IntKind.i64 g2, Value.slice oo lo co, Value.slice a1 a2 a3, Value.slice b1 b2 b3, Value.slice d1 d2 d3, Value.slice e1 e2 e3, Value.slice f1 f2 f3, Value.slice j1 j2 j3]), .pv (fun p => p = baseZ K) L, .pr (fun r => MulZ K (baseZ K) (bitsOf K.n (blen K.n.toNat) (blen K.n.toNat)) r) L, .same, .ext 0, .ext 1, .box W0.heap.size, .sto W0.heap.size, .same] : List Fk).map Fk.sem) [0, 1, 2, 3, 4, 5, 6, 7, 8, 9, 10, 11] (by kernel_rfl) (by kernel_rfl) (by kernel_rfl) ?step ?done
  case step =>
    intro i o ho listed a wx hI hli hne KK hK
    have hlt : i < 12 := (Array.getElem?_eq_some_iff.1 ho).1
    have hsz : Hid (a.tmps.size = 19) := hI.slots
    have hbw : Below W0.heap.size W0 wx := (Below.refl _ _).drew.trans hI.below
    obtain rfl | rfl | rfl | rfl | rfl | rfl | rfl | rfl | rfl | rfl | rfl | rfl : i = 0 ∨ i = 1 ∨ i = 2 ∨ i = 3 ∨ i = 4 ∨ i = 5 ∨ i = 6 ∨ i = 7 ∨ i = 8 ∨ i = 9 ∨ i = 10 ∨ i = 11 := by omega
    · simp only [List.getElem?_toArray, List.getElem?_cons_succ, List.getElem?_cons_zero, Option.some.injEq] at ho
      subst ho
      rw [if_pos (by rfl)]
      have eH1 : a.tmps.getD 1 undef = Value.pointer (some { block := w.heap.size, off := 0 }) := hI.stays hli 9 1 (by decide +kernel)
      obtain ⟨c0, c1, c2, c3, c4, c5, c6, c7, c8⟩ := cells9 (blk_old HW.out.1 hbw)
      go_simp
      exact hI.grow hK _ _ (Below.refl _ _) (put_self _ _ _ (by rw [hsz.out]; decide))
    · simp only [List.getElem?_toArray, List.getElem?_cons_succ, List.getElem?_cons_zero, Option.some.injEq] at ho
      subst ho
      rw [if_pos (by rfl)]
      have eH1 : a.tmps.getD 1 undef = Value.pointer (some { block := w.heap.size, off := 0 }) := hI.stays hli 9 1 (by decide +kernel)
      go_simp
      exact hI.grow hK _ _ (Below.refl _ _) (put_self _ _ _ (by rw [hsz.out]; decide))
    · simp only [List.getElem?_toArray, List.getElem?_cons_succ, List.getElem?_cons_zero, Option.some.injEq] at ho
      subst ho
      rw [if_pos (by rfl)]
      have eH7 : a.tmps.getD 7 undef = (Value.pointer (some { block := w.heap.size, off := 8 })) := hI.deep hne 9 1 (by decide +kernel)
      obtain ⟨c0, c1, c2, c3, c4, c5, c6, c7, c8⟩ := cells9 (blk_old HW.out.1 hbw)
      go_simp
      exact hI.grow hK _ _ (Below.refl _ _) (put_self _ _ _ (by rw [hsz.out]; decide))
    · simp only [List.getElem?_toArray, List.getElem?_cons_succ, List.getElem?_cons_zero, Option.some.injEq] at ho
      subst ho
      rw [if_pos (by rfl)]
      have eH1 : a.tmps.getD 1 undef = Value.pointer (some { block := w.heap.size, off := 0 }) := hI.stays hli 9 1 (by decide +kernel)
      obtain ⟨c0, c1, c2, c3, c4, c5, c6, c7, c8⟩ := cells9 (blk_old HW.out.1 hbw)
      go_simp
      exact hI.grow hK _ _ (Below.refl _ _) (put_self _ _ _ (by rw [hsz.out]; decide))
    · simp only [List.getElem?_toArray, List.getElem?_cons_succ, List.getElem?_cons_zero, Option.some.injEq] at ho
      subst ho
      rw [if_pos (by rfl)]
      have eH9 : a.tmps.getD 9 undef = (Value.agg #[Value.int IntKind.i64 g1, Value.int IntKind.i64 g2, Value.slice oo lo co, Value.slice a1 a2 a3, Value.slice b1 b2 b3, Value.slice d1 d2 d3, Value.slice e1 e2 e3, Value.slice f1 f2 f3, Value.slice j1 j2 j3]) := hI.deep hne 9 3 (by decide +kernel)
      go_simp
      go_at_call 27
      refine (Base_any _ K L wx (HCU.out.old (HW.out.2.trans (hbw.mono HW.out.2.size)))).mono ?_
      rintro e w5 ⟨v5, rfl, hv5, hb5⟩
      exact hI.grow hK _ _ hb5 ⟨_, rfl, by have hp := put_self a 10 v5 (by rw [hsz.out]; decide); show Pv w5 ((a.put (some 10) v5).tmps.getD 10 undef) _ _; rw [hp]; exact hv5⟩
    · simp only [List.getElem?_toArray, List.getElem?_cons_succ, List.getElem?_cons_zero, Option.some.injEq] at ho
      subst ho
      rw [if_pos (by rfl)]
      have eH6 : a.tmps.getD 6 undef = (Value.agg #[Value.int IntKind.i64 g1, Value.int IntKind.i64 g2, Value.slice oo lo co, Value.slice a1 a2 a3, Value.slice b1 b2 b3, Value.slice d1 d2 d3, Value.slice e1 e2 e3, Value.slice f1 f2 f3, Value.slice j1 j2 j3]) := hI.deep hne 9 0 (by decide +kernel)
      have eH8 : a.tmps.getD 8 undef = (Value.slice j1 j2 j3) := hI.deep hne 9 2 (by decide +kernel)
      have fA4 : Fk.sem (.pv (fun p => p = baseZ K) L) [a.tmps.getD 10 undef] wx := hI.deep hne 9 4 (by decide +kernel)
      obtain ⟨zX10, eH10⟩ : ∃ x, a.tmps.getD 10 undef = x := ⟨_, rfl⟩
      simp only [eH10] at fA4
      obtain ⟨pz, rfl, hpv⟩ := fA4
      have hpv' : Pv wx zX10 (baseZ K) L := hpv
      clear hpv
      go_simp
      go_at_call 28
      refine (Mul_pt _ _ _ K K.n (baseZ K) L wx (HCU.out.old (HW.out.2.trans (hbw.mono HW.out.2.size))) (HN.out.old (HW.out.2.trans (hbw.mono HW.out.2.size))) hpv' hL h0).mono ?_
      rintro e w5 ⟨r, hr, hpa⟩
      obtain ⟨hb5, v5, rfl, hpr⟩ := hpa.pr
      exact hI.grow hK _ _ hb5 ⟨_, hr, by have hp := put_self a 11 v5 (by rw [hsz.out]; decide); show Pr w5 ((a.put (some 11) v5).tmps.getD 11 undef) _ _; rw [hp]; exact hpr⟩
    · simp only [List.getElem?_toArray, List.getElem?_cons_succ, List.getElem?_cons_zero, Option.some.injEq] at ho
      subst ho
      rw [if_pos (by rfl)]
      have fA5 : Fk.sem (.pr (fun r => MulZ K (baseZ K) (bitsOf K.n (blen K.n.toNat) (blen K.n.toNat)) r) L) [a.tmps.getD 11 undef] wx := hI.deep hne 9 5 (by decide +kernel)
      obtain ⟨zX11, eH11⟩ : ∃ x, a.tmps.getD 11 undef = x := ⟨_, rfl⟩
      simp only [eH11] at fA5
      have eK11 := eH11
      rw [Array.getD_eq_getD_getElem?] at eK11
      go_simp
      exact hI.grow hK _ _ (Below.refl _ _) ((put_self _ _ _ (by rw [hsz.out]; decide)).trans ((put_get _ _ _ _ (by decide)).trans eH11).symm)
    · simp only [List.getElem?_toArray, List.getElem?_cons_succ, List.getElem?_cons_zero, Option.some.injEq] at ho
      subst ho
      rw [if_pos (by rfl)]
      have fA5 : Fk.sem (.pr (fun r => MulZ K (baseZ K) (bitsOf K.n (blen K.n.toNat) (blen K.n.toNat)) r) L) [a.tmps.getD 11 undef] wx := hI.deep hne 9 5 (by decide +kernel)
      have fA6 : Fk.sem (.same) [a.tmps.getD 5 undef, a.tmps.getD 11 undef] wx := hI.deep hne 9 6 (by decide +kernel)
      obtain ⟨zX5, eH5⟩ : ∃ x, a.tmps.getD 5 undef = x := ⟨_, rfl⟩
      obtain ⟨zX11, eH11⟩ : ∃ x, a.tmps.getD 11 undef = x := ⟨_, rfl⟩
      simp only [eH5, eH11] at fA5 fA6
      have eG5 : zX5 = zX11 := fA6
      obtain ⟨rr, hrr, hpr⟩ := fA5
      obtain ⟨pP1, pP2, pP3, pP4, pP5, pP6, pP7, pP8, hpp⟩ := hpr.parts
      have hT : zX5 = .tuple #[.agg #[.slice pP1 pP2 pP3, .slice pP4 pP5 pP6, .bool pP7], .bool pP8] := eG5.trans (hpp)
      clear hpp hpr eG5
      subst hT
      have eK5 := eH5
      rw [Array.getD_eq_getD_getElem?] at eK5
      go_simp
      exact hI.grow hK (.agg #[.slice pP1 pP2 pP3, .slice pP4 pP5 pP6, .bool pP7]) _ (Below.refl _ _) ⟨_, (put_get _ _ _ _ (by decide)).trans eH5, put_self _ _ _ (by rw [hsz.out]; decide)⟩
    · simp only [List.getElem?_toArray, List.getElem?_cons_succ, List.getElem?_cons_zero, Option.some.injEq] at ho
      subst ho
      rw [if_pos (by rfl)]
      have fA5 : Fk.sem (.pr (fun r => MulZ K (baseZ K) (bitsOf K.n (blen K.n.toNat) (blen K.n.toNat)) r) L) [a.tmps.getD 11 undef] wx := hI.deep hne 9 5 (by decide +kernel)
      have fA6 : Fk.sem (.same) [a.tmps.getD 5 undef, a.tmps.getD 11 undef] wx := hI.deep hne 9 6 (by decide +kernel)
      obtain ⟨zX5, eH5⟩ : ∃ x, a.tmps.getD 5 undef = x := ⟨_, rfl⟩
      obtain ⟨zX11, eH11⟩ : ∃ x, a.tmps.getD 11 undef = x := ⟨_, rfl⟩
      simp only [eH5, eH11] at fA5 fA6
      have eG5 : zX5 = zX11 := fA6
      obtain ⟨rr, hrr, hpr⟩ := fA5
      obtain ⟨pP1, pP2, pP3, pP4, pP5, pP6, pP7, pP8, hpp⟩ := hpr.parts
      have hT : zX5 = .tuple #[.agg #[.slice pP1 pP2 pP3, .slice pP4 pP5 pP6, .bool pP7], .bool pP8] := eG5.trans (hpp)
      clear hpp hpr eG5
      subst hT
      have eK5 := eH5
      rw [Array.getD_eq_getD_getElem?] at eK5
      go_simp
      exact hI.grow hK (.bool pP8) _ (Below.refl _ _) ⟨_, (put_get _ _ _ _ (by decide)).trans eH5, put_self _ _ _ (by rw [hsz.out]; decide)⟩
    · simp only [List.getElem?_toArray, List.getElem?_cons_succ, List.getElem?_cons_zero, Option.some.injEq] at ho
      subst ho
      rw [if_pos (by rfl)]
      go_simp
      exact hI.grow hK _ _ ((Below.refl _ _).alloc (Nat.le_refl _) _) ⟨_, _, _, wx.heap.size, _, _, _, _, _, _, _, put_self _ _ _ (by rw [hsz.out]; decide), hbw.size, rfl, rfl, rfl, heap_alloc_new _ _⟩
    · simp only [List.getElem?_toArray, List.getElem?_cons_succ, List.getElem?_cons_zero, Option.some.injEq] at ho
      subst ho
      rw [if_pos (by rfl)]
      have fA5 : Fk.sem (.pr (fun r => MulZ K (baseZ K) (bitsOf K.n (blen K.n.toNat) (blen K.n.toNat)) r) L) [a.tmps.getD 11 undef] wx := hI.deep hne 9 5 (by decide +kernel)
      have fA6 : Fk.sem (.same) [a.tmps.getD 5 undef, a.tmps.getD 11 undef] wx := hI.deep hne 9 6 (by decide +kernel)
      have fA7 : Fk.sem (.ext 0) [a.tmps.getD 12 undef, a.tmps.getD 5 undef] wx := hI.deep hne 9 7 (by decide +kernel)
      have fA9 : Fk.sem (.box W0.heap.size) [a.tmps.getD 3 undef] wx := hI.deep hne 9 9 (by decide +kernel)
      obtain ⟨zX3, eH3⟩ : ∃ x, a.tmps.getD 3 undef = x := ⟨_, rfl⟩
      obtain ⟨zX12, eH12⟩ : ∃ x, a.tmps.getD 12 undef = x := ⟨_, rfl⟩
      obtain ⟨zX5, eH5⟩ : ∃ x, a.tmps.getD 5 undef = x := ⟨_, rfl⟩
      obtain ⟨zX11, eH11⟩ : ∃ x, a.tmps.getD 11 undef = x := ⟨_, rfl⟩
      simp only [eH3, eH12, eH5, eH11] at fA5 fA6 fA7 fA9
      have eG5 : zX5 = zX11 := fA6
      obtain ⟨rr, hrr, hpr⟩ := fA5
      obtain ⟨pP1, pP2, pP3, pP4, pP5, pP6, pP7, pP8, hpp⟩ := hpr.parts
      have hT : zX5 = .tuple #[.agg #[.slice pP1 pP2 pP3, .slice pP4 pP5 pP6, .bool pP7], .bool pP8] := eG5.trans (hpp)
      clear hpp hpr eG5
      obtain ⟨tt, ht1, ht2⟩ := fA7
      have ht1' : zX5 = .tuple tt := ht1
      rw [hT] at ht1'
      injection ht1' with ht1'
      subst ht1'
      have hP : zX12 = .agg #[.slice pP1 pP2 pP3, .slice pP4 pP5 pP6, .bool pP7] := ht2
      subst hP
      obtain ⟨q0, q1, q2, bx, r1, r2, r3, r4, r5, r6, r7, hx, hbx, rfl, rfl, rfl, hs⟩ := fA9
      have hx' : zX3 = .pointer (some ⟨bx, 0, none⟩) := hx
      subst hx'
      obtain ⟨y0, y1, y2, y3, y4, y5⟩ := hs.facts
      clear hx
      have eK3 := eH3
      have eK12 := eH12
      rw [Array.getD_eq_getD_getElem?] at eK3 eK12
      go_simp
      exact hI.fill hK hli undef bx hs _ _ _ _ _ _ _ hbx (by intro j hj; revert hj; revert j; exact box_but 10 _ (by kernel_rfl)) ⟨_, _, _, eH12, bx, _, _, _, _, _, _, _, eH3, hbx, rfl, rfl, rfl, hs.set3 _ _ _⟩
    · simp only [List.getElem?_toArray, List.getElem?_cons_succ, List.getElem?_cons_zero, Option.some.injEq] at ho
      subst ho
      rw [if_pos (by rfl)]
      have fA5 : Fk.sem (.pr (fun r => MulZ K (baseZ K) (bitsOf K.n (blen K.n.toNat) (blen K.n.toNat)) r) L) [a.tmps.getD 11 undef] wx := hI.deep hne 9 5 (by decide +kernel)
      have fA6 : Fk.sem (.same) [a.tmps.getD 5 undef, a.tmps.getD 11 undef] wx := hI.deep hne 9 6 (by decide +kernel)
      have fA8 : Fk.sem (.ext 1) [a.tmps.getD 13 undef, a.tmps.getD 5 undef] wx := hI.deep hne 9 8 (by decide +kernel)
      obtain ⟨zX13, eH13⟩ : ∃ x, a.tmps.getD 13 undef = x := ⟨_, rfl⟩
      obtain ⟨zX5, eH5⟩ : ∃ x, a.tmps.getD 5 undef = x := ⟨_, rfl⟩
      obtain ⟨zX11, eH11⟩ : ∃ x, a.tmps.getD 11 undef = x := ⟨_, rfl⟩
      simp only [eH13, eH5, eH11] at fA5 fA6 fA8
      have eK13 := eH13
      have eK5 := eH5
      have eK11 := eH11
      rw [Array.getD_eq_getD_getElem?] at eK13 eK5 eK11
      go_simp
      exact hI.grow hK _ _ (Below.refl _ _) ((put_self _ _ _ (by rw [hsz.out]; decide)).trans ((put_get _ _ _ _ (by decide)).trans eH13).symm)
  case done =>
    intro listed a W hI hall
    obtain ⟨tm, df⟩ := a
    have hdf : df = [] := hI.defers
    subst hdf
    have hTM : tm = #[tm.getD 0 undef, tm.getD 1 undef, tm.getD 2 undef, tm.getD 3 undef, tm.getD 4 undef, tm.getD 5 undef, tm.getD 6 undef, tm.getD 7 undef, tm.getD 8 undef, tm.getD 9 undef, tm.getD 10 undef, tm.getD 11 undef, tm.getD 12 undef, tm.getD 13 undef, tm.getD 14 undef, tm.getD 15 undef, tm.getD 16 undef, tm.getD 17 undef, tm.getD 18 undef] := arr_of tm 19 hI.slots
    have oS0 : tm.getD 0 undef = Value.agg #[Value.int IntKind.i64 g1, Value.int IntKind.i64 g2, Value.slice oo lo co, Value.slice a1 a2 a3, Value.slice b1 b2 b3, Value.slice d1 d2 d3, Value.slice e1 e2 e3, Value.slice f1 f2 f3, Value.slice j1 j2 j3] := hI.kept 0 (by decide +kernel)
    have oS1 : tm.getD 1 undef = Value.pointer (some { block := w.heap.size, off := 0 }) := hI.kept 1 (by decide +kernel)
    have oS2 : tm.getD 2 undef = Value.bool false := hI.kept 2 (by decide +kernel)
    have oS14 : tm.getD 14 undef = undef := hI.kept 14 (by decide +kernel)
    have oS15 : tm.getD 15 undef = undef := hI.kept 15 (by decide +kernel)
    have oS16 : tm.getD 16 undef = undef := hI.kept 16 (by decide +kernel)
    have oS17 : tm.getD 17 undef = undef := hI.kept 17 (by decide +kernel)
    have oS18 : tm.getD 18 undef = undef := hI.kept 18 (by decide +kernel)
    have fA5 : Fk.sem (.pr (fun r => MulZ K (baseZ K) (bitsOf K.n (blen K.n.toNat) (blen K.n.toNat)) r) L) [tm.getD 11 undef] W := hI.facts 5 (hall 5 (by decide))
    have fA6 : Fk.sem (.same) [tm.getD 5 undef, tm.getD 11 undef] W := hI.facts 6 (hall 6 (by decide))
    have fA7 : Fk.sem (.ext 0) [tm.getD 12 undef, tm.getD 5 undef] W := hI.facts 7 (hall 7 (by decide))
    have fA8 : Fk.sem (.ext 1) [tm.getD 13 undef, tm.getD 5 undef] W := hI.facts 8 (hall 8 (by decide))
    have fA10 : Fk.sem (.sto W0.heap.size) [tm.getD 3 undef, tm.getD 12 undef] W := hI.facts 10 (hall 10 (by decide))
    have fA11 : Fk.sem (.same) [tm.getD 4 undef, tm.getD 13 undef] W := hI.facts 11 (hall 11 (by decide))
    have fA0 : tm.getD 6 undef = (Value.agg #[Value.int IntKind.i64 g1, Value.int IntKind.i64 g2, Value.slice oo lo co, Value.slice a1 a2 a3, Value.slice b1 b2 b3, Value.slice d1 d2 d3, Value.slice e1 e2 e3, Value.slice f1 f2 f3, Value.slice j1 j2 j3]) := hI.facts 0 (hall 0 (by decide))
    have fA1 : tm.getD 7 undef = (Value.pointer (some { block := w.heap.size, off := 8 })) := hI.facts 1 (hall 1 (by decide))
    have fA2 : tm.getD 8 undef = (Value.slice j1 j2 j3) := hI.facts 2 (hall 2 (by decide))
    have fA3 : tm.getD 9 undef = (Value.agg #[Value.int IntKind.i64 g1, Value.int IntKind.i64 g2, Value.slice oo lo co, Value.slice a1 a2 a3, Value.slice b1 b2 b3, Value.slice d1 d2 d3, Value.slice e1 e2 e3, Value.slice f1 f2 f3, Value.slice j1 j2 j3]) := hI.facts 3 (hall 3 (by decide))
    have hbw : Below W0.heap.size W0 W := (Below.refl _ _).drew.trans hI.below
    clear hI hall listed
    simp only [oS0, oS1, oS2, oS14, oS15, oS16, oS17, oS18, fA0, fA1, fA2, fA3] at hTM
    clear oS0 oS1 oS2 oS14 oS15 oS16 oS17 oS18 fA0 fA1 fA2 fA3
    generalize tm.getD 3 undef = zX3 at hTM fA10
    generalize tm.getD 4 undef = zX4 at hTM fA11
    generalize tm.getD 5 undef = zX5 at hTM fA6 fA7 fA8
    generalize tm.getD 10 undef = zX10 at hTM 
    generalize tm.getD 11 undef = zX11 at hTM fA5 fA6
    generalize tm.getD 12 undef = zX12 at hTM fA7 fA10
    generalize tm.getD 13 undef = zX13 at hTM fA8 fA11
    subst hTM
    obtain ⟨r, b, hr, hb3, hr2⟩ := pair_end fA5 fA6 fA7 fA8 fA10 fA11 rfl rfl rfl rfl rfl
    have hb3' : zX3 = .pointer (some ⟨b, 0, none⟩) := hb3
    subst hb3'
    clear fA5 fA6 fA7 fA8 fA10 fA11
    have HR : Hid (MulZ K (baseZ K) (bitsOf K.n (blen K.n.toNat) (blen K.n.toNat)) r ∧ Below w.heap.size w W) := ⟨hr, HW.out.2.trans (hbw.mono HW.out.2.size)⟩
    clear hr hb3 hbw HCU HN HW
    rcases hr2 with ⟨p, rfl, h4, _, o1, l1, k1, o2, l2, k2, hs, _, _⟩ | ⟨rfl, h4, _, o1, l1, k1, o2, l2, k2, hs, _, _⟩
    all_goals
      have h4' : zX4 = _ := h4
      subst h4'
      obtain ⟨y0, y1, y2, _, _, _⟩ := hs.facts
      clear h4 hs
    · go_wp2
      go_ret
      exact ⟨_, HR.out.1, rfl, HR.out.2⟩
    · go_wp2
      go_ret
      exact ⟨_, HR.out.1, rfl, HR.out.2⟩
end Go.Proofs.Ytcobbbamocdbbaa
/-
  The code's Check, of a right curve.
-/
namespace Go.Proofs.Ytcobbbamocdbbaa
open Go.Shelf Go.RowKit
set_option linter.unusedVariables false
set_option linter.unusedSimpArgs false

set_option maxRecDepth 100000 in
set_option maxHeartbeats 4000000 in
theorem Check_yes (c : Value) (K : Cz) (L : Nat) (w : World) (hc : Cu w c K L) (hL : 1 ≤ L ∧ L ≤ 70) (h0 : K.p ≠ 0) (h1 : sizedB K = true) (h2 : reducedB K = true) (h3 : discZ K ≠ 0) (h4 : onB K (baseZ K) = true) (h5 : ∀ r, MulZ K (baseZ K) (bitsOf K.n (blen K.n.toNat) (blen K.n.toNat)) r → backB K r = true) :
    Calls Try.prog 14 #[c] w fun e w' => e = .returned (.int .i64 0) ∧ Below w.heap.size w w' := by
  have HCU : Hid (Cu w c K L) := hc
  obtain ⟨g1, g2, oo, lo, co, a1, a2, a3, b1, b2, b3, d1, d2, d3, e1, e2, e3, f1, f2, f3, j1, j2, j3, rfl, -, -, -, -, -, c6⟩ := hc.slices
  obtain ⟨W0, hW0⟩ : ∃ W0, w.alloc (.cells #[.int .i64 g1, .int .i64 g2, .slice oo lo co, .slice a1 a2 a3, .slice b1 b2 b3, .slice d1 d2 d3, .slice e1 e2 e3, .slice f1 f2 f3, .slice j1 j2 j3] 29) = W0 := ⟨_, rfl⟩
  have HW : Hid (W0.heap[w.heap.size]? = some (.cells #[.int .i64 g1, .int .i64 g2, .slice oo lo co, .slice a1 a2 a3, .slice b1 b2 b3, .slice d1 d2 d3, .slice e1 e2 e3, .slice f1 f2 f3, .slice j1 j2 j3] 29 (0, 0)) ∧ Below w.heap.size w W0) := by rw [← hW0]; exact ⟨heap_alloc_new w _, (Below.refl _ _).alloc (Nat.le_refl _) _⟩
  obtain ⟨c0, c1, c2, c3, c4, c5, c6, c7, c8⟩ := cells9 HW.out.1
  clear hc
  go_enter Try.func14, Try.ntmps14
  go_wp2_with fail
  clear c0 c1 c2 c3 c4 c5 c6 c7 c8
  go_at_call 38
  refine (sized_any _ K L W0 (HCU.out.old (HW.out.2.trans ((Below.refl W0.heap.size W0).mono HW.out.2.size))) (by omega)).mono ?_
  rintro e w1 ⟨rfl, hb1⟩
  have Bw1 : Below W0.heap.size W0 w1 := hb1
  obtain ⟨c0, c1, c2, c3, c4, c5, c6, c7, c8⟩ := cells9 (blk_old HW.out.1 Bw1)
  rw [h1]
  go_wp2_with fail
  clear c0 c1 c2 c3 c4 c5 c6 c7 c8
  go_at_call 39
  refine (reduced_any _ K L w1 (HCU.out.old (HW.out.2.trans (Bw1.mono HW.out.2.size)))).mono ?_
  rintro e w2 ⟨rfl, hb2⟩
  have Bw2 : Below W0.heap.size W0 w2 := Bw1.trans (hb2.mono Bw1.size)
  obtain ⟨c0, c1, c2, c3, c4, c5, c6, c7, c8⟩ := cells9 (blk_old HW.out.1 Bw2)
  rw [h2]
  go_wp2_with fail
  clear c0 c1 c2 c3 c4 c5 c6 c7 c8
  refine wp_region_frames 15 [[11], [12], [13], [14], [15], [16], [17], [18], [19], [20], [21], [22], [23], [24], [25]] (([.eq (Value.agg #[Value.int IntKind.i64 g1, Value.int IntKind.i64 g2, Value.slice oo lo co, Value.slice a1 a2 a3, Value.slice b1 b2 b3, Value.slice d1 d2 d3, Value.slice e1 e2 e3, Value.slice f1 f2 f3, Value.slice j1 j2 j3]), .nv (fun n => n = discZ K) L, .eq (Value.bool false), .eq (Value.bool false), .eq (Value.agg #[Value.int IntKind.i64 g1, Value.int IntKind.i64 g2, Value.slice oo lo co, Value.slice a1 a2 a3, Value.slice b1 b2 b3, Value.slice d1 d2 d3, Value.slice e1 e2 e3, Value.slice f1 f2 f3, Value.slice j1 j2 j3]), .eq (Value.agg #[Value.int IntKind.i64 g1, Value.int IntKind.i64 g2, Value.slice oo lo co, Value.slice a1 a2 a3, Value.slice b1 b2 b3, Value.slice d1 d2 d3, Value.slice e1 e2 e3, Value.slice f1 f2 f3, Value.slice j1 j2 j3]), .pv (fun p => p = baseZ K) L, .eq (Value.bool true), .eq (Value.bool false), .eq (Value.bool false), .eq (Value.bool false), .eq (Value.agg #[Value.int IntKind.i64 g1, Value.int IntKind.i64 g2, Value.slice oo lo co, Value.slice a1 a2 a3, Value.slice b1 b2 b3, Value.slice d1 d2 d3, Value.slice e1 e2 e3, Value.slice f1 f2 f3, Value.slice j1 j2 j3]), .eq (Value.bool true), .eq (Value.bool false), .eq (Value.bool false)] : List Fk).map Fk.sem) [0, 1, 2, 3, 4, 5, 6, 7, 8, 9, 10, 11, 12, 13, 14] (by kernel_rfl) (by kernel_rfl) (by kernel_rfl) ?step ?done
  case step =>
    intro i o ho listed a wx hI hli hne KK hK
    have hlt : i < 15 := (Array.getElem?_eq_some_iff.1 ho).1
    have hsz : Hid (a.tmps.size = 26) := hI.slots
    have hbw : Below w2.heap.size w2 wx := (Below.refl _ _).drew.trans hI.below
    obtain rfl | rfl | rfl | rfl | rfl | rfl | rfl | rfl | rfl | rfl | rfl | rfl | rfl | rfl | rfl : i = 0 ∨ i = 1 ∨ i = 2 ∨ i = 3 ∨ i = 4 ∨ i = 5 ∨ i = 6 ∨ i = 7 ∨ i = 8 ∨ i = 9 ∨ i = 10 ∨ i = 11 ∨ i = 12 ∨ i = 13 ∨ i = 14 := by omega
    · simp only [List.getElem?_toArray, List.getElem?_cons_succ, List.getElem?_cons_zero, Option.some.injEq] at ho
      subst ho
      rw [if_pos (by rfl)]
      have eH1 : a.tmps.getD 1 undef = Value.pointer (some { block := w.heap.size, off := 0 }) := hI.stays hli 15 1 (by decide +kernel)
      obtain ⟨c0, c1, c2, c3, c4, c5, c6, c7, c8⟩ := cells9 (blk_old HW.out.1 (Bw2.trans (hbw.mono Bw2.size)))
      go_simp
      exact hI.grow hK _ _ (Below.refl _ _) (put_self _ _ _ (by rw [hsz.out]; decide))
    · simp only [List.getElem?_toArray, List.getElem?_cons_succ, List.getElem?_cons_zero, Option.some.injEq] at ho
      subst ho
      rw [if_pos (by rfl)]
      have eH11 : a.tmps.getD 11 undef = (Value.agg #[Value.int IntKind.i64 g1, Value.int IntKind.i64 g2, Value.slice oo lo co, Value.slice a1 a2 a3, Value.slice b1 b2 b3, Value.slice d1 d2 d3, Value.slice e1 e2 e3, Value.slice f1 f2 f3, Value.slice j1 j2 j3]) := hI.deep hne 15 0 (by decide +kernel)
      have hbz : Below w.heap.size w wx := HW.out.2.trans ((Bw2.trans (hbw.mono Bw2.size)).mono HW.out.2.size)
      go_simp
      go_at_call 41
      refine (disc_any _ K L wx (HCU.out.old hbz) h0 (by omega)).mono ?_
      rintro e w5 ⟨v5, rfl, hv5, hb5⟩
      exact hI.grow hK _ _ hb5 ⟨_, rfl, by have hp := put_self a 12 v5 (by rw [hsz.out]; decide); show Nv w5 ((a.put (some 12) v5).tmps.getD 12 undef) _ _; rw [hp]; exact hv5⟩
    · simp only [List.getElem?_toArray, List.getElem?_cons_succ, List.getElem?_cons_zero, Option.some.injEq] at ho
      subst ho
      rw [if_pos (by rfl)]
      have fA1 : Fk.sem (.nv (fun n => n = discZ K) L) [a.tmps.getD 12 undef] wx := hI.deep hne 15 1 (by decide +kernel)
      obtain ⟨zX12, eH12⟩ : ∃ x, a.tmps.getD 12 undef = x := ⟨_, rfl⟩
      simp only [eH12] at fA1
      obtain ⟨n, rfl, hn⟩ := fA1
      have hn' : Nv wx zX12 (discZ K) L := hn
      clear hn
      have HZ := isZero_any zX12 (discZ K) L wx hn'
      rw [show decide (discZ K = 0) = false by simp [h3]] at HZ
      go_simp
      go_at_call 40
      refine HZ.mono ?_
      rintro e w5 ⟨rfl, rfl⟩
      exact hI.grow hK _ _ (Below.refl _ _) (put_self _ _ _ (by rw [hsz.out]; decide))
    · simp only [List.getElem?_toArray, List.getElem?_cons_succ, List.getElem?_cons_zero, Option.some.injEq] at ho
      subst ho
      rw [if_pos (by rfl)]
      have eH13 : a.tmps.getD 13 undef = (Value.bool false) := hI.deep hne 15 2 (by decide +kernel)
      go_simp
      exact hI.grow hK _ _ (Below.refl _ _) (put_self _ _ _ (by rw [hsz.out]; decide))
    · simp only [List.getElem?_toArray, List.getElem?_cons_succ, List.getElem?_cons_zero, Option.some.injEq] at ho
      subst ho
      have eGd : a.tmps.getD 14 undef = (Value.bool false) := hI.deep hne 15 3 (by decide +kernel)
      rw [if_pos (by simp only [Region.wanted]; exact wanted_at rfl rfl eGd)]
      clear eGd
      have eH1 : a.tmps.getD 1 undef = Value.pointer (some { block := w.heap.size, off := 0 }) := hI.stays hli 15 1 (by decide +kernel)
      obtain ⟨c0, c1, c2, c3, c4, c5, c6, c7, c8⟩ := cells9 (blk_old HW.out.1 (Bw2.trans (hbw.mono Bw2.size)))
      go_simp
      exact hI.grow hK _ _ (Below.refl _ _) (put_self _ _ _ (by rw [hsz.out]; decide))
    · simp only [List.getElem?_toArray, List.getElem?_cons_succ, List.getElem?_cons_zero, Option.some.injEq] at ho
      subst ho
      have eGd : a.tmps.getD 14 undef = (Value.bool false) := hI.deep hne 15 3 (by decide +kernel)
      rw [if_pos (by simp only [Region.wanted]; exact wanted_at rfl rfl eGd)]
      clear eGd
      have eH1 : a.tmps.getD 1 undef = Value.pointer (some { block := w.heap.size, off := 0 }) := hI.stays hli 15 1 (by decide +kernel)
      obtain ⟨c0, c1, c2, c3, c4, c5, c6, c7, c8⟩ := cells9 (blk_old HW.out.1 (Bw2.trans (hbw.mono Bw2.size)))
      go_simp
      exact hI.grow hK _ _ (Below.refl _ _) (put_self _ _ _ (by rw [hsz.out]; decide))
    · simp only [List.getElem?_toArray, List.getElem?_cons_succ, List.getElem?_cons_zero, Option.some.injEq] at ho
      subst ho
      have eGd : a.tmps.getD 14 undef = (Value.bool false) := hI.deep hne 15 3 (by decide +kernel)
      rw [if_pos (by simp only [Region.wanted]; exact wanted_at rfl rfl eGd)]
      clear eGd
      have eH16 : a.tmps.getD 16 undef = (Value.agg #[Value.int IntKind.i64 g1, Value.int IntKind.i64 g2, Value.slice oo lo co, Value.slice a1 a2 a3, Value.slice b1 b2 b3, Value.slice d1 d2 d3, Value.slice e1 e2 e3, Value.slice f1 f2 f3, Value.slice j1 j2 j3]) := hI.deep hne 15 5 (by decide +kernel)
      have hbz : Below w.heap.size w wx := HW.out.2.trans ((Bw2.trans (hbw.mono Bw2.size)).mono HW.out.2.size)
      go_simp
      go_at_call 27
      refine (Base_any _ K L wx (HCU.out.old hbz)).mono ?_
      rintro e w5 ⟨v5, rfl, hv5, hb5⟩
      exact hI.grow hK _ _ hb5 ⟨_, rfl, by have hp := put_self a 17 v5 (by rw [hsz.out]; decide); show Pv w5 ((a.put (some 17) v5).tmps.getD 17 undef) _ _; rw [hp]; exact hv5⟩
    · simp only [List.getElem?_toArray, List.getElem?_cons_succ, List.getElem?_cons_zero, Option.some.injEq] at ho
      subst ho
      have eGd : a.tmps.getD 14 undef = (Value.bool false) := hI.deep hne 15 3 (by decide +kernel)
      rw [if_pos (by simp only [Region.wanted]; exact wanted_at rfl rfl eGd)]
      clear eGd
      have eH15 : a.tmps.getD 15 undef = (Value.agg #[Value.int IntKind.i64 g1, Value.int IntKind.i64 g2, Value.slice oo lo co, Value.slice a1 a2 a3, Value.slice b1 b2 b3, Value.slice d1 d2 d3, Value.slice e1 e2 e3, Value.slice f1 f2 f3, Value.slice j1 j2 j3]) := hI.deep hne 15 4 (by decide +kernel)
      have fA6 : Fk.sem (.pv (fun p => p = baseZ K) L) [a.tmps.getD 17 undef] wx := hI.deep hne 15 6 (by decide +kernel)
      obtain ⟨zX17, eH17⟩ : ∃ x, a.tmps.getD 17 undef = x := ⟨_, rfl⟩
      simp only [eH17] at fA6
      have hbz : Below w.heap.size w wx := HW.out.2.trans ((Bw2.trans (hbw.mono Bw2.size)).mono HW.out.2.size)
      obtain ⟨n, rfl, hn⟩ := fA6
      have hn' : Pv wx zX17 (baseZ K) L := hn
      clear hn
      go_simp
      go_at_call 30
      refine (On_any _ _ K (baseZ K) L wx (HCU.out.old hbz) hn' (by omega)).mono ?_
      rintro e w5 ⟨rfl, hb5⟩
      rw [h4]
      exact hI.grow hK _ _ hb5 (put_self _ _ _ (by rw [hsz.out]; decide))
    · simp only [List.getElem?_toArray, List.getElem?_cons_succ, List.getElem?_cons_zero, Option.some.injEq] at ho
      subst ho
      have eGd : a.tmps.getD 14 undef = (Value.bool false) := hI.deep hne 15 3 (by decide +kernel)
      rw [if_pos (by simp only [Region.wanted]; exact wanted_at rfl rfl eGd)]
      clear eGd
      have eH18 : a.tmps.getD 18 undef = (Value.bool true) := hI.deep hne 15 7 (by decide +kernel)
      go_simp
      exact hI.grow hK _ _ (Below.refl _ _) (put_self _ _ _ (by rw [hsz.out]; decide))
    · simp only [List.getElem?_toArray, List.getElem?_cons_succ, List.getElem?_cons_zero, Option.some.injEq] at ho
      subst ho
      rw [if_pos (by rfl)]
      have eH14 : a.tmps.getD 14 undef = (Value.bool false) := hI.deep hne 15 3 (by decide +kernel)
      have eH19 : a.tmps.getD 19 undef = (Value.bool false) := hI.deep hne 15 8 (by decide +kernel)
      go_simp
      exact hI.grow hK _ _ (Below.refl _ _) (put_self _ _ _ (by rw [hsz.out]; decide))
    · simp only [List.getElem?_toArray, List.getElem?_cons_succ, List.getElem?_cons_zero, Option.some.injEq] at ho
      subst ho
      rw [if_pos (by rfl)]
      have eH20 : a.tmps.getD 20 undef = (Value.bool false) := hI.deep hne 15 9 (by decide +kernel)
      go_simp
      exact hI.grow hK _ _ (Below.refl _ _) (put_self _ _ _ (by rw [hsz.out]; decide))
    · simp only [List.getElem?_toArray, List.getElem?_cons_succ, List.getElem?_cons_zero, Option.some.injEq] at ho
      subst ho
      have eGd : a.tmps.getD 21 undef = (Value.bool false) := hI.deep hne 15 10 (by decide +kernel)
      rw [if_pos (by simp only [Region.wanted]; exact wanted_at rfl rfl eGd)]
      clear eGd
      have eH1 : a.tmps.getD 1 undef = Value.pointer (some { block := w.heap.size, off := 0 }) := hI.stays hli 15 1 (by decide +kernel)
      obtain ⟨c0, c1, c2, c3, c4, c5, c6, c7, c8⟩ := cells9 (blk_old HW.out.1 (Bw2.trans (hbw.mono Bw2.size)))
      go_simp
      exact hI.grow hK _ _ (Below.refl _ _) (put_self _ _ _ (by rw [hsz.out]; decide))
    · simp only [List.getElem?_toArray, List.getElem?_cons_succ, List.getElem?_cons_zero, Option.some.injEq] at ho
      subst ho
      have eGd : a.tmps.getD 21 undef = (Value.bool false) := hI.deep hne 15 10 (by decide +kernel)
      rw [if_pos (by simp only [Region.wanted]; exact wanted_at rfl rfl eGd)]
      clear eGd
      have eH22 : a.tmps.getD 22 undef = (Value.agg #[Value.int IntKind.i64 g1, Value.int IntKind.i64 g2, Value.slice oo lo co, Value.slice a1 a2 a3, Value.slice b1 b2 b3, Value.slice d1 d2 d3, Value.slice e1 e2 e3, Value.slice f1 f2 f3, Value.slice j1 j2 j3]) := hI.deep hne 15 11 (by decide +kernel)
      have hbz : Below w.heap.size w wx := HW.out.2.trans ((Bw2.trans (hbw.mono Bw2.size)).mono HW.out.2.size)
      go_simp
      go_at_call 42
      refine (back_any _ K L wx (HCU.out.old hbz) h0 hL).mono ?_
      rintro e w5 ⟨r, hr, rfl, hb5⟩
      rw [h5 r hr]
      exact hI.grow hK _ _ hb5 (put_self _ _ _ (by rw [hsz.out]; decide))
    · simp only [List.getElem?_toArray, List.getElem?_cons_succ, List.getElem?_cons_zero, Option.some.injEq] at ho
      subst ho
      have eGd : a.tmps.getD 21 undef = (Value.bool false) := hI.deep hne 15 10 (by decide +kernel)
      rw [if_pos (by simp only [Region.wanted]; exact wanted_at rfl rfl eGd)]
      clear eGd
      have eH23 : a.tmps.getD 23 undef = (Value.bool true) := hI.deep hne 15 12 (by decide +kernel)
      go_simp
      exact hI.grow hK _ _ (Below.refl _ _) (put_self _ _ _ (by rw [hsz.out]; decide))
    · simp only [List.getElem?_toArray, List.getElem?_cons_succ, List.getElem?_cons_zero, Option.some.injEq] at ho
      subst ho
      rw [if_pos (by rfl)]
      have eH21 : a.tmps.getD 21 undef = (Value.bool false) := hI.deep hne 15 10 (by decide +kernel)
      have eH24 : a.tmps.getD 24 undef = (Value.bool false) := hI.deep hne 15 13 (by decide +kernel)
      go_simp
      exact hI.grow hK _ _ (Below.refl _ _) (put_self _ _ _ (by rw [hsz.out]; decide))
  case done =>
    intro listed a W hI hall
    obtain ⟨tm, df⟩ := a
    have hdf : df = [] := hI.defers
    subst hdf
    have hTM : tm = #[tm.getD 0 undef, tm.getD 1 undef, tm.getD 2 undef, tm.getD 3 undef, tm.getD 4 undef, tm.getD 5 undef, tm.getD 6 undef, tm.getD 7 undef, tm.getD 8 undef, tm.getD 9 undef, tm.getD 10 undef, tm.getD 11 undef, tm.getD 12 undef, tm.getD 13 undef, tm.getD 14 undef, tm.getD 15 undef, tm.getD 16 undef, tm.getD 17 undef, tm.getD 18 undef, tm.getD 19 undef, tm.getD 20 undef, tm.getD 21 undef, tm.getD 22 undef, tm.getD 23 undef, tm.getD 24 undef, tm.getD 25 undef] := arr_of tm 26 hI.slots
    have oS0 : tm.getD 0 undef = Value.agg #[Value.int IntKind.i64 g1, Value.int IntKind.i64 g2, Value.slice oo lo co, Value.slice a1 a2 a3, Value.slice b1 b2 b3, Value.slice d1 d2 d3, Value.slice e1 e2 e3, Value.slice f1 f2 f3, Value.slice j1 j2 j3] := hI.kept 0 (by decide +kernel)
    have oS1 : tm.getD 1 undef = Value.pointer (some { block := w.heap.size, off := 0 }) := hI.kept 1 (by decide +kernel)
    have oS2 : tm.getD 2 undef = Value.int IntKind.i64 0 := hI.kept 2 (by decide +kernel)
    have oS3 : tm.getD 3 undef = Value.agg #[Value.int IntKind.i64 g1, Value.int IntKind.i64 g2, Value.slice oo lo co, Value.slice a1 a2 a3, Value.slice b1 b2 b3, Value.slice d1 d2 d3, Value.slice e1 e2 e3, Value.slice f1 f2 f3, Value.slice j1 j2 j3] := hI.kept 3 (by decide +kernel)
    have oS4 : tm.getD 4 undef = Value.bool true := hI.kept 4 (by decide +kernel)
    have oS5 : tm.getD 5 undef = Value.bool false := hI.kept 5 (by decide +kernel)
    have oS6 : tm.getD 6 undef = Value.bool false := hI.kept 6 (by decide +kernel)
    have oS7 : tm.getD 7 undef = Value.agg #[Value.int IntKind.i64 g1, Value.int IntKind.i64 g2, Value.slice oo lo co, Value.slice a1 a2 a3, Value.slice b1 b2 b3, Value.slice d1 d2 d3, Value.slice e1 e2 e3, Value.slice f1 f2 f3, Value.slice j1 j2 j3] := hI.kept 7 (by decide +kernel)
    have oS8 : tm.getD 8 undef = Value.bool true := hI.kept 8 (by decide +kernel)
    have oS9 : tm.getD 9 undef = Value.bool false := hI.kept 9 (by decide +kernel)
    have oS10 : tm.getD 10 undef = Value.bool false := hI.kept 10 (by decide +kernel)
    have fA0 : tm.getD 11 undef = (Value.agg #[Value.int IntKind.i64 g1, Value.int IntKind.i64 g2, Value.slice oo lo co, Value.slice a1 a2 a3, Value.slice b1 b2 b3, Value.slice d1 d2 d3, Value.slice e1 e2 e3, Value.slice f1 f2 f3, Value.slice j1 j2 j3]) := hI.facts 0 (hall 0 (by decide))
    have fA2 : tm.getD 13 undef = (Value.bool false) := hI.facts 2 (hall 2 (by decide))
    have fA3 : tm.getD 14 undef = (Value.bool false) := hI.facts 3 (hall 3 (by decide))
    have fA4 : tm.getD 15 undef = (Value.agg #[Value.int IntKind.i64 g1, Value.int IntKind.i64 g2, Value.slice oo lo co, Value.slice a1 a2 a3, Value.slice b1 b2 b3, Value.slice d1 d2 d3, Value.slice e1 e2 e3, Value.slice f1 f2 f3, Value.slice j1 j2 j3]) := hI.facts 4 (hall 4 (by decide))
    have fA5 : tm.getD 16 undef = (Value.agg #[Value.int IntKind.i64 g1, Value.int IntKind.i64 g2, Value.slice oo lo co, Value.slice a1 a2 a3, Value.slice b1 b2 b3, Value.slice d1 d2 d3, Value.slice e1 e2 e3, Value.slice f1 f2 f3, Value.slice j1 j2 j3]) := hI.facts 5 (hall 5 (by decide))
    have fA7 : tm.getD 18 undef = (Value.bool true) := hI.facts 7 (hall 7 (by decide))
    have fA8 : tm.getD 19 undef = (Value.bool false) := hI.facts 8 (hall 8 (by decide))
    have fA9 : tm.getD 20 undef = (Value.bool false) := hI.facts 9 (hall 9 (by decide))
    have fA10 : tm.getD 21 undef = (Value.bool false) := hI.facts 10 (hall 10 (by decide))
    have fA11 : tm.getD 22 undef = (Value.agg #[Value.int IntKind.i64 g1, Value.int IntKind.i64 g2, Value.slice oo lo co, Value.slice a1 a2 a3, Value.slice b1 b2 b3, Value.slice d1 d2 d3, Value.slice e1 e2 e3, Value.slice f1 f2 f3, Value.slice j1 j2 j3]) := hI.facts 11 (hall 11 (by decide))
    have fA12 : tm.getD 23 undef = (Value.bool true) := hI.facts 12 (hall 12 (by decide))
    have fA13 : tm.getD 24 undef = (Value.bool false) := hI.facts 13 (hall 13 (by decide))
    have fA14 : tm.getD 25 undef = (Value.bool false) := hI.facts 14 (hall 14 (by decide))
    have hbw : Below w2.heap.size w2 W := (Below.refl _ _).drew.trans hI.below
    clear hI hall listed
    simp only [oS0, oS1, oS2, oS3, oS4, oS5, oS6, oS7, oS8, oS9, oS10, fA0, fA2, fA3, fA4, fA5, fA7, fA8, fA9, fA10, fA11, fA12, fA13, fA14] at hTM
    clear oS0 oS1 oS2 oS3 oS4 oS5 oS6 oS7 oS8 oS9 oS10 fA0 fA2 fA3 fA4 fA5 fA7 fA8 fA9 fA10 fA11 fA12 fA13 fA14
    generalize tm.getD 12 undef = zX12 at hTM 
    generalize tm.getD 17 undef = zX17 at hTM 
    subst hTM
    clear HCU
    have HB : Hid (Below w.heap.size w W) := HW.out.2.trans ((Bw2.trans (hbw.mono Bw2.size)).mono HW.out.2.size)
    clear hbw HW
    go_wp2
    go_ret
    exact ⟨rfl, HB.out⟩
end Go.Proofs.Ytcobbbamocdbbaa
/-
  Points of a curve in a ring without divisors of nothing: sums, in any order. No program in sight.
-/
namespace Go.Proofs.Ytcobbbamocdbbaa
set_option linter.unusedVariables false
set_option linter.unusedSimpArgs false

/-- A ring in which a product is 0 only if one of the two is, and 2 isn't. -/
structure Dom (P : Nat) [NeZero P] : Prop where
  dom : ∀ a b : Fin P, a * b = 0 → a = 0 ∨ b = 0
  two : ∀ a : Fin P, a + a = 0 → a = 0
variable {P : Nat} [NeZero P]
theorem Dom.cancel (D : Dom P) {a b c : Fin P} (h : a * b = a * c) (ha : ¬ a = 0) : b = c := by
  have h1 : a * (b - c) = 0 := by grind
  rcases D.dom _ _ h1 with h2 | h2
  · exact absurd h2 ha
  · grind
/-- A point is on the curve. -/
def OnR (A B : Fin P) : Option (Fin P × Fin P) → Prop
  | none => True
  | some (x, y) => y * y = x * x * x + A * x + B
/-- The line through two points. -/
def LineR (A x1 y1 x2 y2 l : Fin P) : Prop := y2 - y1 = l * (x2 - x1) ∧ l * (y1 + y2) = x1 * x1 + x1 * x2 + x2 * x2 + A
/-- The sum of two points. -/
def SumR (A : Fin P) : Option (Fin P × Fin P) → Option (Fin P × Fin P) → Option (Fin P × Fin P) → Prop
  | none, q, r => r = q
  | some p, none, r => r = some p
  | some (x1, y1), some (x2, y2), r => (x1 = x2 ∧ y1 + y2 = 0 ∧ r = none) ∨ (¬ (x1 = x2 ∧ y1 + y2 = 0) ∧ ∃ l x3 y3, LineR A x1 y1 x2 y2 l ∧ x3 = l * l - x1 - x2 ∧ y3 = l * (x1 - x3) - y1 ∧ r = some (x3, y3))
/-- No point of the curve is singular. -/
def Smooth (A B : Fin P) : Prop := ∀ x : Fin P, x * x * x + A * x + B = 0 → x * x + x * x + x * x + A = 0 → False
theorem zero_of {a b : Fin P} (h : a - b = 0) : a = b := by grind
theorem sub_of {a b : Fin P} (h : a = b) : a - b = 0 := by rw [h]; grind
theorem eq_add {a b c : Fin P} (h : a - b = c) : a = b + c := by grind
theorem eq_sub {a b c : Fin P} (h : a = b + c) : c = a - b := by grind
theorem id_on (x1 y1 x2 l : Fin P) : (l * (x1 - (l * l - x1 - x2)) - y1) * (l * (x1 - (l * l - x1 - x2)) - y1) = (l * l - x1 - x2) * (l * l - x1 - x2) * (l * l - x1 - x2) + (l * (y1 + (y1 + l * (x2 - x1))) - (x1 * x1 + x1 * x2 + x2 * x2)) * (l * l - x1 - x2) + (y1 * y1 - x1 * x1 * x1 - (l * (y1 + (y1 + l * (x2 - x1))) - (x1 * x1 + x1 * x2 + x2 * x2)) * x1) := by grind
theorem line_on {A B x1 y1 x2 y2 l x3 y3 : Fin P} (h1 : y1 * y1 = x1 * x1 * x1 + A * x1 + B) (hl : LineR A x1 y1 x2 y2 l) (e3 : x3 = l * l - x1 - x2) (e4 : y3 = l * (x1 - x3) - y1) : y3 * y3 = x3 * x3 * x3 + A * x3 + B := by
  obtain ⟨a, b⟩ := hl
  obtain rfl := eq_add a
  obtain rfl := eq_sub b
  have hB : B = y1 * y1 - x1 * x1 * x1 - (l * (y1 + (y1 + l * (x2 - x1))) - (x1 * x1 + x1 * x2 + x2 * x2)) * x1 := by
    clear e3 e4 a b
    generalize (l * (y1 + (y1 + l * (x2 - x1))) - (x1 * x1 + x1 * x2 + x2 * x2)) = A at *
    grind
  subst hB
  subst e3 e4
  exact id_on x1 y1 x2 l
/-- What two lines through one point tell of its Y. -/
theorem mid_id (x1 x2 x3 y2 l m : Fin P) : (y2 + y2) * (l - m) - ((x1 - x2) * (x1 + x2 + x3 - l * l) + (x2 - x3) * (x1 + x2 + x3 - m * m)) = (l * ((y2 + l * (x1 - x2)) + y2) - (x1 * x1 + x1 * x2 + x2 * x2)) - (m * (y2 + (y2 + m * (x3 - x2))) - (x2 * x2 + x2 * x3 + x3 * x3)) := by grind
theorem mid_eq {A x1 y1 x2 y2 x3 y3 l m : Fin P} (h : LineR A x1 y1 x2 y2 l) (k : LineR A x2 y2 x3 y3 m) : (y2 + y2) * (l - m) = (x1 - x2) * (x1 + x2 + x3 - l * l) + (x2 - x3) * (x1 + x2 + x3 - m * m) := by
  obtain ⟨a, b⟩ := h
  obtain ⟨c, d⟩ := k
  have e1 : y1 = y2 + l * (x1 - x2) := by clear b c d; grind
  have e3 := eq_add c
  have e := mid_id x1 x2 x3 y2 l m
  rw [← e1, ← e3, b, d] at e
  clear a b c d e1 e3
  grind
/-- The slope from the sum of the first two on to the third. -/
theorem far_id (x1 x2 x3 y2 l m : Fin P) : (l - m) * ((y2 + m * (x3 - x2)) - (l * (x2 - (l * l - x1 - x2)) - y2)) - (x3 - (l * l - x1 - x2)) * (x1 - x3 - (l - m) * l) = (y2 + y2) * (l - m) - ((x1 - x2) * (x1 + x2 + x3 - l * l) + (x2 - x3) * (x1 + x2 + x3 - m * m)) := by grind
theorem line_comm {A x1 y1 x2 y2 l : Fin P} (h : LineR A x1 y1 x2 y2 l) : LineR A x2 y2 x1 y1 l := by
  obtain ⟨a, b⟩ := h
  constructor <;> grind
theorem line_uniq (D : Dom P) {A x1 y1 x2 y2 l m : Fin P} (h : LineR A x1 y1 x2 y2 l) (k : LineR A x1 y1 x2 y2 m) (hn : ¬ (x1 = x2 ∧ y1 + y2 = 0)) : l = m := by
  obtain ⟨a, b⟩ := h
  obtain ⟨c, d⟩ := k
  by_cases hx : x1 = x2
  · have hy : ¬ y1 + y2 = 0 := fun e => hn ⟨hx, e⟩
    exact D.cancel (a := y1 + y2) (by grind) hy
  · exact D.cancel (a := x2 - x1) (by grind) (fun e => hx (by grind))
theorem far_eq {A x1 y1 x2 y2 x3 y3 l m x12 y12 g : Fin P} (h : LineR A x1 y1 x2 y2 l) (k : LineR A x2 y2 x3 y3 m) (e12 : x12 = l * l - x1 - x2) (f12 : y12 = l * (x1 - x12) - y1) (hg : y3 - y12 = g * (x3 - x12)) : (x3 - x12) * (g * (l - m)) = (x3 - x12) * (x1 - x3 - (l - m) * l) := by
  have e := far_id x1 x2 x3 y2 l m
  have e0 := mid_eq h k
  have e1 : y1 = y2 + l * (x1 - x2) := by have a := h.1; clear h k e12 f12 hg e e0; grind
  have e3 : y3 = y2 + m * (x3 - x2) := eq_add k.1
  have f : y12 = l * (x2 - x12) - y2 := by clear h k e12 hg e e0 e3; grind
  rw [← e12, ← f, ← e3, e0, hg] at e
  clear h k e12 f12 hg e0 e1 e3 f
  grind
theorem fin_x {x1 x2 x3 l m t : Fin P} (ht : t * (l - m) = x1 - x3) : (t - l) * (t - l) - (l * l - x1 - x2) - x3 = (t - m) * (t - m) - x1 - (m * m - x2 - x3) := by grind
theorem fin_y {x1 x2 x3 y2 l m t : Fin P} (ht : t * (l - m) = x1 - x3) : (t - l) * (x3 - ((t - l) * (t - l) - (l * l - x1 - x2) - x3)) - (y2 + m * (x3 - x2)) = (t - m) * (x1 - ((t - m) * (t - m) - x1 - (m * m - x2 - x3))) - (y2 + l * (x1 - x2)) := by grind
theorem sum_comm {A : Fin P} : ∀ {p q r : Option (Fin P × Fin P)}, SumR A p q r → SumR A q p r
  | none, none, r, h => h
  | none, some q, r, h => h
  | some p, none, r, h => h
  | some (x1, y1), some (x2, y2), r, h => by
    rcases h with ⟨h1, h2, h3⟩ | ⟨h0, l, x3, y3, hl, e3, e4, e5⟩
    · exact .inl ⟨h1.symm, by rw [← h2]; grind, h3⟩
    · refine .inr ⟨fun e => h0 ⟨e.1.symm, by rw [← e.2]; grind⟩, l, x3, y3, line_comm hl, by rw [e3]; grind, ?_, e5⟩
      have a := hl.1
      rw [e4]
      clear hl e3 e4 e5 h0
      grind
theorem sum_uniq (D : Dom P) {A : Fin P} : ∀ {p q r r' : Option (Fin P × Fin P)}, SumR A p q r → SumR A p q r' → r = r'
  | none, q, r, r', h, k => h.trans k.symm
  | some p, none, r, r', h, k => h.trans k.symm
  | some (x1, y1), some (x2, y2), r, r', h, k => by
    rcases h with ⟨h1, h2, h3⟩ | ⟨h0, l, x3, y3, hl, e3, e4, e5⟩
    · rcases k with ⟨k1, k2, k3⟩ | ⟨k0, _⟩
      · rw [h3, k3]
      · exact absurd ⟨h1, h2⟩ k0
    · rcases k with ⟨k1, k2, k3⟩ | ⟨k0, m, x4, y4, hm, f3, f4, f5⟩
      · exact absurd ⟨k1, k2⟩ h0
      · obtain rfl := line_uniq D hl hm h0
        rw [e5, f5, e4, f4, e3, f3]
theorem sum_on {A B : Fin P} : ∀ {p q r : Option (Fin P × Fin P)}, OnR A B p → OnR A B q → SumR A p q r → OnR A B r
  | none, q, r, hp, hq, h => by rw [show r = q from h]; exact hq
  | some p, none, r, hp, hq, h => by rw [show r = some p from h]; exact hp
  | some (x1, y1), some (x2, y2), r, hp, hq, h => by
    rcases h with ⟨h1, h2, h3⟩ | ⟨h0, l, x3, y3, hl, e3, e4, e5⟩
    · rw [h3]; trivial
    · rw [e5]; exact line_on hp hl e3 e4
/-- The slope on to the third point, wherever it is. -/
theorem claimG (D : Dom P) {A B x1 y1 x2 y2 x3 y3 l m x12 y12 : Fin P} {r : Option (Fin P × Fin P)} (o1 : y1 * y1 = x1 * x1 * x1 + A * x1 + B) (o3 : y3 * y3 = x3 * x3 * x3 + A * x3 + B) (h : LineR A x1 y1 x2 y2 l) (k : LineR A x2 y2 x3 y3 m) (hlm : ¬ l - m = 0) (n23 : ¬ (x2 = x3 ∧ y2 + y3 = 0)) (e12 : x12 = l * l - x1 - x2) (f12 : y12 = l * (x1 - x12) - y1) (hs : SumR A (some (x12, y12)) (some (x3, y3)) r) :
    ∃ g X Y, LineR A x12 y12 x3 y3 g ∧ X = g * g - x12 - x3 ∧ Y = g * (x12 - X) - y12 ∧ r = some (X, Y) ∧ g * (l - m) = x1 - x3 - (l - m) * l := by
  have e0 := mid_eq h k
  have e1 : y1 = y2 + l * (x1 - x2) := by have a := h.1; clear h k e12 f12 hs e0 o1 o3; grind
  have e3 : y3 = y2 + m * (x3 - x2) := eq_add k.1
  have f : y12 = l * (x2 - x12) - y2 := by clear h k e12 hs e0 e3 o1 o3; grind
  by_cases hu : x3 - x12 = 0
  · have hx : x12 = x3 := by clear h k e12 f12 hs e0 e1 e3 f o1 o3; grind
    -- not each other's opposites
    have hn : ¬ (x12 = x3 ∧ y12 + y3 = 0) := fun ⟨_, hy⟩ => by
      have h1 : (l - m) * (x3 - x2) = 0 := by
        rw [hx] at f
        clear h k e12 f12 hs e0 e1 o1 o3 hu hx
        grind
      rcases D.dom _ _ h1 with h2 | h2
      · exact hlm h2
      have h3 : x2 = x3 := by clear h k e12 f12 hs e0 e1 e3 f o1 o3 hu hx hy h1; grind
      have h4 : y2 = y3 := by clear h k e12 f12 hs e0 e1 f o1 o3 hu hx hy h1 h2; grind
      have h5 : (y2 + y2) * (l - m) = 0 := by
        have h6 : x1 + x2 + x3 - l * l = 0 := by clear h k f12 hs e0 e1 e3 f o1 o3 hy h1 h2 h3 h4; grind
        rw [e0, h6, h3]
        clear h k f12 hs e0 e1 e3 f o1 o3 hy h1 h2 h3 h4 h6
        grind
      rcases D.dom _ _ h5 with h6 | h6
      · exact n23 ⟨h3, by rw [← h4]; exact h6⟩
      · exact hlm h6
    rcases hs with ⟨a, b, _⟩ | ⟨_, g, X, Y, hl, eX, eY, eR⟩
    · exact absurd ⟨a, b⟩ hn
    · refine ⟨g, X, Y, hl, eX, eY, eR, ?_⟩
      have o12 := line_on o1 h e12 f12
      have hp : (y12 - y3) * (y12 + y3) = 0 := by
        rw [hx] at o12
        clear h k e12 f12 e0 e1 e3 f hl eX eY eR o1 hu hx
        grind
      have hy : y12 = y3 := by
        rcases D.dom _ _ hp with h1 | h1
        · exact zero_of h1
        · exact absurd ⟨hx, h1⟩ hn
      have hg := hl.2
      rw [hx, hy] at hg
      have hA : A = m * (y2 + y3) - (x2 * x2 + x2 * x3 + x3 * x3) := by have a := k.2; clear h k e12 f12 e0 e1 e3 f hl eX eY eR o1 o3 hu hx o12 hp hy hg; grind
      -- 2 y3 = (l - m) (x2 - x3)
      have h2y : y3 + y3 = (l - m) * (x2 - x3) := by
        rw [hx, hy] at f
        clear h k e12 f12 e0 e1 hl eX eY eR o1 o3 hu hx o12 hp hy hg hA
        grind
      have hll : l * l = x1 + x2 + x3 := by rw [hx] at e12; clear h k f12 e0 e1 e3 f hl eX eY eR o1 o3 hu hx o12 hp hy hg hA h2y; grind
      have hq : ¬ x2 - x3 = 0 := fun e => by
        rw [e] at h2y
        have h3 : y3 + y3 = 0 := by rw [h2y]; clear h k e12 f12 e0 e1 e3 f hl eX eY eR o1 o3 hu hx o12 hp hy hg hA h2y hll e; grind
        exact hn ⟨hx, by rw [hy]; exact h3⟩
      refine D.cancel (a := x2 - x3) ?_ hq
      have h4 : (x2 - x3) * (g * (l - m)) = g * (y3 + y3) := by rw [h2y]; clear h k e12 f12 e0 e1 e3 f hl eX eY eR o1 o3 hu hx o12 hp hy hg hA h2y hll hq; grind
      rw [h4, hg, hA]
      have h5 : y2 + y3 = l * (x2 - x3) := by rw [hx, hy] at f; clear h k e12 f12 e0 e1 e3 hl eX eY eR o1 o3 hu hx o12 hp hy hg hA h2y hll hq h4; grind
      rw [h5]
      clear h k e12 f12 e0 e1 e3 f hl eX eY eR o1 o3 hu hx o12 hp hy hg hA h2y hq h4 h5
      grind
  · rcases hs with ⟨a, b, _⟩ | ⟨_, g, X, Y, hl, eX, eY, eR⟩
    · exact absurd (by rw [a]; clear h k e12 f12 e0 e1 e3 f o1 o3; grind) hu
    · exact ⟨g, X, Y, hl, eX, eY, eR, D.cancel (far_eq h k e12 f12 hl.1) hu⟩
/-- A point, and the opposite of another one behind their sum. -/
theorem opp_line {A x2 y2 x3 y3 m x23 y23 : Fin P} (k : LineR A x2 y2 x3 y3 m) (e : x23 = m * m - x2 - x3) (f : y23 = m * (x2 - x23) - y2) : LineR A x2 (-y2) x23 y23 (-m) := by
  obtain ⟨c, d⟩ := k
  have e3 := eq_add c
  subst e3
  have hA := eq_sub d
  subst hA
  subst f
  subst e
  constructor
  · clear c d; grind
  · clear c d; grind
theorem sum_back (D : Dom P) {A B : Fin P} (S : Smooth A B) {x2 y2 : Fin P} (o2 : y2 * y2 = x2 * x2 * x2 + A * x2 + B) : ∀ {p3 p23 r : Option (Fin P × Fin P)}, SumR A (some (x2, y2)) p3 p23 → SumR A (some (x2, -y2)) p23 r → r = p3
  | none, p23, r, h, k => by
    rw [show p23 = some (x2, y2) from h] at k
    rcases k with ⟨_, _, k3⟩ | ⟨k0, _⟩
    · exact k3
    · exact absurd ⟨rfl, by clear o2; grind⟩ k0
  | some (x3, y3), p23, r, h, k => by
    rcases h with ⟨h1, h2, h3⟩ | ⟨h0, m, x23, y23, hl, e3, e4, e5⟩
    · rw [h3] at k
      rw [show r = some (x2, -y2) from k, h1, show -y2 = y3 by clear o2; grind]
    · rw [e5] at k
      have hop := opp_line hl e3 e4
      rcases k with ⟨k1, k2, _⟩ | ⟨k0, g, X, Y, hg, eX, eY, eR⟩
      · exfalso
        have hy : y2 = 0 := D.two _ (by rw [← k1] at e4; clear o2 hl hop e3 e5 h0; grind)
        have hm : m * m = x2 + x2 + x3 := by rw [← k1] at e3; clear o2 hl hop e4 e5 h0 k2 hy; grind
        have h3 : y3 = m * (x3 - x2) := by have c := hl.1; rw [hy] at c; clear o2 hl hop e3 e4 e5 h0 k2 hm; grind
        have h4 : m * (m * (x3 - x2)) = x2 * x2 + x2 * x3 + x3 * x3 + A := by have d := hl.2; rw [hy, h3] at d; clear o2 hl hop e3 e4 e5 h0 k2 hm h3; grind
        have h5 : (x2 + x2 + x3) * (x3 - x2) = x2 * x2 + x2 * x3 + x3 * x3 + A := by rw [← hm, ← h4]; clear o2 hl hop e3 e4 e5 h0 k2 hm h3 h4; grind
        refine S x2 ?_ ?_
        · rw [← o2, hy]; clear o2 hl hop e3 e4 e5 h0 k2 hm h3 h4 h5; grind
        · clear o2 hl hop e3 e4 e5 h0 k2 hm h3 h4; grind
      · obtain rfl := line_uniq D hg hop k0
        rw [eR]
        have hX : X = x3 := by rw [eX, e3]; clear o2 hl hop e3 e4 e5 h0 k0 hg eX eY eR; grind
        have hY : Y = y3 := by rw [eY, hX]; have c := hl.1; clear o2 hl hop e3 e4 e5 h0 k0 hg eX eY eR hX; grind
        rw [hX, hY]
/-- Sums in any order. -/
theorem sum_assoc (D : Dom P) {A B : Fin P} (S : Smooth A B) {p1 p2 p3 p12 p23 r r' : Option (Fin P × Fin P)} (o1 : OnR A B p1) (o2 : OnR A B p2) (o3 : OnR A B p3) (h12 : SumR A p1 p2 p12) (h123 : SumR A p12 p3 r) (h23 : SumR A p2 p3 p23) (h123' : SumR A p1 p23 r') : r = r' := by
  match p1, p2, p3, o1, o2, o3, h12, h23 with
  | none, p2, p3, o1, o2, o3, h12, h23 =>
    rw [show p12 = p2 from h12] at h123
    rw [show r' = p23 from h123']
    exact sum_uniq D h123 h23
  | some p1, none, p3, o1, o2, o3, h12, h23 =>
    rw [show p12 = some p1 from h12] at h123
    rw [show p23 = p3 from h23] at h123'
    exact sum_uniq D h123 h123'
  | some p1, some p2, none, o1, o2, o3, h12, h23 =>
    rw [show p23 = some p2 from h23] at h123'
    have h4 := sum_comm h123
    rw [show r = p12 from h4]
    exact sum_uniq D h12 h123'
  | some (x1, y1), some (x2, y2), some (x3, y3), o1, o2, o3, h12, h23 =>
    have h12c := h12
    have h23c := h23
    rcases h12 with ⟨a1, a2, a3⟩ | ⟨n12, l, x12, y12, hl, e12, f12, rfl⟩
    · subst a3
      rw [show r = some (x3, y3) from h123]
      obtain rfl := a1
      obtain rfl : y1 = -y2 := by clear o1 o2 o3 h23 h23c h123 h123' h12c; grind
      exact (sum_back D S o2 h23c h123').symm
    rcases h23 with ⟨a1, a2, a3⟩ | ⟨n23, m, x23, y23, hm, e23, f23, rfl⟩
    · subst a3
      rw [show r' = some (x1, y1) from h123']
      obtain rfl := a1
      obtain rfl : y3 = -y2 := by clear o1 o2 o3 h12c h123 h123' h23c hl e12 f12; grind
      exact sum_back D S o2 (sum_comm h12c) (sum_comm h123)
    by_cases hlm : l - m = 0
    · have elm : l = m := zero_of hlm
      subst elm
      have e0 := mid_eq hl hm
      have e1 : y1 = y2 + l * (x1 - x2) := by have a := hl.1; clear o1 o2 o3 hl hm e12 f12 e23 f23 e0 h123 h123' h12c h23c; grind
      have e3 : y3 = y2 + l * (x3 - x2) := eq_add hm.1
      have hz : (x1 - x3) * (x1 + x2 + x3 - l * l) = 0 := by clear o1 o2 o3 hl hm e12 f12 e23 f23 e1 e3 h123 h123' h12c h23c; grind
      rcases D.dom _ _ hz with hx | hu
      · obtain rfl : x1 = x3 := zero_of hx
        obtain rfl : y1 = y3 := by rw [e1, e3]
        have h5 := sum_uniq D (sum_comm h23c) h12c
        rw [h5] at h123'
        exact sum_uniq D h123 (sum_comm h123')
      · have hx3 : x12 = x3 := by rw [e12]; clear o1 o2 o3 hl hm e12 f12 e23 f23 e0 e1 e3 h123 h123' hz hlm h12c h23c; grind
        have hx1 : x1 = x23 := by rw [e23]; clear o1 o2 o3 hl hm e12 f12 e23 f23 e0 e1 e3 h123 h123' hz hlm hx3 h12c h23c; grind
        have hy3 : y12 + y3 = 0 := by rw [f12, hx3, e1, e3]; clear o1 o2 o3 hl hm e12 f12 e23 f23 e0 e1 e3 h123 h123' hz hlm hx1 hu h12c h23c hx3; grind
        have hy1 : y1 + y23 = 0 := by rw [f23, ← hx1, e1]; clear o1 o2 o3 hl hm e12 f12 e23 f23 e0 e1 e3 h123 h123' hz hlm hx1 hu hx3 hy3 h12c h23c; grind
        rcases h123 with ⟨_, _, b3⟩ | ⟨b0, _⟩
        · rcases h123' with ⟨_, _, c3⟩ | ⟨c0, _⟩
          · rw [b3, c3]
          · exact absurd ⟨hx1, hy1⟩ c0
        · exact absurd ⟨hx3, hy3⟩ b0
    · obtain ⟨g, X, Y, hg, eX, eY, eR, hgt⟩ := claimG D o1 o3 hl hm hlm n23 e12 f12 h123
      have f23' : y23 = m * (x3 - x23) - y3 := by rw [f23]; have c := hm.1; clear o1 o2 o3 hl hm e12 f12 e23 f23 h123 h123' hg eX eY eR hgt h12c h23c; grind
      obtain ⟨d, X', Y', hd, eX', eY', eR', hdt⟩ := claimG D (x1 := x3) (y1 := y3) (x3 := x1) (y3 := y1) (l := m) (m := l) o3 o1 (line_comm hm) (line_comm hl) (fun e => hlm (by clear o1 o2 o3 hl hm e12 f12 e23 f23 h123 h123' hg eX eY eR hgt f23' h12c h23c; grind)) (fun e => n12 ⟨e.1.symm, by rw [← e.2]; clear o1 o2 o3 hl hm e12 f12 e23 f23 h123 h123' hg eX eY eR hgt f23' h12c h23c; grind⟩) (by rw [e23]; clear o1 o2 o3 hl hm e12 f12 e23 f23 h123 h123' hg eX eY eR hgt f23' h12c h23c; grind) f23' (sum_comm h123')
      have ht : (g + l) * (l - m) = x1 - x3 := by clear o1 o2 o3 hl hm e12 f12 e23 f23 h123 h123' hg eX eY eR f23' hd eX' eY' eR' hdt h12c h23c; grind
      have hdg : d + m = g + l := by
        refine D.cancel (a := l - m) ?_ hlm
        clear o1 o2 o3 hl hm e12 f12 e23 f23 h123 h123' hg eX eY eR f23' hd eX' eY' eR' h12c h23c hgt
        grind
      obtain ⟨t, htt⟩ : ∃ t, g + l = t := ⟨_, rfl⟩
      rw [htt] at ht hdg
      have hg' : g = t - l := by clear o1 o2 o3 hl hm e12 f12 e23 f23 h123 h123' hg eX eY eR f23' hd eX' eY' eR' h12c h23c hgt hdt ht hdg; grind
      have hd' : d = t - m := by clear o1 o2 o3 hl hm e12 f12 e23 f23 h123 h123' hg eX eY eR f23' hd eX' eY' eR' h12c h23c hgt hdt ht htt hg'; grind
      have e1 : y1 = y2 + l * (x1 - x2) := by have a := hl.1; clear o1 o2 o3 hl hm e12 f12 e23 f23 h123 h123' h12c h23c hg eX eY eR f23' hd eX' eY' eR' hgt hdt ht htt hg' hdg hd'; grind
      have e3 : y3 = y2 + m * (x3 - x2) := eq_add hm.1
      have hX : X = X' := by
        have := fin_x (x2 := x2) ht
        rw [eX, eX', hg', hd', e12, e23, this]
        clear o1 o2 o3 hl hm e12 f12 e23 f23 h123 h123' h12c h23c hg eX eY eR f23' hd eX' eY' eR' hgt hdt ht htt hg' hdg hd' e1 e3 this
        grind
      have hY : Y = Y' := by
        have h1 : Y = g * (x3 - X) - y3 := by rw [eY]; have c := hg.1; clear o1 o2 o3 hl hm e12 f12 e23 f23 h123 h123' h12c h23c hg eX eY eR f23' hd eX' eY' eR' hgt hdt ht htt hg' hdg hd' e1 e3 hX; grind
        have h2 : Y' = d * (x1 - X') - y1 := by rw [eY']; have c := hd.1; clear o1 o2 o3 hl hm e12 f12 e23 f23 h123 h123' h12c h23c hg eX eY eR f23' hd eX' eY' eR' hgt hdt ht htt hg' hdg hd' e1 e3 hX h1; grind
        have h3 := fin_y (x2 := x2) (y2 := y2) ht
        have h4 : X' = (t - m) * (t - m) - x1 - (m * m - x2 - x3) := by rw [eX', hd', e23]; clear o1 o2 o3 hl hm e12 f12 e23 f23 h123 h123' h12c h23c hg eX eY eR f23' hd eX' eY' eR' hgt hdt ht htt hg' hdg hd' e1 e3 hX h1 h2 h3; grind
        have h5 : X = (t - l) * (t - l) - (l * l - x1 - x2) - x3 := by rw [eX, hg', e12]
        rw [h1, h2, h4, h5, hg', hd', e1, e3]
        exact h3
      rw [eR, eR', hX, hY]
end Go.Proofs.Ytcobbbamocdbbaa
/-
  Numbers below a prime, as a ring without divisors of nothing.
-/
namespace Go.Proofs.Ytcobbbamocdbbaa
set_option linter.unusedVariables false
set_option linter.unusedSimpArgs false

/-- A number as one below P. -/
def fp (P : Nat) [NeZero P] (a : Int) : Fin P := ⟨(a % (P : Int)).toNat, by
  have h0 : (0 : Int) < P := by have := Nat.pos_of_ne_zero (NeZero.ne P); omega
  have h1 := Int.emod_lt_of_pos a h0
  have h2 := Int.emod_nonneg a (b := (P : Int)) (by omega)
  omega⟩
theorem fp_val (P : Nat) [NeZero P] (a : Int) : ((fp P a).val : Int) = a % P := by
  have h0 : (0 : Int) < P := by have := Nat.pos_of_ne_zero (NeZero.ne P); omega
  have h2 := Int.emod_nonneg a (b := (P : Int)) (by omega)
  show (((a % (P : Int)).toNat : Nat) : Int) = _
  omega
theorem fp_eq (P : Nat) [NeZero P] {a b : Int} : fp P a = fp P b ↔ a % P = b % P := by
  constructor
  · intro h
    rw [← fp_val, ← fp_val, h]
  · intro h
    apply Fin.ext
    have := fp_val P a
    have := fp_val P b
    omega
theorem fp_mod (P : Nat) [NeZero P] (a : Int) : fp P (a % P) = fp P a := by
  rw [fp_eq, Int.emod_emod]
theorem fp_add (P : Nat) [NeZero P] (a b : Int) : fp P (a + b) = fp P a + fp P b := by
  apply Fin.ext
  have h1 := fp_val P (a + b)
  have h2 : ((fp P a + fp P b).val : Int) = ((fp P a).val + (fp P b).val : Nat) % P := by rw [Fin.val_add]; simp
  have h3 := fp_val P a
  have h4 := fp_val P b
  have : ((fp P (a + b)).val : Int) = ((fp P a + fp P b).val : Int) := by
    rw [h1, h2, Int.natCast_add, h3, h4, ← Int.add_emod]
  omega
theorem fp_mul (P : Nat) [NeZero P] (a b : Int) : fp P (a * b) = fp P a * fp P b := by
  apply Fin.ext
  have h1 := fp_val P (a * b)
  have h2 : ((fp P a * fp P b).val : Int) = ((fp P a).val * (fp P b).val : Nat) % P := by rw [Fin.val_mul]; simp
  have h3 := fp_val P a
  have h4 := fp_val P b
  have : ((fp P (a * b)).val : Int) = ((fp P a * fp P b).val : Int) := by
    rw [h1, h2, Int.natCast_mul, h3, h4, ← Int.mul_emod]
  omega
theorem fp_zero (P : Nat) [NeZero P] : fp P 0 = 0 := by
  apply Fin.ext
  have h1 := fp_val P 0
  rw [Int.zero_emod] at h1
  have : ((0 : Fin P).val : Int) = 0 := by simp
  omega
theorem fp_sub (P : Nat) [NeZero P] (a b : Int) : fp P (a - b) = fp P a - fp P b := by
  have h := fp_add P (a - b) b
  rw [show a - b + b = a by omega] at h
  rw [h]
  grind
theorem fp_self (P : Nat) [NeZero P] (x : Fin P) : fp P (x.val : Int) = x := by
  apply Fin.ext
  have h1 := fp_val P (x.val : Int)
  rw [Int.emod_eq_of_lt (by omega) (by have := x.isLt; omega)] at h1
  omega
/-- A product is a multiple of P only if one of the two is. -/
def PrimeN (P : Nat) : Prop := ∀ a b : Nat, P ∣ a * b → P ∣ a ∨ P ∣ b
theorem fin_zero {P : Nat} [NeZero P] {x : Fin P} : x = 0 ↔ P ∣ x.val := by
  constructor
  · intro h; rw [h]; exact ⟨0, by simp⟩
  · intro h
    apply Fin.ext
    have h1 := x.isLt
    have : x.val = 0 := Nat.eq_zero_of_dvd_of_lt h h1
    simpa using this
theorem dom_fin {P : Nat} [NeZero P] (hp : PrimeN P) (h2 : P % 2 = 1) : Dom P := by
  refine ⟨fun a b h => ?_, fun a h => ?_⟩
  · have h1 : P ∣ a.val * b.val := by
      have h3 := congrArg Fin.val h
      rw [Fin.val_mul] at h3
      exact Nat.dvd_of_mod_eq_zero (by simpa using h3)
    rcases hp _ _ h1 with h3 | h3
    · exact .inl (fin_zero.2 h3)
    · exact .inr (fin_zero.2 h3)
  · have h1 : P ∣ a.val + a.val := by
      have h3 := congrArg Fin.val h
      rw [Fin.val_add] at h3
      exact Nat.dvd_of_mod_eq_zero (by simpa using h3)
    refine fin_zero.2 ?_
    obtain ⟨k, hk⟩ := h1
    have h5 := a.isLt
    have : a.val = 0 := by
      rcases k with _ | _ | k
      · omega
      · omega
      · have h6 : P * (k + 1 + 1) = P * k + P + P := by rw [Nat.mul_add, Nat.mul_add]; omega
        omega
    rw [this]
    exact ⟨0, by simp⟩
/-- A prime, by divisors. -/
theorem prime_of {P : Nat} (h : ∀ a, a < P → a ≠ 0 → Nat.gcd P a = 1) : PrimeN P := by
  intro a b hab
  by_cases h0 : a % P = 0
  · exact .inl (Nat.dvd_of_mod_eq_zero h0)
  · right
    rcases Nat.eq_zero_or_pos P with rfl | hP
    · simp at h0
      obtain ⟨k, hk⟩ := hab
      rw [Nat.zero_mul] at hk
      rcases Nat.mul_eq_zero.1 hk with h1 | h1
      · exact absurd h1 h0
      · rw [h1]; exact ⟨0, rfl⟩
    · have hg := h (a % P) (Nat.mod_lt _ hP) h0
      have hc : Nat.gcd P a = 1 := by rw [Nat.gcd_rec, Nat.gcd_comm]; exact hg
      exact Nat.Coprime.dvd_of_dvd_mul_left hc hab
/-- No point is singular where the discriminant isn't 0. -/
theorem smooth_of {P : Nat} [NeZero P] {A B : Fin P} (h : ¬ 4 * (A * A * A) + 27 * (B * B) = 0) : Smooth A B := by
  intro x h1 h2
  apply h
  have hA : A = -(x * x + x * x + x * x) := by clear h h1; grind
  have hB : B = x * x * x + x * x * x := by rw [hA] at h1; clear h h2 hA; grind
  rw [hA, hB]
  clear h h1 h2 hA hB
  grind
end Go.Proofs.Ytcobbbamocdbbaa
/-
  Multiples of a point, in a ring in which all but 0 has an inverse. No program in sight.
-/
namespace Go.Proofs.Ytcobbbamocdbbaa
set_option linter.unusedVariables false
set_option linter.unusedSimpArgs false

/-- All but 0 has an inverse. -/
def Invs (P : Nat) [NeZero P] : Prop := ∀ a : Fin P, ¬ a = 0 → ∃ b : Fin P, b * a = 1
variable {P : Nat} [NeZero P]
/-- A slope, where two points of the curve differ in X. -/
theorem line_apart {A B x1 y1 x2 y2 l n : Fin P} (o1 : y1 * y1 = x1 * x1 * x1 + A * x1 + B) (o2 : y2 * y2 = x2 * x2 * x2 + A * x2 + B) (hn : n * (x2 - x1) = 1) (hl : l = (y2 - y1) * n) : LineR A x1 y1 x2 y2 l := by
  subst hl
  refine ⟨?_, ?_⟩
  · have e : (y2 - y1) * n * (x2 - x1) = (y2 - y1) * (n * (x2 - x1)) := by clear o1 o2 hn; grind
    rw [e, hn]
    clear o1 o2 hn e
    grind
  · have e : (y2 - y1) * n * (y1 + y2) = n * (y2 * y2 - y1 * y1) := by clear o1 o2 hn; grind
    rw [e, o1, o2]
    have e2 : n * (x2 * x2 * x2 + A * x2 + B - (x1 * x1 * x1 + A * x1 + B)) = (n * (x2 - x1)) * (x1 * x1 + x1 * x2 + x2 * x2 + A) := by clear o1 o2 hn e; grind
    rw [e2, hn]
    clear o1 o2 hn e e2
    grind
/-- A slope, where two points of the curve have the same X. -/
theorem line_same (D : Dom P) {A B x1 y1 x2 y2 l n : Fin P} (o1 : y1 * y1 = x1 * x1 * x1 + A * x1 + B) (o2 : y2 * y2 = x2 * x2 * x2 + A * x2 + B) (hx : x1 = x2) (hy : ¬ y1 + y2 = 0) (hn : n * (y1 + y2) = 1) (hl : l = (x1 * x1 + x1 * x1 + x1 * x1 + A) * n) : LineR A x1 y1 x2 y2 l := by
  subst hx
  have hd : (y1 + y2) * (y2 - y1) = (y1 + y2) * 0 := by
    have : (y1 + y2) * (y2 - y1) = y2 * y2 - y1 * y1 := by clear o1 o2 hy hn hl; grind
    rw [this, o1, o2]
    clear o1 o2 hy hn hl this
    grind
  have h0 := D.cancel hd hy
  subst hl
  refine ⟨?_, ?_⟩
  · rw [h0]
    clear o1 o2 hy hn hd h0
    grind
  · have e : (x1 * x1 + x1 * x1 + x1 * x1 + A) * n * (y1 + y2) = (x1 * x1 + x1 * x1 + x1 * x1 + A) * (n * (y1 + y2)) := by clear o1 o2 hy hn hd h0; grind
    rw [e, hn]
    clear o1 o2 hy hn hd h0 e
    grind
/-- There is a sum. -/
theorem sum_ex (D : Dom P) (I : Invs P) {A B : Fin P} : ∀ {p q : Option (Fin P × Fin P)}, OnR A B p → OnR A B q → ∃ r, SumR A p q r
  | none, q, _, _ => ⟨q, rfl⟩
  | some p, none, _, _ => ⟨some p, rfl⟩
  | some (x1, y1), some (x2, y2), o1, o2 => by
    by_cases h : x1 = x2 ∧ y1 + y2 = 0
    · exact ⟨none, .inl ⟨h.1, h.2, rfl⟩⟩
    · by_cases hx : x1 = x2
      · have hy : ¬ y1 + y2 = 0 := fun e => h ⟨hx, e⟩
        obtain ⟨n, hn⟩ := I _ hy
        exact ⟨_, .inr ⟨h, _, _, _, line_same D o1 o2 hx hy hn rfl, rfl, rfl, rfl⟩⟩
      · have hy : ¬ x2 - x1 = 0 := fun e => hx (zero_of e).symm
        obtain ⟨n, hn⟩ := I _ hy
        exact ⟨_, .inr ⟨h, _, _, _, line_apart o1 o2 hn rfl, rfl, rfl, rfl⟩⟩
/-- So often a point. -/
def Tm (A : Fin P) (G : Option (Fin P × Fin P)) : Nat → Option (Fin P × Fin P) → Prop
  | 0, q => q = none
  | k + 1, r => ∃ q, Tm A G k q ∧ SumR A q G r
theorem Tm.on {A B : Fin P} {G : Option (Fin P × Fin P)} (hG : OnR A B G) : ∀ (k : Nat) (q : Option (Fin P × Fin P)), Tm A G k q → OnR A B q
  | 0, q, h => by rw [show q = none from h]; trivial
  | k + 1, r, ⟨q, h, hs⟩ => sum_on (Tm.on hG k q h) hG hs
theorem Tm.ex (D : Dom P) (I : Invs P) {A B : Fin P} {G : Option (Fin P × Fin P)} (hG : OnR A B G) : ∀ k, ∃ q, Tm A G k q
  | 0 => ⟨none, rfl⟩
  | k + 1 => by
    obtain ⟨q, h⟩ := Tm.ex D I hG k
    obtain ⟨r, hr⟩ := sum_ex D I (Tm.on hG k q h) hG
    exact ⟨r, q, h, hr⟩
theorem Tm.uniq (D : Dom P) {A : Fin P} {G : Option (Fin P × Fin P)} : ∀ (k : Nat) (q r : Option (Fin P × Fin P)), Tm A G k q → Tm A G k r → q = r
  | 0, q, r, h, h' => by rw [show q = none from h, show r = none from h']
  | k + 1, q, r, ⟨q', h, hs⟩, ⟨r', h', hs'⟩ => by
    rw [Tm.uniq D k q' r' h h'] at hs
    exact sum_uniq D hs hs'
theorem sum_none {A : Fin P} : ∀ p : Option (Fin P × Fin P), SumR A p none p
  | none => rfl
  | some _ => rfl
/-- Sums of multiples are multiples. -/
theorem Tm.add (D : Dom P) (I : Invs P) {A B : Fin P} (S : Smooth A B) {G : Option (Fin P × Fin P)} (hG : OnR A B G) (a : Nat) (p : Option (Fin P × Fin P)) (ha : Tm A G a p) : ∀ (b : Nat) (q r : Option (Fin P × Fin P)), Tm A G b q → SumR A p q r → Tm A G (a + b) r
  | 0, q, r, h, hs => by
    rw [show q = none from h] at hs
    rw [← sum_uniq D (sum_none p) hs]
    exact ha
  | b + 1, q, r, ⟨q', h, hq⟩, hs => by
    have o1 := Tm.on hG a p ha
    have o2 := Tm.on hG b q' h
    obtain ⟨s, hs'⟩ := sum_ex D I o1 o2
    have h1 := Tm.add D I S hG a p ha b q' s h hs'
    obtain ⟨r', hr'⟩ := sum_ex D I (sum_on o1 o2 hs') hG
    have := sum_assoc D S o1 o2 hG hs' hr' hq hs
    subst this
    exact ⟨s, h1, hr'⟩
/-- A multiple that is nothing: so often more is where it was. -/
theorem Tm.round (D : Dom P) (I : Invs P) {A B : Fin P} (S : Smooth A B) {G : Option (Fin P × Fin P)} (hG : OnR A B G) {N : Nat} (hN : Tm A G N none) {a : Nat} {p : Option (Fin P × Fin P)} (ha : Tm A G a p) : Tm A G (a + N) p := Tm.add D I S hG a p ha N none p hN (sum_none p)
theorem Tm.times (D : Dom P) (I : Invs P) {A B : Fin P} (S : Smooth A B) {G : Option (Fin P × Fin P)} (hG : OnR A B G) {N : Nat} (hN : Tm A G N none) : ∀ k, Tm A G (k * N) none
  | 0 => by rw [Nat.zero_mul]; rfl
  | k + 1 => by rw [Nat.succ_mul]; exact Tm.round D I S hG hN (Tm.times D I S hG hN k)
/-- The opposite. -/
def negR : Option (Fin P × Fin P) → Option (Fin P × Fin P)
  | none => none
  | some (x, y) => some (x, -y)
theorem neg_on {A B : Fin P} : ∀ {p : Option (Fin P × Fin P)}, OnR A B p → OnR A B (negR p)
  | none, _ => trivial
  | some (x, y), h => by
    show -y * -y = _
    have h : y * y = _ := h
    rw [← h]
    grind
theorem neg_sum {A : Fin P} : ∀ {p q r : Option (Fin P × Fin P)}, SumR A p q r → SumR A (negR p) (negR q) (negR r)
  | none, q, r, h => by rw [show r = q from h]; rfl
  | some (x, y), none, r, h => by rw [show r = some (x, y) from h]; rfl
  | some (x1, y1), some (x2, y2), r, h => by
    rcases h with ⟨h1, h2, rfl⟩ | ⟨h1, l, x3, y3, hl, e3, e4, rfl⟩
    · exact .inl ⟨h1, by grind, rfl⟩
    · refine .inr ⟨fun ⟨e1, e2⟩ => h1 ⟨e1, by clear hl e3 e4; grind⟩, -l, x3, -y3, ⟨?_, ?_⟩, ?_, ?_, rfl⟩
      · have := hl.1
        clear e3 e4 h1 hl
        grind
      · have := hl.2
        clear e3 e4 h1 hl
        rw [← this]
        grind
      · rw [e3]; grind
      · rw [e4]; clear e4 hl h1; grind
theorem neg_self {A : Fin P} : ∀ p : Option (Fin P × Fin P), SumR A p (negR p) none
  | none => rfl
  | some (x, y) => .inl ⟨rfl, by grind, rfl⟩
/-- Bezout. -/
theorem bez (a b : Nat) : ∃ x y : Int, (Nat.gcd a b : Int) = a * x + b * y := by
  induction a, b using Nat.gcd.induction with
  | H0 n => exact ⟨0, 1, by simp⟩
  | H1 m n hm ih =>
    obtain ⟨x, y, h⟩ := ih
    refine ⟨y - (n / m : Nat) * x, x, ?_⟩
    rw [Nat.gcd_rec, h]
    have h1 : ((n % m : Nat) : Int) = n - m * (n / m : Nat) := by
      have := Nat.div_add_mod n m
      have h2 : ((m * (n / m) + n % m : Nat) : Int) = n := by rw [this]
      rw [Int.natCast_add, Int.natCast_mul] at h2
      omega
    rw [h1]
    grind
theorem prime_gcd {P a : Nat} (hp : PrimeN P) (h0 : 0 < a) (ha : a < P) : Nat.gcd P a = 1 := by
  obtain ⟨k, hk⟩ := Nat.gcd_dvd_left P a
  have hg : Nat.gcd P a ≤ a := Nat.le_of_dvd h0 (Nat.gcd_dvd_right P a)
  have hd : P ∣ Nat.gcd P a * k := ⟨1, by omega⟩
  rcases hp _ _ hd with h | h
  · have h3 : 0 < Nat.gcd P a := Nat.gcd_pos_of_pos_right _ h0
    have := Nat.le_of_dvd h3 h
    omega
  · have hk0 : 0 < k := by
      rcases Nat.eq_zero_or_pos k with e | e
      · rw [e, Nat.mul_zero] at hk; omega
      · exact e
    have h4 := Nat.le_of_dvd hk0 h
    have h5 : 0 < Nat.gcd P a := Nat.gcd_pos_of_pos_right _ h0
    generalize Nat.gcd P a = g at *
    rcases g with _ | _ | g
    · omega
    · rfl
    · have h6 : (g + 1 + 1) * k = g * k + k + k := by rw [Nat.add_mul, Nat.add_mul]; omega
      have h7 : 0 ≤ g * k := Nat.zero_le _
      omega
theorem fp_one (P : Nat) [NeZero P] : fp P 1 = 1 := by
  apply Fin.ext
  have h1 := fp_val P 1
  have h2 : ((1 : Fin P).val : Int) = ((1 % P : Nat) : Int) := rfl
  rw [Int.natCast_emod] at h2
  have : ((fp P 1).val : Int) = ((1 : Fin P).val : Int) := by rw [h1, h2]; rfl
  omega
theorem invs_fin {P : Nat} [NeZero P] (hp : PrimeN P) : Invs P := by
  intro a ha
  have h0 : 0 < a.val := by
    rcases Nat.eq_zero_or_pos a.val with e | e
    · exact absurd (Fin.ext (by simpa using e)) ha
    · exact e
  have hg := prime_gcd hp h0 a.isLt
  obtain ⟨x, y, h⟩ := bez P a.val
  rw [hg] at h
  refine ⟨fp P y, ?_⟩
  have h1 : fp P y * a = fp P (y * a.val) := by rw [fp_mul, fp_self]
  rw [h1, ← fp_one P, fp_eq]
  have h2 : y * (a.val : Int) = 1 + P * (-x) := by grind
  rw [h2, Int.add_mul_emod_self_left]
end Go.Proofs.Ytcobbbamocdbbaa
/-
  What the code's sums and multiples are, over a prime: sums and multiples of points.
-/
namespace Go.Proofs.Ytcobbbamocdbbaa
set_option linter.unusedVariables false
set_option linter.unusedSimpArgs false

/-- A right curve. -/
structure GoodK (K : Cz) (P : Nat) [NeZero P] : Prop where
  p : K.p = (P : Int)
  prime : PrimeN P
  odd : P % 2 = 1
  smooth : Smooth (fp P K.a) (fp P K.b)
/-- A point's numbers below P. -/
def ptR (P : Nat) [NeZero P] (p : Pz) : Option (Fin P × Fin P) := if p.inf then none else some (fp P p.x, fp P p.y)
/-- A point as it is answered. -/
def RdP (P : Nat) (p : Pz) : Prop := if p.inf then p = noZ else 0 ≤ p.x ∧ p.x < P ∧ 0 ≤ p.y ∧ p.y < P
/-- Such a point, and it is on the curve. -/
def Gd (K : Cz) (P : Nat) [NeZero P] (p : Pz) : Prop := RdP P p ∧ OnR (fp P K.a) (fp P K.b) (ptR P p)
theorem RdP.own {P : Nat} {p : Pz} (h : RdP P p) : ownZ p = p := by
  unfold RdP at h
  unfold ownZ
  cases hi : p.inf with
  | true => rw [hi, if_pos rfl] at h; rw [if_pos rfl, h]
  | false => rw [if_neg (by simp)]
theorem RdP.no {P : Nat} : RdP P noZ := by unfold RdP noZ; rw [if_pos rfl]
theorem gd_prime {P : Nat} (hp : PrimeN P) (a : Int) (h0 : 0 < a) (h1 : a < P) : gd P (a % P) = 1 := by
  rw [Int.emod_eq_of_lt (by omega) h1]
  unfold gd
  rw [show ((P : Int)).toNat = P by omega, prime_gcd hp (by omega) (by omega)]
  rfl
section
variable {P : Nat} [NeZero P] {K : Cz}
theorem ppos (P : Nat) [NeZero P] : (0 : Int) < P := by have := Nat.pos_of_ne_zero (NeZero.ne P); omega
theorem ptR_no : ptR P noZ = none := by unfold ptR noZ; rw [if_pos rfl]
theorem Gd.no : Gd K P noZ := ⟨RdP.no, by rw [ptR_no]; trivial⟩
theorem ptR_inj {p q : Pz} (hp : RdP P p) (hq : RdP P q) (h : ptR P p = ptR P q) : p = q := by
  unfold RdP at hp hq
  unfold ptR at h
  cases hpi : p.inf with
  | true =>
    rw [hpi, if_pos rfl] at hp
    cases hqi : q.inf with
    | true => rw [hqi, if_pos rfl] at hq; rw [hp, hq]
    | false => rw [hpi, hqi, if_pos rfl, if_neg (by simp)] at h; cases h
  | false =>
    cases hqi : q.inf with
    | true => rw [hpi, hqi, if_pos rfl, if_neg (by simp)] at h; cases h
    | false =>
      rw [hpi, hqi, if_neg (by simp), if_neg (by simp)] at h
      rw [hpi, if_neg (by simp)] at hp
      rw [hqi, if_neg (by simp)] at hq
      have h1 := congrArg (fun o => o.map Prod.fst) h
      have h2 := congrArg (fun o => o.map Prod.snd) h
      simp only [Option.map_some, Option.some.injEq] at h1 h2
      rw [fp_eq, Int.emod_eq_of_lt hp.1 hp.2.1, Int.emod_eq_of_lt hq.1 hq.2.1] at h1
      rw [fp_eq, Int.emod_eq_of_lt hp.2.2.1 hp.2.2.2, Int.emod_eq_of_lt hq.2.2.1 hq.2.2.2] at h2
      obtain ⟨px, py, pi⟩ := p
      obtain ⟨qx, qy, qi⟩ := q
      simp only at h1 h2 hpi hqi
      rw [h1, h2, hpi, hqi]
theorem sum_fp (g : GoodK K P) (p q : Pz) (s : Int) : fp P (sumX K p q s) = fp P s * fp P s - fp P p.x - fp P q.x ∧ fp P (sumY K p q s) = fp P s * (fp P p.x - fp P (sumX K p q s)) - fp P p.y := by
  refine ⟨?_, ?_⟩
  · unfold sumX
    rw [g.p]
    simp only [fp_mod, fp_sub, fp_mul]
  · unfold sumY
    rw [g.p]
    simp only [fp_mod, fp_sub, fp_mul]
theorem sum_rd (g : GoodK K P) (p q : Pz) (s : Int) : RdP P ⟨sumX K p q s, sumY K p q s, false⟩ := by
  have h := ppos P
  unfold RdP sumY
  rw [if_neg (by simp)]
  simp only
  unfold sumX
  rw [g.p]
  exact ⟨Int.emod_nonneg _ (by omega), Int.emod_lt_of_pos _ h, Int.emod_nonneg _ (by omega), Int.emod_lt_of_pos _ h⟩
theorem inv_fp {n a : Int} (h : Cg P (n * a) 1) : fp P n * fp P a = 1 := by
  rw [← fp_mul, ← fp_one P, fp_eq]
  exact h.emod
theorem add_good (g : GoodK K P) {p q : Pz} {r : Option Pz} (h : AddZ K p q r) (hp : Gd K P p) (hq : Gd K P q) : ∃ s, r = some s ∧ RdP P s ∧ SumR (fp P K.a) (ptR P p) (ptR P q) (ptR P s) := by
  have hP := ppos P
  have D := dom_fin g.prime g.odd
  obtain ⟨rp, op⟩ := hp
  obtain ⟨rq, oq⟩ := hq
  unfold AddZ at h
  rw [if_neg (by rw [g.p]; omega)] at h
  cases hpi : p.inf with
  | true =>
    rw [hpi, if_pos rfl, rq.own] at h
    exact ⟨q, h, rq, by rw [show ptR P p = none by unfold ptR; rw [if_pos hpi]]; rfl⟩
  | false =>
    rw [hpi, if_neg (by simp)] at h
    cases hqi : q.inf with
    | true =>
      rw [hqi, if_pos rfl, rp.own] at h
      exact ⟨p, h, rp, by rw [show ptR P q = none by unfold ptR; rw [if_pos hqi]]; exact sum_none _⟩
    | false =>
      rw [hqi, if_neg (by simp)] at h
      have ep : ptR P p = some (fp P p.x, fp P p.y) := by unfold ptR; rw [hpi, if_neg (by simp)]
      have eq : ptR P q = some (fp P q.x, fp P q.y) := by unfold ptR; rw [hqi, if_neg (by simp)]
      have es : ∀ x y, ptR P ⟨x, y, false⟩ = some (fp P x, fp P y) := fun x y => by unfold ptR; rw [if_neg (by simp)]
      rw [ep] at op ⊢
      rw [eq] at oq ⊢
      unfold AddN at h
      have ex : fp P q.x - fp P p.x = fp P ((q.x - p.x) % K.p) := by rw [g.p, fp_mod, fp_sub]
      have ey : fp P p.y + fp P q.y = fp P ((p.y + q.y) % K.p) := by rw [g.p, fp_mod, fp_add]
      by_cases hx : (q.x - p.x) % K.p = 0
      · have hru : runZ K p q = (p.y + q.y) % K.p := by unfold runZ; rw [if_neg (by simp [hx])]
        have hri : riseZ K p q = ((3 * ((p.x * p.x) % K.p)) % K.p + K.a) % K.p := by unfold riseZ; rw [if_neg (by simp [hx])]
        have hxx : fp P p.x = fp P q.x := (zero_of (by rw [ex, hx, fp_zero])).symm
        by_cases hy : runZ K p q = 0
        · rw [if_pos hy] at h
          exact ⟨noZ, h, RdP.no, by rw [ptR_no]; exact .inl ⟨hxx, by rw [ey, ← hru, hy, fp_zero], rfl⟩⟩
        · rw [if_neg hy] at h
          have h1 : 0 ≤ runZ K p q := by rw [hru, g.p]; exact Int.emod_nonneg _ (by omega)
          have h2 : runZ K p q < P := by rw [hru, g.p]; exact Int.emod_lt_of_pos _ hP
          rw [g.p, if_neg (by rw [gd_prime g.prime _ (by omega) h2]; simp), ← g.p] at h
          obtain ⟨n, hn0, hn1, hn, rfl⟩ := h
          rw [g.p] at hn
          have hnn := inv_fp hn
          have hy' : ¬ fp P p.y + fp P q.y = 0 := fun e => by
            rw [ey, ← hru, ← fp_zero P, fp_eq, Int.zero_emod, Int.emod_eq_of_lt h1 h2] at e
            exact hy e
          rw [hru, ← ey] at hnn
          have hl := line_same D op oq hxx hy' hnn rfl
          have el : fp P ((riseZ K p q * n) % K.p) = (fp P p.x * fp P p.x + fp P p.x * fp P p.x + fp P p.x * fp P p.x + fp P K.a) * fp P n := by
            rw [hri, g.p]
            simp only [fp_mod, fp_mul, fp_add]
            have : fp P 3 = 1 + 1 + 1 := by rw [show (3 : Int) = 1 + 1 + 1 by rfl, fp_add, fp_add, fp_one]
            rw [this]
            grind
          rw [← el] at hl
          obtain ⟨e1, e2⟩ := sum_fp g p q ((riseZ K p q * n) % K.p)
          exact ⟨_, rfl, sum_rd g p q _, by rw [es]; exact .inr ⟨fun e => hy' e.2, _, _, _, hl, e1, e2, rfl⟩⟩
      · have hru : runZ K p q = (q.x - p.x) % K.p := by unfold runZ; rw [if_pos hx]
        have hri : riseZ K p q = (q.y - p.y) % K.p := by unfold riseZ; rw [if_pos hx]
        have hy : runZ K p q ≠ 0 := by rw [hru]; exact hx
        rw [if_neg hy] at h
        have h1 : 0 ≤ runZ K p q := by rw [hru, g.p]; exact Int.emod_nonneg _ (by omega)
        have h2 : runZ K p q < P := by rw [hru, g.p]; exact Int.emod_lt_of_pos _ hP
        rw [g.p, if_neg (by rw [gd_prime g.prime _ (by omega) h2]; simp), ← g.p] at h
        obtain ⟨n, hn0, hn1, hn, rfl⟩ := h
        rw [g.p] at hn
        have hnn := inv_fp hn
        rw [hru, ← ex] at hnn
        have hx' : ¬ fp P p.x = fp P q.x := fun e => by
          rw [fp_eq] at e
          apply hx
          rw [g.p, Int.sub_emod, e, Int.sub_self, Int.zero_emod]
        have hl := line_apart op oq hnn rfl
        have el : fp P ((riseZ K p q * n) % K.p) = (fp P q.y - fp P p.y) * fp P n := by
          rw [hri, g.p]
          simp only [fp_mod, fp_mul, fp_sub]
        rw [← el] at hl
        obtain ⟨e1, e2⟩ := sum_fp g p q ((riseZ K p q * n) % K.p)
        exact ⟨_, rfl, sum_rd g p q _, by rw [es]; exact .inr ⟨fun e => hx' e.1, _, _, _, hl, e1, e2, rfl⟩⟩
/-- A multiple of the point G, as it is answered. -/
def Mt (K : Cz) (P : Nat) [NeZero P] (G : Pz) (m : Nat) (q : Pz) : Prop := RdP P q ∧ Tm (fp P K.a) (ptR P G) m (ptR P q)
theorem Mt.gd {G : Pz} (hG : Gd K P G) {m : Nat} {q : Pz} (h : Mt K P G m q) : Gd K P q := ⟨h.1, Tm.on hG.2 m _ h.2⟩
theorem Mt.uniq (g : GoodK K P) {G : Pz} {m : Nat} {q q' : Pz} (h : Mt K P G m q) (h' : Mt K P G m q') : q = q' := ptR_inj h.1 h'.1 (Tm.uniq (dom_fin g.prime g.odd) m _ _ h.2 h'.2)
theorem Mt.zero {G : Pz} : Mt K P G 0 noZ := ⟨RdP.no, ptR_no⟩
theorem Mt.add (g : GoodK K P) {G : Pz} (hG : Gd K P G) {a b : Nat} {p q : Pz} {r : Option Pz} (ha : Mt K P G a p) (hb : Mt K P G b q) (h : AddZ K p q r) : ∃ s, r = some s ∧ Mt K P G (a + b) s := by
  obtain ⟨s, hs, h1, h2⟩ := add_good g h (ha.gd hG) (hb.gd hG)
  exact ⟨s, hs, h1, Tm.add (dom_fin g.prime g.odd) (invs_fin g.prime) g.smooth hG.2 a _ ha.2 b _ _ hb.2 h2⟩
theorem Mt.one (g : GoodK K P) {G : Pz} (hG : Gd K P G) : Mt K P G 1 G := ⟨hG.1, none, rfl, rfl⟩
/-- A step. -/
def nb (m : Nat) (x : Int × Bool) : Nat := 2 * m + if x.2 then 1 else 0
theorem step_good (g : GoodK K P) {G : Pz} (hG : Gd K P G) {m : Nat} {q : Pz} (hq : Mt K P G m q) (x : Int × Bool) {r : Option Pz} (h : stepR K G x.2 q r) : ∃ s, r = some s ∧ Mt K P G (nb m x) s := by
  obtain ⟨d, hd, h⟩ := h
  obtain ⟨e, he, he2⟩ := Mt.add g hG hq hq hd
  rcases h with ⟨h1, _⟩ | ⟨e', h1, h2⟩
  · rw [h1] at he; cases he
  · rw [h1] at he
    cases he
    unfold nb
    cases hx : x.2 with
    | true =>
      rw [hx, if_pos rfl] at h2
      rw [if_pos rfl, Nat.two_mul]
      exact Mt.add g hG he2 (Mt.one g hG) h2
    | false =>
      rw [hx, if_neg (by simp)] at h2
      rw [if_neg (by simp), Nat.two_mul]
      exact ⟨_, h2, he2⟩
theorem fold_good (g : GoodK K P) {G : Pz} (hG : Gd K P G) : ∀ (l : List (Int × Bool)) (m : Nat) (S : Pz → Prop), (∀ q, S q → Mt K P G m q) → ∀ q, l.foldl (fun S x => fun q' => ∃ q, S q ∧ stepR K G x.2 q (some q')) S q → Mt K P G (l.foldl nb m) q
  | [], m, S, hS, q, h => hS q h
  | x :: l, m, S, hS, q, h => by
    refine fold_good g hG l (nb m x) _ ?_ q h
    rintro q' ⟨q0, h0, h1⟩
    obtain ⟨s, e, hs⟩ := step_good g hG (hS q0 h0) x h1
    cases e
    exact hs
theorem mf_good (g : GoodK K P) {G : Pz} (hG : Gd K P G) (l : List (Int × Bool)) (q : Pz) (h : MF K G l q) : Mt K P G (l.foldl nb 0) q := fold_good g hG l 0 _ (by rintro q rfl; exact Mt.zero) q h
theorem nb_bits (V : Int) (h0 : 0 ≤ V) (L : Nat) (hL : V < 2 ^ L) : ∀ k, k ≤ L → (((bitsOf V L k).foldl nb 0 : Nat) : Int) = V / 2 ^ (L - k)
  | 0, _ => by
    rw [Nat.sub_zero, Int.ediv_eq_zero_of_lt h0 hL]
    rfl
  | k + 1, hk => by
    have ih := nb_bits V h0 L hL k (by omega)
    rw [bitsOf_succ, List.foldl_append]
    have e : L - k = (L - (k + 1)) + 1 := by omega
    have e2 : L - 1 - k = L - (k + 1) := by omega
    rw [e, Int.pow_succ, ← Int.ediv_ediv_of_nonneg (by exact Int.le_of_lt (Int.pow_pos (by decide)))] at ih
    show ((nb _ (bitOf V L k) : Nat) : Int) = _
    unfold nb bitOf
    rw [e2]
    simp only
    obtain ⟨Y, hY⟩ : ∃ Y, V / 2 ^ (L - (k + 1)) = Y := ⟨_, rfl⟩
    have hb : bitAt V (L - (k + 1)) = Y % 2 := by unfold bitAt; rw [hY]
    rw [hY] at ih ⊢
    rw [hb]
    obtain ⟨m, hm⟩ : ∃ m, List.foldl nb 0 (bitsOf V L k) = m := ⟨_, rfl⟩
    rw [hm] at ih
    have hq : Y % 2 = 0 ∨ Y % 2 = 1 := by omega
    rw [show List.foldl (fun m x => 2 * m + if x.2 = true then 1 else 0) 0 (bitsOf V L k) = m from hm]
    rcases hq with h | h
    · rw [h, if_neg (by decide)]; omega
    · rw [h, if_pos (by decide)]; omega
/-- What Mul answers. -/
theorem mul_good (g : GoodK K P) {G : Pz} (hG : Gd K P G) {n : Nat} {r : Option Pz} (h : MulZ K G (bitsOf (n : Int) (blen n) (blen n)) r) : ∃ s, r = some s ∧ Mt K P G n s := by
  rcases h with ⟨q, rfl, hq⟩ | ⟨rfl, pre, x, q, _, hq, hs⟩
  · have h1 := mf_good g hG _ q hq
    have h2 := nb_bits (n : Int) (by omega) (blen n) (by exact_mod_cast blen_lt n) (blen n) (Nat.le_refl _)
    rw [Nat.sub_self, Int.pow_zero, Int.ediv_one] at h2
    rw [show (bitsOf (n : Int) (blen n) (blen n)).foldl nb 0 = n by omega] at h1
    exact ⟨q, rfl, h1⟩
  · obtain ⟨s, e, _⟩ := step_good g hG (mf_good g hG pre q hq) x hs
    cases e
theorem Mt.round (g : GoodK K P) {G : Pz} (hG : Gd K P G) {N : Nat} (hN : Mt K P G N noZ) {a : Nat} {p : Pz} (h : Mt K P G a p) : Mt K P G (a + N) p := ⟨h.1, Tm.round (dom_fin g.prime g.odd) (invs_fin g.prime) g.smooth hG.2 (by have := hN.2; rw [ptR_no] at this; exact this) h.2⟩
theorem Mt.times (g : GoodK K P) {G : Pz} (hG : Gd K P G) {N : Nat} (hN : Mt K P G N noZ) (k : Nat) : Mt K P G (k * N) noZ := ⟨RdP.no, by rw [ptR_no]; exact Tm.times (dom_fin g.prime g.odd) (invs_fin g.prime) g.smooth hG.2 (by have := hN.2; rw [ptR_no] at this; exact this) k⟩
end
end Go.Proofs.Ytcobbbamocdbbaa
