import Derived.Test.YtnacgkkklmlhaaaK04
import Derived.Test.YtnacgkkklmlhaaaK03
import Derived.Test.YtnacgkkklmlhaaaK02
import Derived.Deep.MidRow
import Derived.Deep.WholeRow
import Derived.Deep.LoopGhost
import Derived.Laws.CopyRow
/-
  Facts on what operations of a drawn region leave: numbers, points, boxes.
-/
namespace Go.Proofs.Ytnacgkkklmlhaaa
open Go.Shelf Go.RowKit
set_option linter.unusedVariables false
set_option linter.unusedSimpArgs false

/-- A point that was answered, or none: the value. -/
def Pr (w : World) (v : Value) (r : Option Pz) (L : Nat) : Prop := (∃ u p, r = some p ∧ v = .tuple #[u, .bool true] ∧ Pv w u p L) ∨ (r = none ∧ v = .tuple #[.agg #[.slice none 0 0, .slice none 0 0, .bool false], .bool false])
theorem Pr.old {w w' : World} {v : Value} {r : Option Pz} {L : Nat} (h : Pr w v r L) (hb : Below w.heap.size w w') : Pr w' v r L := by
  rcases h with ⟨u, p, h1, h2, h3⟩ | h
  · exact .inl ⟨u, p, h1, h2, h3.old hb⟩
  · exact .inr h
theorem Pa.pr {w w' : World} {e : Ending} {r : Option Pz} {L : Nat} (h : Pa w w' e r L) : Below w.heap.size w w' ∧ ∃ v, e = .returned v ∧ Pr w' v r L := by
  obtain ⟨hb, (⟨v, p, h1, h2, h3⟩ | ⟨h1, h2⟩)⟩ := h
  · exact ⟨hb, _, h2, .inl ⟨v, p, h1, rfl, h3⟩⟩
  · exact ⟨hb, _, h2, .inr ⟨h1, rfl⟩⟩
theorem Pv.apart {w w' : World} {c : Value} {p : Pz} {L r : Nat} {a1 a2 : Option Addr} {l1 k1 l2 k2 : Nat} {b : Bool} (h : Pv w c p L) (hs : PSl w r (.slice a1 l1 k1) (.slice a2 l2 k2) (.bool b)) (hb : Bt r w w') : Pv w' c p L := by
  obtain ⟨vx, vy, e, h1, h2⟩ := h
  exact ⟨vx, vy, e, h1.apart hs hb, h2.apart hs hb⟩
theorem Pr.parts {w : World} {v : Value} {r : Option Pz} {L : Nat} (h : Pr w v r L) : ∃ o1 l1 k1 o2 l2 k2 bb ok, v = .tuple #[.agg #[.slice o1 l1 k1, .slice o2 l2 k2, .bool bb], .bool ok] := by
  rcases h with ⟨u, p, h1, h2, vx, vy, rfl, ⟨a1, a2, a3, a4, rfl, a5⟩, ⟨b1, b2, b3, b4, rfl, b5⟩⟩ | ⟨_, h2⟩
  · exact ⟨_, _, _, _, _, _, _, _, h2⟩
  · exact ⟨_, _, _, _, _, _, _, _, h2⟩
/-- A point's box. -/
def BxP (B : Nat) (W : World) (v : Value) (c0 c1 c2 : Value) : Prop := ∃ b o1 l1 k1 o2 l2 k2 bb, v = .pointer (some ⟨b, 0, none⟩) ∧ B ≤ b ∧ c0 = .slice o1 l1 k1 ∧ c1 = .slice o2 l2 k2 ∧ c2 = .bool bb ∧ PSl W b c0 c1 c2
/-- A fact that stands while memory is made; and, if it says so, while a box is filled. -/
structure Fk where
  sem : List Value → World → Prop
  keep : ∀ vs w w', Below w.heap.size w w' → sem vs w → sem vs w'
  box' : Bool
  store : box' = true → ∀ vs w w' r a1 a2 l1 k1 l2 k2 b b1 b2 m1 n1 m2 n2 b', PSl w r (.slice a1 l1 k1) (.slice a2 l2 k2) (.bool b) → PSl w' r (.slice b1 m1 n1) (.slice b2 m2 n2) (.bool b') → Bt r w w' → sem vs w → sem vs w'
/-- A fact on values alone. -/
def Fk.pure (S : List Value → Prop) : Fk := ⟨fun vs _ => S vs, fun _ _ _ _ h => h, true, fun _ _ _ _ _ _ _ _ _ _ _ _ _ _ _ _ _ _ _ _ _ _ h => h⟩
def Fk.any : Fk := Fk.pure fun _ => True
def Fk.eq (e : Value) : Fk := Fk.pure fun vs => vs.getD 0 undef = e
def Fk.same : Fk := Fk.pure fun vs => vs.getD 0 undef = vs.getD 1 undef
def Fk.ext (i : Nat) : Fk := Fk.pure fun vs => ∃ t : Array Value, vs.getD 1 undef = .tuple t ∧ vs.getD 0 undef = t.getD i undef
def Fk.nv (R : Int → Prop) (L : Nat) : Fk := ⟨fun vs W => ∃ n, R n ∧ Nv W (vs.getD 0 undef) n L, fun vs w w' hb h => by
  obtain ⟨n, h1, h2⟩ := h
  exact ⟨n, h1, h2.old hb⟩, true, fun _ vs w w' r a1 a2 l1 k1 l2 k2 b b1 b2 m1 n1 m2 n2 b' hs _ hb h => by
  obtain ⟨n, h1, h2⟩ := h
  exact ⟨n, h1, h2.apart hs hb⟩⟩
def Fk.pv (R : Pz → Prop) (L : Nat) : Fk := ⟨fun vs W => ∃ p, R p ∧ Pv W (vs.getD 0 undef) p L, fun vs w w' hb h => by
  obtain ⟨n, h1, h2⟩ := h
  exact ⟨n, h1, h2.old hb⟩, true, fun _ vs w w' r a1 a2 l1 k1 l2 k2 b b1 b2 m1 n1 m2 n2 b' hs _ hb h => by
  obtain ⟨n, h1, h2⟩ := h
  exact ⟨n, h1, h2.apart hs hb⟩⟩
def Fk.pr (R : Option Pz → Prop) (L : Nat) : Fk := ⟨fun vs W => ∃ r, R r ∧ Pr W (vs.getD 0 undef) r L, fun vs w w' hb h => by
  obtain ⟨n, h1, h2⟩ := h
  exact ⟨n, h1, h2.old hb⟩, true, fun _ vs w w' r a1 a2 l1 k1 l2 k2 b b1 b2 m1 n1 m2 n2 b' hs _ hb h => by
  obtain ⟨n, h1, h2⟩ := h
  refine ⟨n, h1, ?_⟩
  rcases h2 with ⟨u, p, q1, q2, q3⟩ | h2
  · exact .inl ⟨u, p, q1, q2, q3.apart hs hb⟩
  · exact .inr h2⟩
def Fk.box (B : Nat) : Fk := ⟨fun vs W => ∃ c0 c1 c2, BxP B W (vs.getD 0 undef) c0 c1 c2, fun vs w w' hb h => by
  obtain ⟨c0, c1, c2, b, o1, l1, k1, o2, l2, k2, bb, h1, h2, h3, h4, h5, h6⟩ := h
  exact ⟨c0, c1, c2, b, o1, l1, k1, o2, l2, k2, bb, h1, h2, h3, h4, h5, h6.keep hb⟩, true, fun _ vs w w' r a1 a2 l1 k1 l2 k2 b b1 b2 m1 n1 m2 n2 b' hs hs' hb h => by
  obtain ⟨c0, c1, c2, g, o1, p1, q1, o2, p2, q2, bb, h1, h2, h3, h4, h5, h6⟩ := h
  by_cases hg : g = r
  · subst hg
    exact ⟨_, _, _, g, b1, m1, n1, b2, m2, n2, b', h1, h2, rfl, rfl, rfl, hs'⟩
  · exact ⟨c0, c1, c2, g, o1, p1, q1, o2, p2, q2, bb, h1, h2, h3, h4, h5, (hb.block g h6.lt hg).trans h6⟩⟩
def Fk.sto (B : Nat) : Fk := ⟨fun vs W => ∃ c0 c1 c2, vs.getD 1 undef = .agg #[c0, c1, c2] ∧ BxP B W (vs.getD 0 undef) c0 c1 c2, fun vs w w' hb h => by
  obtain ⟨c0, c1, c2, h0, b, o1, l1, k1, o2, l2, k2, bb, h1, h2, h3, h4, h5, h6⟩ := h
  exact ⟨c0, c1, c2, h0, b, o1, l1, k1, o2, l2, k2, bb, h1, h2, h3, h4, h5, h6.keep hb⟩, false, fun h => by cases h⟩
theorem sem_keep (f : Fk) (vs : List Value) {w w' : World} (hb : Below w.heap.size w w') (h : f.sem vs w) : f.sem vs w' := f.keep vs w w' hb h
theorem sem_store (f : Fk) (vs : List Value) {w w' : World} {r : Nat} {a1 a2 : Option Addr} {l1 k1 l2 k2 : Nat} {b : Bool} (hs : PSl w r (.slice a1 l1 k1) (.slice a2 l2 k2) (.bool b)) {b1 b2 : Option Addr} {m1 n1 m2 n2 : Nat} {b' : Bool} (hs' : PSl w' r (.slice b1 m1 n1) (.slice b2 m2 n2) (.bool b')) (hb : Bt r w w') (hf : f.box' = true) (h : f.sem vs w) : f.sem vs w' := f.store hf vs w w' r a1 a2 l1 k1 l2 k2 b b1 b2 m1 n1 m2 n2 b' hs hs' hb h
/-- But for one, no fact is one of a box that was filled. -/
theorem box_but (i : Nat) (fs : List Fk) (h : (List.range fs.length).all (fun j => decide (j = i) || (fs.map Fk.box').getD j true) = true) : ∀ j, j ≠ i → (fs.map Fk.box').getD j true = true := by
  intro j hj
  rw [List.all_eq_true] at h
  by_cases hl : j < fs.length
  · have := h j (List.mem_range.2 hl)
    rw [Bool.or_eq_true] at this
    rcases this with this | this
    · exact absurd (by simpa using this) hj
    · exact this
  · rw [List.getD_eq_getElem?_getD, List.getElem?_eq_none (by simpa using Nat.le_of_not_lt hl)]
    rfl
theorem fs_keep (fs : List Fk) (j : Nat) (vs : List Value) {w w' : World} (hb : Below w.heap.size w w') (h : (fs.map Fk.sem).getD j (fun _ _ => True) vs w) : (fs.map Fk.sem).getD j (fun _ _ => True) vs w' := by
  rw [List.getD_eq_getElem?_getD, List.getElem?_map] at h ⊢
  cases hf : fs[j]? with
  | none => trivial
  | some f => rw [hf] at h; exact sem_keep f vs hb h
theorem fs_store (fs : List Fk) (j : Nat) (vs : List Value) {w w' : World} {r : Nat} {a1 a2 : Option Addr} {l1 k1 l2 k2 : Nat} {b : Bool} (hs : PSl w r (.slice a1 l1 k1) (.slice a2 l2 k2) (.bool b)) {b1 b2 : Option Addr} {m1 n1 m2 n2 : Nat} {b' : Bool} (hs' : PSl w' r (.slice b1 m1 n1) (.slice b2 m2 n2) (.bool b')) (hb : Bt r w w') (hf : (fs.map Fk.box').getD j true = true) (h : (fs.map Fk.sem).getD j (fun _ _ => True) vs w) : (fs.map Fk.sem).getD j (fun _ _ => True) vs w' := by
  rw [List.getD_eq_getElem?_getD, List.getElem?_map] at h hf ⊢
  cases hq : fs[j]? with
  | none => trivial
  | some f => rw [hq] at h hf; exact sem_store f vs hs hs' hb hf h
theorem wanted_at {ops : Array Oper} {a : Act} {j d : Nat} {b : Bool} {oj : Oper} (h1 : ops[j]? = some oj) (h2 : oj.dst = some d) (h : a.tmps.getD d undef = .bool b) : (yielded ops a.tmps j == some b) = true := by
  unfold yielded
  rw [h1]
  simp only [Option.bind_some, h2]
  rw [Array.getD_eq_getD_getElem?] at h
  cases he : a.tmps[d]? with
  | none => rw [he] at h; cases h
  | some v => rw [he] at h; simp only [Option.getD_some] at h; rw [h]; simp
/-- A point in a box. -/
def PtB (B : Nat) (W : World) (b : Nat) (p : Pz) (L : Nat) : Prop := B ≤ b ∧ ∃ o1 l1 k1 o2 l2 k2, PSl W b (.slice o1 l1 k1) (.slice o2 l2 k2) (.bool p.inf) ∧ Nv W (.slice o1 l1 k1) p.x L ∧ Nv W (.slice o2 l2 k2) p.y L
theorem PtB.old {B : Nat} {W W' : World} {b : Nat} {p : Pz} {L : Nat} (h : PtB B W b p L) (hb : Below W.heap.size W W') : PtB B W' b p L := by
  obtain ⟨h0, o1, l1, k1, o2, l2, k2, h1, h2, h3⟩ := h
  exact ⟨h0, o1, l1, k1, o2, l2, k2, h1.keep hb, h2.old hb, h3.old hb⟩
/-- What 'p, ok := ..' leaves. -/
theorem pair_end {R : Option Pz → Prop} {L B : Nat} {W : World} {vs1 vs2 vs3 vs4 vs5 vs6 : List Value} (h1 : (Fk.pr R L).sem vs1 W) (h2 : Fk.same.sem vs2 W) (h3 : (Fk.ext 0).sem vs3 W) (h4 : (Fk.ext 1).sem vs4 W) (h5 : (Fk.sto B).sem vs5 W) (h6 : Fk.same.sem vs6 W)
    (e1 : vs2.getD 1 undef = vs1.getD 0 undef) (e2 : vs3.getD 1 undef = vs2.getD 0 undef) (e3 : vs4.getD 1 undef = vs2.getD 0 undef) (e4 : vs5.getD 1 undef = vs3.getD 0 undef) (e5 : vs6.getD 1 undef = vs4.getD 0 undef) :
    ∃ r b, R r ∧ vs5.getD 0 undef = .pointer (some ⟨b, 0, none⟩) ∧ ((∃ p, r = some p ∧ vs6.getD 0 undef = .bool true ∧ PtB B W b p L) ∨ (r = none ∧ vs6.getD 0 undef = .bool false ∧ PtB B W b ⟨0, 0, false⟩ L)) := by
  obtain ⟨r, hr, hp⟩ := h1
  have h2' : vs2.getD 0 undef = vs2.getD 1 undef := h2
  have h6' : vs6.getD 0 undef = vs6.getD 1 undef := h6
  obtain ⟨t3, q3, q3'⟩ := h3
  obtain ⟨t4, q4, q4'⟩ := h4
  obtain ⟨c0, c1, c2, hc, b, o1, l1, k1, o2, l2, k2, bb, hb, hB, rfl, rfl, rfl, hs⟩ := h5
  rw [e2, h2', e1] at q3
  rw [e3, h2', e1] at q4
  rw [e4, q3'] at hc
  rw [e5, q4'] at h6'
  refine ⟨r, b, hr, hb, ?_⟩
  rcases hp with ⟨u, p, h7, h8, vx, vy, rfl, n1, n2⟩ | ⟨h7, h8⟩
  · left
    rw [h8] at q3 q4
    injection q3 with q3
    injection q4 with q4
    subst q3
    subst q4
    injection hc with hc
    have hl := congrArg Array.toList hc
    simp only [List.cons.injEq, and_true] at hl
    obtain ⟨rfl, rfl, hbb⟩ := hl
    injection hbb with hbb
    subst hbb
    exact ⟨p, h7, h6', hB, o1, l1, k1, o2, l2, k2, hs, n1, n2⟩
  · right
    rw [h8] at q3 q4
    injection q3 with q3
    injection q4 with q4
    subst q3
    subst q4
    injection hc with hc
    have hl := congrArg Array.toList hc
    simp only [List.cons.injEq, and_true] at hl
    obtain ⟨h9, h10, hbb⟩ := hl
    injection hbb with hbb
    subst hbb
    rw [← h9, ← h10] at hs
    exact ⟨h7, h6', hB, none, 0, 0, none, 0, 0, hs, nv_nil _ _, nv_nil _ _⟩
section
variable {P : Program} {ops : Array Oper} {Q : Exit → Act → World → Prop}
/-- An operation that only makes memory: what is asked of it. -/
theorem GInv.grow {rd : List (List Nat)} {fs : List Fk} {a0 : Act} {w0 : World} {listed : Array Bool} {a : Act} {w : World} (h : GInv .any ops rd (fs.map Fk.sem) a0 w0 listed a w) {i : Nat} {dst : Option Tmp} {KK : Act → World → Prop}
    (hK : ∀ v w', Below w0.heap.size w0 w' → (∀ j vs, listed.getD j false = true → (fs.map Fk.sem).getD j (fun _ _ => True) vs w → (fs.map Fk.sem).getD j (fun _ _ => True) vs w') → (fs.map Fk.sem).getD i (fun _ _ => True) ((rd.getD i []).map fun s => (a.put dst v).tmps.getD s undef) w' → KK (a.put dst v) w') (v : Value) (w' : World) (hb : Below w.heap.size w w') (hf : (fs.map Fk.sem).getD i (fun _ _ => True) ((rd.getD i []).map fun s => (a.put dst v).tmps.getD s undef) w') : KK (a.put dst v) w' :=
  hK v w' (h.below.trans (hb.mono h.below.size)) (fun j vs _ hj => fs_keep fs j vs hb hj) hf
/-- An operation that fills a box. -/
theorem GInv.fill {rd : List (List Nat)} {fs : List Fk} {a0 : Act} {w0 : World} {listed : Array Bool} {a : Act} {w : World} (h : GInv .any ops rd (fs.map Fk.sem) a0 w0 listed a w) {i : Nat} {dst : Option Tmp} {KK : Act → World → Prop}
    (hK : ∀ v w', Below w0.heap.size w0 w' → (∀ j vs, listed.getD j false = true → (fs.map Fk.sem).getD j (fun _ _ => True) vs w → (fs.map Fk.sem).getD j (fun _ _ => True) vs w') → (fs.map Fk.sem).getD i (fun _ _ => True) ((rd.getD i []).map fun s => (a.put dst v).tmps.getD s undef) w' → KK (a.put dst v) w') (hli : listed.getD i false = false) (v : Value) (r : Nat) {a1 a2 : Option Addr} {l1 k1 l2 k2 : Nat} {b : Bool} (hs : PSl w r (.slice a1 l1 k1) (.slice a2 l2 k2) (.bool b)) (b1 b2 : Option Addr) (m1 n1 m2 n2 : Nat) (b' : Bool) (hr : w0.heap.size ≤ r) (hbx : ∀ j, j ≠ i → (fs.map Fk.box').getD j true = true)
    (hf : (fs.map Fk.sem).getD i (fun _ _ => True) ((rd.getD i []).map fun s => (a.put dst v).tmps.getD s undef) (((w.setCell ⟨r, 0, none⟩ (.slice b1 m1 n1)).setCell ⟨r, 1, none⟩ (.slice b2 m2 n2)).setCell ⟨r, 2, none⟩ (.bool b'))) : KK (a.put dst v) (((w.setCell ⟨r, 0, none⟩ (.slice b1 m1 n1)).setCell ⟨r, 1, none⟩ (.slice b2 m2 n2)).setCell ⟨r, 2, none⟩ (.bool b')) :=
  hK v _ (h.below.trans ((Bt.set3 w r _ _ _).below hr h.below.size)) (fun j vs hl hj => fs_store fs j vs hs (hs.set3 _ _ _) (Bt.set3 w r _ _ _) (hbx j (by rintro rfl; rw [hli] at hl; cases hl)) hj) hf
theorem GInv.kept {md : Region.Mode} {rd : List (List Nat)} {Fs : List (List Value → World → Prop)} {a0 : Act} {w0 : World} {listed : Array Bool} {a : Act} {w : World} (h : GInv md ops rd Fs a0 w0 listed a w) (s : Nat) (hs : (List.range ops.size).all (fun j => !dstIs ops j s) = true) : a.tmps.getD s undef = a0.tmps.getD s undef := by
  refine h.old s fun j _ => ?_
  rw [List.all_eq_true] at hs
  by_cases hjs : j < ops.size
  · simpa using hs j (List.mem_range.2 hjs)
  · unfold dstIs
    rw [Array.getElem?_eq_none (by omega)]
end
end Go.Proofs.Ytnacgkkklmlhaaa
/-
  Contracts of the document's answer: the product (Mul).
-/
namespace Go.Proofs.Ytnacgkkklmlhaaa
open Go.RowKit
set_option linter.unusedVariables false
set_option linter.unusedSimpArgs false

theorem Row.drewN {e : TypeId} {k : IntKind} {w : World} {g : Nat} {xs : List Int} (h : Row e k w g xs) (n : Nat) : Row e k (w.drewN n) g xs := h

/-- What Mul has gathered: i digits' rows whole, k products of the next; what is carried. -/
def RMuls (xs ys : List Int) (n i k : Nat) (cur : List Int) (c : Int) : Prop :=
  cur.length = n ∧ Dg D16 cur ∧ 0 ≤ c ∧ c < 65536 ∧ val D16 cur + D16 ^ (i + k) * c = low D16 xs i * val D16 ys + D16 ^ i * (xs.getD i 0 * low D16 ys k)
theorem RMuls.zero (xs ys : List Int) (n : Nat) : RMuls xs ys n 0 0 (List.replicate n 0) 0 :=
  ⟨by simp, Dg.zeros D16_pos _, by decide, by decide, by rw [val_replicate, low_zero, low_zero]; simp⟩
theorem RMuls.top {xs ys : List Int} {n i k : Nat} {cur : List Int} {c : Int} (h : RMuls xs ys n i k cur c) (hx : Dg D16 xs) (hy : Dg D16 ys) (hi : i < xs.length) (hc : 0 < c) : k ≤ ys.length := by
  obtain ⟨h1, h2, h3, h4, h5⟩ := h
  by_cases hk : k ≤ ys.length
  · exact hk
  · exfalso
    have hv := val_nonneg D16_pos h2
    have hlow : low D16 ys k = val D16 ys := low_all _ _ _ (by have := top_le ys; omega)
    rw [hlow] at h5
    have hY := val_lt D16_pos hy
    have hY0 := val_nonneg D16_pos hy
    have e1 : low D16 xs i * val D16 ys + D16 ^ i * (xs.getD i 0 * val D16 ys) = low D16 xs (i + 1) * val D16 ys := by rw [low_succ]; grind
    rw [e1] at h5
    have hX : low D16 xs (i + 1) < D16 ^ (i + 1) := by
      have a := val_lt D16_pos (hx.take (i + 1))
      have b : (xs.take (i + 1)).length = i + 1 := by simp; omega
      rw [b] at a; exact a
    have hX0 : 0 ≤ low D16 xs (i + 1) := val_nonneg D16_pos (hx.take _)
    have hp1 : 0 < D16 ^ (i + 1) := Int.pow_pos D16_pos
    have hp2 : 0 < D16 ^ ys.length := Int.pow_pos D16_pos
    have m1 : low D16 xs (i + 1) * val D16 ys ≤ low D16 xs (i + 1) * D16 ^ ys.length := Int.mul_le_mul_of_nonneg_left (by omega) hX0
    have m2 : (low D16 xs (i + 1) + 1) * D16 ^ ys.length ≤ D16 ^ (i + 1) * D16 ^ ys.length := Int.mul_le_mul_of_nonneg_right (by omega) (by omega)
    rw [Int.add_mul, ← Int.pow_add] at m2
    have m3 := pow_mono (B := D16) (by decide) (show i + 1 + ys.length ≤ i + k by omega)
    have m4 : D16 ^ (i + k) * 1 ≤ D16 ^ (i + k) * c := Int.mul_le_mul_of_nonneg_left (by omega) (by have : 0 < D16 ^ (i + k) := Int.pow_pos D16_pos; omega)
    omega
theorem prod16 (x y : Int) (hx : 0 ≤ x ∧ x < 65536) (hy : 0 ≤ y ∧ y < 65536) : 0 ≤ x * y ∧ x * y ≤ 4294836225 := by
  have a := Int.mul_nonneg hx.1 hy.1
  have b : x * y ≤ 65535 * 65535 := Int.mul_le_mul (by omega) (by omega) hy.1 (by decide)
  omega
theorem RMuls.step {xs ys : List Int} {n i k : Nat} {cur : List Int} {c : Int} (h : RMuls xs ys n i k cur c) (hx : Dg D16 xs) (hy : Dg D16 ys) (hn : i + k < n) :
    RMuls xs ys n i (k + 1) (cur.set (i + k) ((cur.getD (i + k) 0 + c + xs.getD i 0 * ys.getD k 0) % 65536)) ((cur.getD (i + k) 0 + c + xs.getD i 0 * ys.getD k 0) / 65536) := by
  obtain ⟨h1, h2, h3, h4, h5⟩ := h
  have gx := hx.getD D16_pos i
  have gy := hy.getD D16_pos k
  have gc := h2.getD D16_pos (i + k)
  have hD : D16 = 65536 := rfl
  have hp := prod16 (xs.getD i 0) (ys.getD k 0) (by rw [hD] at gx; exact gx) (by rw [hD] at gy; exact gy)
  rw [hD] at gc
  refine ⟨by simp [h1], h2.set _ (by rw [hD]; omega), by omega, by omega, ?_⟩
  rw [val_set _ _ _ _ (by omega), low_succ, show i + (k + 1) = (i + k) + 1 by omega, Int.pow_succ]
  have e : cur.getD (i + k) 0 + c + xs.getD i 0 * ys.getD k 0 = (cur.getD (i + k) 0 + c + xs.getD i 0 * ys.getD k 0) % 65536 + 65536 * ((cur.getD (i + k) 0 + c + xs.getD i 0 * ys.getD k 0) / 65536) := by omega
  generalize (cur.getD (i + k) 0 + c + xs.getD i 0 * ys.getD k 0) % 65536 = r at *
  generalize (cur.getD (i + k) 0 + c + xs.getD i 0 * ys.getD k 0) / 65536 = q at *
  generalize cur.getD (i + k) 0 = z at *
  generalize xs.getD i 0 = x at *
  generalize ys.getD k 0 = y at *
  generalize val D16 cur = V at *
  generalize low D16 ys k = L at *
  generalize low D16 xs i = X at *
  generalize val D16 ys = Y at *
  have e2 : D16 ^ (i + k) = D16 ^ i * D16 ^ k := Int.pow_add _ _ _
  rw [e2] at h5 ⊢
  generalize D16 ^ i = p at *
  generalize D16 ^ k = s at *
  rw [hD]
  have e3 : r = z + c + x * y - 65536 * q := by omega
  rw [e3]
  grind
theorem RMuls.next {xs ys : List Int} {n i k : Nat} {cur : List Int} (h : RMuls xs ys n i k cur 0) (hk : ys.length ≤ k) : RMuls xs ys n (i + 1) 0 cur 0 := by
  obtain ⟨h1, h2, h3, h4, h5⟩ := h
  refine ⟨h1, h2, h3, h4, ?_⟩
  have hlow : low D16 ys k = val D16 ys := low_all _ _ _ (by have := top_le ys; omega)
  rw [hlow] at h5
  rw [low_succ, low_zero]
  grind
theorem RMuls.done {xs ys : List Int} {n k : Nat} {cur : List Int} (h : RMuls xs ys n xs.length 0 cur 0) : val D16 cur = val D16 xs * val D16 ys := by
  have := h.2.2.2.2
  rw [low_zero, low_len] at this
  simpa using this

set_option maxHeartbeats 4000000 in
/-- the document's Mul. -/
theorem rMul_any (ao bo : Option Addr) (la ca lb cb : Nat) (xs ys : List Int) (w : World) (h : NumIn .i64 D16 w ao la ca xs) (h' : NumIn .i64 D16 w bo lb cb ys) (hla : la ≤ 1000000) (hlb : lb ≤ 1000000) :
    Calls Try.prog 49 #[.slice ao la ca, .slice bo lb cb] w fun e w' => ∃ v, e = .returned v ∧ NumOut .i64 D16 w w' v (val D16 xs * val D16 ys) (la + lb + 1) := by
  have hl := h.len
  have hl' := h'.len
  go_enter Try.func49, Try.ntmps49
  go_wp2_with (at_make; refine wpList_make_row _ rfl _ _ 41 rfl 3 .i64 8 Try.underlying41 Try.infoI _ _ _ _ (la + lb + 1) rfl rfl (by omega) (by omega) (by omega) (by unfold maxLen; omega) ?_)
  intro w3 hrow hbel
  go_wp2
  go_loopw [6] (fun vi wr => ∃ (i : Nat) (cur : List Int), i ≤ la ∧ vi = .int .i64 i ∧ Row 3 .i64 wr w.heap.size cur ∧ RMuls xs ys (la + lb + 1) i 0 cur 0 ∧ Below w.heap.size w wr) (fun vi _ => la - (intOf vi).toNat)
  case atStart => exact ⟨0, _, Nat.zero_le _, rfl, hrow, RMuls.zero _ _ _, hbel⟩
  case round =>
    obtain ⟨i, cur0, hi, rfl, hrw0, hm0, hb0⟩ := hrel
    clear hrow hbel
    by_cases hlt : i < la
    · have HR0 : Hid (Row 3 .i64 wr w.heap.size cur0) := hrw0
      have HM0 : Hid (RMuls xs ys (la + lb + 1) i 0 cur0 0) := hm0
      have HB0 : Hid (Below w.heap.size w wr) := hb0
      clear hrw0 hm0 hb0
      go_wp2
      go_loopw [7, 8] (fun vc vk wr => ∃ (k : Nat) (c : Int) (cur : List Int), vk = .int .i64 k ∧ vc = .int .i64 c ∧ Row 3 .i64 wr w.heap.size cur ∧ RMuls xs ys (la + lb + 1) i k cur c ∧ Below w.heap.size w wr) (fun _ vk _ => lb + 1 - (intOf vk).toNat)
      case atStart => exact ⟨0, 0, cur0, rfl, rfl, HR0.out, HM0.out, HB0.out⟩
      case round =>
        obtain ⟨k, c, cur, rfl, rfl, hrw, hm, hb⟩ := hrel
        clear HR0 HM0 HB0
        have hc0 := hm.2.2.1
        have hc1 := hm.2.2.2.1
        by_cases hgo : k < lb ∨ 0 < c
        · have hk : k ≤ lb := by
            rcases hgo with hgo | hgo
            · omega
            · have := hm.top h.dg h'.dg (by omega) hgo; omega
          have hlen := hm.1
          have hx := h.lies.old hb
          obtain ⟨b, off, rfl, hblk, hcs⟩ := hx.at (by omega)
          have hcx := hcs i hlt
          have hfr := hrw.frozen (i + k)
          have hcl := hrw.cell (i + k) (by omega)
          have gx := h.dg.getD D16_pos i
          have gy := h'.dg.getD D16_pos k
          have gz := hm.2.1.getD D16_pos (i + k)
          have HS : Hid (RMuls xs ys (la + lb + 1) i (k + 1) (cur.set (i + k) ((cur.getD (i + k) 0 + c + xs.getD i 0 * ys.getD k 0) % 65536)) ((cur.getD (i + k) 0 + c + xs.getD i 0 * ys.getD k 0) / 65536)) := hm.step h.dg h'.dg (by omega)
          have HB : Hid (Below w.heap.size w wr) := hb
          have HR : Hid (Row 3 .i64 wr w.heap.size cur) := hrw
          have hp := prod16 (xs.getD i 0) (ys.getD k 0) gx gy
          by_cases hkl : k < lb
          · have hy := h'.lies.old hb
            obtain ⟨b2, off2, rfl, hblk2, hcs2⟩ := hy.at (by omega)
            have hcy := hcs2 k hkl
            have hp1 := hp.1
            have hp2 := hp.2
            have gz1 := gz.1
            have gz2 : cur.getD (i + k) 0 < 65536 := gz.2
            generalize cur.getD (i + k) 0 = z at *
            have HX : Hid (xs.getD i 0 * ys.getD k 0 = xs.getD i 0 * ys.getD k 0) := rfl
            generalize xs.getD i 0 = x at *
            generalize ys.getD k 0 = y at *
            have hmul : IntKind.i64.wrap (x * y) = x * y := IntWalk.i64_in _ (by omega)
            clear hrw hm hb hx hcs hy hcs2 h h' hgo gx gy gz hp HX
            go_wp2
            go_quiet (fail)
            go_wp2
            go_roundw
            case rel => exact ⟨k + 1, _, _, by go_num, rfl, (HR.out.drewN _).set _ _, HS.out, (HB.out.trans (Drew.below ⟨_, rfl⟩ _)).setCell (Nat.le_refl _) _⟩
            case measure => simp [intOf] <;> omega
          · have hz : ys.getD k 0 = 0 := by simp [List.getD, List.getElem?_eq_none (show ys.length ≤ k by omega)]
            rw [hz] at HS
            simp only [Int.mul_zero, Int.add_zero] at HS
            have gz1 := gz.1
            have gz2 : cur.getD (i + k) 0 < 65536 := gz.2
            generalize cur.getD (i + k) 0 = z at *
            have hcp : 0 < c := by omega
            clear hrw hm hb hx hcs h h' hgo gx gy gz hp hcx
            go_wp2
            go_roundw
            case rel => exact ⟨k + 1, _, _, by go_num, rfl, HR.out.set _ _, HS.out, HB.out.setCell (Nat.le_refl _) _⟩
            case measure => simp [intOf] <;> omega
        · obtain rfl : c = 0 := by omega
          have hkl : lb ≤ k := by omega
          have HS : Hid (RMuls xs ys (la + lb + 1) (i + 1) 0 cur 0) := hm.next (by omega)
          clear hm h h' hgo hc0 hc1
          go_wp2
          go_roundw
          case rel => exact ⟨i + 1, cur, by omega, by go_num, hrw, HS.out, hb⟩
          case measure => simp [intOf] <;> omega
    · obtain rfl : i = la := by omega
      have hlen := hm0.1
      have HV : Hid (val D16 cur0 = val D16 xs * val D16 ys) := by rw [← hl] at hm0; exact hm0.done (k := 0)
      have HR : Hid (NumIn .i64 D16 wr (some ⟨w.heap.size, 0, none⟩) (i + lb + 1) (i + lb + 1) cur0) := by have := hrw0.num hm0.2.1 (by omega); rw [hlen] at this; exact this
      have HB : Hid (Below w.heap.size w wr) := hb0
      clear hm0 hb0 hrw0 hlen h h'
      go_wp2_with fail
      refine (rtrim_any _ _ _ _ _ HR.out).mono ?_
      rintro e w4 ⟨rfl, rfl⟩
      go_wp2
      go_ret
      exact ⟨_, rfl, HR.out.out HB.out _ HV.out _ (by omega)⟩
end Go.Proofs.Ytnacgkkklmlhaaa
/-
  Contracts of the document's small numbers by which its table is found: add, mul, shifted, cmp.
-/
namespace Go.Proofs.Ytnacgkkklmlhaaa
open Go.RowKit
set_option linter.unusedVariables false
set_option linter.unusedSimpArgs false

/-- A number of digits in memory, whatever its zeros. -/
def Nb (w w' : World) (v : Value) (n : Int) (L : Nat) : Prop :=
  ∃ ao len cap xs, v = .slice ao len cap ∧ NumIn .i64 D16 w' ao len cap xs ∧ val D16 xs = n ∧ len ≤ L ∧ Below w.heap.size w w'

theorem dg_room (xs : List Int) (hd : Dg D16 xs) (bit : Nat) (h : val D16 xs % 2 ^ (bit + 1) = 0) : xs.getD (bit / 16) 0 + 2 ^ (bit % 16) < 65536 := by
  rw [digit_at D16_pos xs hd (bit / 16)]
  obtain ⟨m, hm⟩ : ∃ m, val D16 xs = 2 ^ (bit + 1) * m := ⟨val D16 xs / 2 ^ (bit + 1), by have := Int.emod_add_mul_ediv (val D16 xs) (2 ^ (bit + 1)); omega⟩
  have e : (2 : Int) ^ (bit + 1) = D16 ^ (bit / 16) * 2 ^ (bit % 16 + 1) := by
    rw [show D16 = 2 ^ 16 from rfl, ← Int.pow_mul, ← Int.pow_add, show 16 * (bit / 16) + (bit % 16 + 1) = bit + 1 by omega]
  have hp : (0 : Int) < D16 ^ (bit / 16) := Int.pow_pos D16_pos
  rw [hm, e, Int.mul_assoc, Int.mul_ediv_cancel_left _ (by omega)]
  have hr : bit % 16 < 16 := Nat.mod_lt _ (by decide)
  generalize bit % 16 = r at *
  have hD : D16 = 65536 := rfl
  rw [hD]
  have : r = 0 ∨ r = 1 ∨ r = 2 ∨ r = 3 ∨ r = 4 ∨ r = 5 ∨ r = 6 ∨ r = 7 ∨ r = 8 ∨ r = 9 ∨ r = 10 ∨ r = 11 ∨ r = 12 ∨ r = 13 ∨ r = 14 ∨ r = 15 := by omega
  rcases this with rfl | rfl | rfl | rfl | rfl | rfl | rfl | rfl | rfl | rfl | rfl | rfl | rfl | rfl | rfl | rfl <;> simp <;> omega

theorem pow_bit (bit : Nat) : (2 : Int) ^ bit = D16 ^ (bit / 16) * 2 ^ (bit % 16) := by
  rw [show D16 = 2 ^ 16 from rfl, ← Int.pow_mul, ← Int.pow_add, Nat.div_add_mod]
theorem pow2_16 (r : Nat) (h : r < 16) : (0 : Int) < 2 ^ r ∧ (2 : Int) ^ r ≤ 32768 := by
  have : r = 0 ∨ r = 1 ∨ r = 2 ∨ r = 3 ∨ r = 4 ∨ r = 5 ∨ r = 6 ∨ r = 7 ∨ r = 8 ∨ r = 9 ∨ r = 10 ∨ r = 11 ∨ r = 12 ∨ r = 13 ∨ r = 14 ∨ r = 15 := by omega
  rcases this with rfl | rfl | rfl | rfl | rfl | rfl | rfl | rfl | rfl | rfl | rfl | rfl | rfl | rfl | rfl | rfl <;> decide

theorem Dg_splice {B : Int} (hB : 0 < B) (ys : List Int) (hd : Dg B ys) (n m : Nat) : Dg B (ys.take n ++ List.replicate m 0) :=
  (hd.take n).append (Dg.zeros hB m)
theorem val_splice (B : Int) (ys : List Int) (n m : Nat) (h : ys.length = n) : val B (ys.take n ++ List.replicate m 0) = val B ys := by
  rw [List.take_of_length_le (by omega), val_append, val_replicate]; simp

set_option maxHeartbeats 1000000 in
/-- the document's add: a bit more. -/
theorem sAdd_any (ao : Option Addr) (la ca : Nat) (xs : List Int) (bit : Nat) (w : World) (h : NumIn .i64 D16 w ao la ca xs) (hbit : bit ≤ 40) (hla : la ≤ 3) (hm : val D16 xs % 2 ^ (bit + 1) = 0) :
    Calls Try.prog 77 #[.slice ao la ca, .int .i64 bit] w fun e w' => ∃ v, e = .returned v ∧ Nb w w' v (val D16 xs + 2 ^ bit) 3 := by
  have hroom := dg_room xs h.dg bit hm
  have hpb := pow_bit bit
  have hl := h.len
  obtain ⟨q, hq⟩ : ∃ q, bit / 16 = q := ⟨_, rfl⟩
  obtain ⟨r, hr⟩ : ∃ r, bit % 16 = r := ⟨_, rfl⟩
  have hqI : (bit : Int) / 16 = (q : Int) := by omega
  have hrI : (bit : Int) % 16 = (r : Int) := by omega
  have hr16 : r < 16 := by omega
  have hq3 : q < 3 := by omega
  rw [hq, hr] at hroom hpb
  obtain ⟨n, hn⟩ : ∃ n, max la (q + 1) = n := ⟨_, rfl⟩
  have hnI : max (la : Int) ((q : Int) + 1) = (n : Int) := by omega
  have hn3 : n ≤ 3 := by omega
  have hqn : q < n := by omega
  have hln : la ≤ n := by omega
  have hp2 := pow2_16 r hr16
  have HL : Hid (Lies .i64 w ao la xs) := h.lies
  have HD : Hid (Dg D16 xs) := h.dg
  have HV : Hid (xs.getD q 0 + 2 ^ r < 65536 ∧ (2 : Int) ^ bit = D16 ^ q * 2 ^ r ∧ xs.length = la) := ⟨hroom, hpb, hl⟩
  clear h hroom hpb hl hq hr hm hn
  go_enter Try.func77, Try.ntmps77
  go_wp2_with (at_make; refine wpList_make_row _ rfl _ _ 40 rfl 3 .i64 8 Try.underlying40 Try.infoI _ _ _ _ n rfl rfl rfl rfl (by omega) (by unfold maxLen; omega) ?_)
  intro w1 hrow hbel
  have hl1 := HL.out.old hbel
  go_wp2_with (refine wpList_copy_row rfl _ _ 40 40 rfl 3 Try.underlying40 .i64 8 Try.infoI w.heap.size ao _ _ _ _ rfl rfl _ xs hrow hl1 (by simp) la (by omega) w.heap.size w hbel (Nat.le_refl _) ?_)
  intro w2 hrow2 hbel2
  have hd2 : Dg D16 (xs.take la ++ List.replicate (n - la) 0) := Dg_splice D16_pos xs HD.out la (n - la)
  have hv2 : val D16 (xs.take la ++ List.replicate (n - la) 0) = val D16 xs := val_splice D16 xs la (n - la) HV.out.2.2
  have hlen2 : (xs.take la ++ List.replicate (n - la) (0 : Int)).length = n := by have := HV.out.2.2; simp; omega
  have hx2 : (xs.take la ++ List.replicate (n - la) (0 : Int)).getD q 0 = xs.getD q 0 := by
    rw [digit_at D16_pos _ hd2, digit_at D16_pos xs HD.out, hv2]
  generalize xs.take la ++ List.replicate (n - la) (0 : Int) = cur at *
  have hc := hrow2.cell q (by omega)
  have hf := hrow2.frozen q
  rw [hx2] at hc
  have gx := HD.out.getD D16_pos q
  have x0 := gx.1
  have x1 := HV.out.1
  have HRW : Hid (Row 3 .i64 w2 w.heap.size cur ∧ Dg D16 cur ∧ val D16 cur = val D16 xs ∧ cur.length = n ∧ cur.getD q 0 = xs.getD q 0 ∧ Below w.heap.size w w2) := ⟨hrow2, hd2, hv2, hlen2, hx2, hbel2⟩
  generalize hxg : xs.getD q 0 = x at *
  have HXG : Hid (xs.getD q 0 = x) := hxg
  clear hrow hl1 hrow2 hbel hbel2 hd2 hv2 hlen2 hx2 gx HL HD hxg
  have hsh : IntKind.i64.wrap (2 ^ r) = 2 ^ r := IntWalk.i64_in _ (by omega)
  have hsum : IntKind.i64.wrap (x + 2 ^ r) = x + 2 ^ r := IntWalk.i64_in _ (by omega)
  go_wp2
  go_region
  all_goals
    go_wp2
    go_ret
    have hrs := (HRW.out.1.drewN 1).set q (x + 2 ^ r)
    have hlen : (cur.set q (x + 2 ^ r)).length = n := by rw [List.length_set]; exact HRW.out.2.2.2.1
    refine ⟨_, rfl, some ⟨w.heap.size, 0, none⟩, n, n, cur.set q (x + 2 ^ r), rfl, ?_, ?_, by omega, ?_⟩
    · have := hrs.num (B := D16) (HRW.out.2.1.set q ⟨by omega, by have := x1; unfold D16; omega⟩) (by omega)
      rw [hlen] at this
      exact this
    · rw [val_set _ _ _ _ (by have := HRW.out.2.2.2.1; omega), HRW.out.2.2.1, HRW.out.2.2.2.2.1, HV.out.2.1]
      grind
    · exact (HRW.out.2.2.2.2.2.trans (Drew.below ⟨1, rfl⟩ _)).setCell (p := ⟨w.heap.size, q, none⟩) (Nat.le_refl _) _

set_option maxHeartbeats 1000000 in
/-- the document's shifted. -/
theorem sShifted_any (p : Int) (by16 : Nat) (w : World) (hp0 : 0 ≤ p) (hp1 : p < 65536) (hb : by16 ≤ 8) :
    Calls Try.prog 80 #[.int .i64 p, .int .i64 (16 * by16 : Nat)] w fun e w' => ∃ v, e = .returned v ∧ Nb w w' v (p * D16 ^ by16) 9 := by
  have hqI : ((16 * by16 : Nat) : Int) / 16 = (by16 : Int) := by omega
  obtain ⟨n, hn⟩ : ∃ n, by16 + 1 = n := ⟨_, rfl⟩
  have hnI : (by16 : Int) + 1 = (n : Int) := by omega
  have hn9 : n ≤ 9 := by omega
  have hbn : by16 < n := by omega
  have hbs : 16 * by16 < 1000 := by omega
  obtain ⟨m, hm⟩ : ∃ m, 16 * by16 = m := ⟨_, rfl⟩
  rw [hm] at hqI hbs ⊢
  clear hn hm
  go_enter Try.func80, Try.ntmps80
  go_wp2_with (at_make; refine wpList_make_row _ rfl _ _ 40 rfl 3 .i64 8 Try.underlying40 Try.infoI _ _ _ _ n rfl rfl rfl rfl (by omega) (by unfold maxLen; omega) ?_)
  intro w1 hrow hbel
  have hc := hrow.cell by16 (by simp; omega)
  have hf := hrow.frozen by16
  have HRW : Hid (Row 3 .i64 w1 w.heap.size (List.replicate n 0) ∧ Below w.heap.size w w1) := ⟨hrow, hbel⟩
  clear hrow hbel
  go_wp2
  go_ret
  have hrs := HRW.out.1.set by16 p
  have hlen : ((List.replicate n (0 : Int)).set by16 p).length = n := by simp
  refine ⟨_, rfl, some ⟨w.heap.size, 0, none⟩, n, n, (List.replicate n 0).set by16 p, rfl, ?_, ?_, hn9, HRW.out.2.setCell (p := ⟨w.heap.size, by16, none⟩) (Nat.le_refl _) _⟩
  · have := hrs.num (B := D16) ((Dg.zeros D16_pos n).set by16 ⟨hp0, hp1⟩) (by omega)
    rw [hlen] at this
    exact this
  · rw [val_set _ _ _ _ (by simp; omega), val_replicate]
    have : (List.replicate n (0 : Int)).getD by16 0 = 0 := by simp [List.getD, List.getElem?_replicate]; split <;> rfl
    rw [this]
    grind

/-- With zeros above. -/
def pad (xs : List Int) (n : Nat) : List Int := xs ++ List.replicate (n - xs.length) 0
theorem pad_len (xs : List Int) (n : Nat) (h : xs.length ≤ n) : (pad xs n).length = n := by simp [pad]; omega
theorem pad_val (B : Int) (xs : List Int) (n : Nat) : val B (pad xs n) = val B xs := by unfold pad; rw [val_append, val_replicate]; simp
theorem pad_dg {B : Int} (hB : 0 < B) {xs : List Int} (h : Dg B xs) (n : Nat) : Dg B (pad xs n) := h.append (Dg.zeros hB _)
theorem pad_get (xs : List Int) (n j : Nat) : (pad xs n).getD j 0 = xs.getD j 0 := by
  unfold pad
  by_cases h : j < xs.length
  · simp [List.getD, List.getElem?_append_left h]
  · simp only [List.getD]
    rw [List.getElem?_append_right (by omega), List.getElem?_replicate, List.getElem?_eq_none (show xs.length ≤ j by omega)]
    split <;> rfl
theorem cmp_pad (xs ys : List Int) (hx : Dg D16 xs) (hy : Dg D16 ys) (p : Nat) (heq : ∀ j, p < j → xs.getD j 0 = ys.getD j 0) (hlt : xs.getD p 0 < ys.getD p 0) : val D16 xs < val D16 ys := by
  obtain ⟨n, hn⟩ : ∃ n, n = max (max xs.length ys.length) (p + 1) := ⟨_, rfl⟩
  have := cmp_at D16 D16_one (pad xs n) (pad ys n) (pad_dg D16_pos hx n) (pad_dg D16_pos hy n) n (pad_len xs n (by omega)) (pad_len ys n (by omega)) p (by omega) (fun j h1 _ => by rw [pad_get, pad_get]; exact heq j h1) (by rw [pad_get, pad_get]; exact hlt)
  rwa [pad_val, pad_val] at this
theorem eq_pad (xs ys : List Int) (h : ∀ j, xs.getD j 0 = ys.getD j 0) : val D16 xs = val D16 ys := by
  obtain ⟨n, hn⟩ : ∃ n, n = max xs.length ys.length := ⟨_, rfl⟩
  have e : pad xs n = pad ys n := by
    apply List.ext_getElem
    · rw [pad_len xs n (by omega), pad_len ys n (by omega)]
    · intro j h1 h2
      have := h j
      rw [← pad_get xs n, ← pad_get ys n] at this
      simpa [List.getD, h1, h2] using this
  rw [← pad_val D16 xs n, e, pad_val]
theorem getD_over (xs : List Int) (j : Nat) (h : xs.length ≤ j) : xs.getD j 0 = 0 := by simp [List.getD, List.getElem?_eq_none h]

set_option maxHeartbeats 2000000 in
/-- the document's cmp. -/
theorem sCmp_any (ao bo : Option Addr) (la ca lb cb : Nat) (xs ys : List Int) (w : World) (h : NumIn .i64 D16 w ao la ca xs) (h' : NumIn .i64 D16 w bo lb cb ys) (hla : la ≤ 1000) (hlb : lb ≤ 1000) :
    Calls Try.prog 79 #[.slice ao la ca, .slice bo lb cb] w fun e w' => e = .returned (.int .i64 (cmpI (val D16 xs) (val D16 ys))) ∧ w' = w := by
  obtain ⟨n, hn⟩ : ∃ n, max la lb = n := ⟨_, rfl⟩
  have hnI : max (la : Int) (lb : Int) = (n : Int) := by omega
  have hn1 : n ≤ 1000 := by omega
  have hl := h.len
  have hl' := h'.len
  have HX : Hid (NumIn .i64 D16 w ao la ca xs) := h
  have HY : Hid (NumIn .i64 D16 w bo lb cb ys) := h'
  have HN : Hid (max la lb = n ∧ xs.length = la ∧ ys.length = lb) := ⟨hn, hl, hl'⟩
  clear h h' hn hl hl'
  go_enter Try.func79, Try.ntmps79
  go_wp2
  go_loop [5] (fun vi => ∃ i : Int, vi = .int .i64 i ∧ -1 ≤ i ∧ i < n ∧ ∀ j : Nat, i < j → xs.getD j 0 = ys.getD j 0) (fun vi => (intOf vi + 1).toNat)
  case atStart =>
    refine ⟨(n : Int) - 1, rfl, by omega, by omega, fun j hj => ?_⟩
    have := HN.out
    rw [getD_over xs j (by omega), getD_over ys j (by omega)]
  case round =>
    obtain ⟨i, rfl, hi0, hi1, heq⟩ := hrel
    by_cases hneg : i < 0
    · obtain rfl : i = -1 := by omega
      have HF : Hid (cmpI (val D16 xs) (val D16 ys) = 0) := cmpI_eq (eq_pad xs ys (fun j => heq j (by omega)))
      clear heq
      go_wp2
      go_ret
      exact ⟨ret_int HF.out.symm, rfl⟩
    · obtain ⟨p, rfl⟩ := Int.eq_ofNat_of_zero_le (show 0 ≤ i by omega)
      have HL : Hid (xs.getD p 0 < ys.getD p 0 → val D16 xs < val D16 ys) := cmp_pad xs ys HX.out.dg HY.out.dg p (fun j hj => heq j (by omega))
      have HG : Hid (ys.getD p 0 < xs.getD p 0 → val D16 ys < val D16 xs) := cmp_pad ys xs HY.out.dg HX.out.dg p (fun j hj => (heq j (by omega)).symm)
      have HE : Hid (xs.getD p 0 = ys.getD p 0 → ∀ j : Nat, (p : Int) - 1 < j → xs.getD j 0 = ys.getD j 0) := fun h0 j hj => by
        by_cases e : j = p
        · rw [e]; exact h0
        · exact heq j (by omega)
      have hcx : p < la → ∃ b off, ao = some ⟨b, off, none⟩ ∧ w.cell? ⟨b, off + p, none⟩ = some (.int .i64 (xs.getD p 0)) := fun hp => by
        obtain ⟨b, off, e, _, hc⟩ := HX.out.lies.at (by omega)
        exact ⟨b, off, e, hc p hp⟩
      have hcy : p < lb → ∃ b off, bo = some ⟨b, off, none⟩ ∧ w.cell? ⟨b, off + p, none⟩ = some (.int .i64 (ys.getD p 0)) := fun hp => by
        obtain ⟨b, off, e, _, hc⟩ := HY.out.lies.at (by omega)
        exact ⟨b, off, e, hc p hp⟩
      have hzx : ¬ p < la → xs.getD p 0 = 0 := fun hp => getD_over xs p (by have := HN.out; omega)
      have hzy : ¬ p < lb → ys.getD p 0 = 0 := fun hp => getD_over ys p (by have := HN.out; omega)
      clear heq hneg hi0
      generalize xs.getD p 0 = x at *
      generalize ys.getD p 0 = y at *
      rcases Int.lt_trichotomy x y with hxy | hxy | hxy
      · have HFIN : Hid (cmpI (val D16 xs) (val D16 ys) = -1) := cmpI_lt (HL.out hxy)
        have hne : (x != y) = true := by simp; omega
        clear HL HG HE
        by_cases h1 : p < la
        · obtain ⟨b, off, rfl, hc1⟩ := hcx h1
          by_cases h2 : p < lb
          · obtain ⟨b2, off2, rfl, hc2⟩ := hcy h2
            clear hcx hcy hzx hzy
            go_wp2
            go_ret
            exact ⟨ret_int HFIN.out.symm, rfl⟩
          · obtain rfl := hzy h2
            clear hcx hcy hzx hzy
            go_wp2
            go_ret
            exact ⟨ret_int HFIN.out.symm, rfl⟩
        · obtain rfl := hzx h1
          by_cases h2 : p < lb
          · obtain ⟨b2, off2, rfl, hc2⟩ := hcy h2
            clear hcx hcy hzx hzy
            go_wp2
            go_ret
            exact ⟨ret_int HFIN.out.symm, rfl⟩
          · obtain rfl := hzy h2
            omega
      · have HFIN : Hid (∀ j : Nat, (p : Int) - 1 < j → xs.getD j 0 = ys.getD j 0) := HE.out hxy
        clear HL HG HE
        subst hxy
        by_cases h1 : p < la
        · obtain ⟨b, off, rfl, hc1⟩ := hcx h1
          by_cases h2 : p < lb
          · obtain ⟨b2, off2, rfl, hc2⟩ := hcy h2
            clear hcx hcy hzx hzy
            go_wp2
            go_round
            case rel => exact ⟨(p : Int) - 1, by go_num, by omega, by omega, HFIN.out⟩
            case measure => simp [intOf] <;> omega
          · obtain rfl := hzy h2
            clear hcx hcy hzx hzy
            go_wp2
            go_round
            case rel => exact ⟨(p : Int) - 1, by go_num, by omega, by omega, HFIN.out⟩
            case measure => simp [intOf] <;> omega
        · obtain rfl := hzx h1
          by_cases h2 : p < lb
          · obtain ⟨b2, off2, rfl, hc2⟩ := hcy h2
            clear hcx hcy hzx hzy
            go_wp2
            go_round
            case rel => exact ⟨(p : Int) - 1, by go_num, by omega, by omega, HFIN.out⟩
            case measure => simp [intOf] <;> omega
          · clear hcx hcy hzx hzy
            go_wp2
            go_round
            case rel => exact ⟨(p : Int) - 1, by go_num, by omega, by omega, HFIN.out⟩
            case measure => simp [intOf] <;> omega
      · have HFIN : Hid (cmpI (val D16 xs) (val D16 ys) = 1) := cmpI_gt (HG.out hxy)
        have hne : (x != y) = true := by simp; omega
        clear HL HG HE
        by_cases h1 : p < la
        · obtain ⟨b, off, rfl, hc1⟩ := hcx h1
          by_cases h2 : p < lb
          · obtain ⟨b2, off2, rfl, hc2⟩ := hcy h2
            clear hcx hcy hzx hzy
            go_wp2
            go_ret
            exact ⟨ret_int HFIN.out.symm, rfl⟩
          · obtain rfl := hzy h2
            clear hcx hcy hzx hzy
            go_wp2
            go_ret
            exact ⟨ret_int HFIN.out.symm, rfl⟩
        · obtain rfl := hzx h1
          by_cases h2 : p < lb
          · obtain ⟨b2, off2, rfl, hc2⟩ := hcy h2
            clear hcx hcy hzx hzy
            go_wp2
            go_ret
            exact ⟨ret_int HFIN.out.symm, rfl⟩
          · obtain rfl := hzy h2
            omega
end Go.Proofs.Ytnacgkkklmlhaaa
/-
  Words of 32 bits: contracts of rotr, RotateLeft32 and the document's turn.
-/
namespace Go.Proofs.Ytnacgkkklmlhaaa
open Go.RowKit
set_option linter.unusedVariables false
set_option linter.unusedSimpArgs false

/-- A word's bits moved to the right, those that fall out coming in from the left. -/
def rot (x : Int) (n : Nat) : Int := bits .or .u32 (x / 2 ^ n) (x * 2 ^ (32 - n) % 4294967296)
theorem bits_or_comm (k : IntKind) (x y : Int) : bits .or k x y = bits .or k y x := by
  show k.wrap ((BitVec.ofInt k.bits x ||| BitVec.ofInt k.bits y).toNat : Int) = k.wrap ((BitVec.ofInt k.bits y ||| BitVec.ofInt k.bits x).toNat : Int)
  rw [BitVec.or_comm]

theorem back31 : ∀ n : Nat, 1 ≤ n → n ≤ 31 → bits .and .u64 (IntKind.u64.wrap (-(n : Int))) 31 = ((32 - n : Nat) : Int) := by
  intro n h1 h2
  have : n = 1 ∨ n = 2 ∨ n = 3 ∨ n = 4 ∨ n = 5 ∨ n = 6 ∨ n = 7 ∨ n = 8 ∨ n = 9 ∨ n = 10 ∨ n = 11 ∨ n = 12 ∨ n = 13 ∨ n = 14 ∨ n = 15 ∨ n = 16 ∨ n = 17 ∨ n = 18 ∨ n = 19 ∨ n = 20 ∨ n = 21 ∨ n = 22 ∨ n = 23 ∨ n = 24 ∨ n = 25 ∨ n = 26 ∨ n = 27 ∨ n = 28 ∨ n = 29 ∨ n = 30 ∨ n = 31 := by omega
  rcases this with rfl | rfl | rfl | rfl | rfl | rfl | rfl | rfl | rfl | rfl | rfl | rfl | rfl | rfl | rfl | rfl | rfl | rfl | rfl | rfl | rfl | rfl | rfl | rfl | rfl | rfl | rfl | rfl | rfl | rfl | rfl <;> decide

theorem turn_any (x : Int) (n : Nat) (w : World) (hn : n ≤ 32) : Calls Try.prog 58 #[.int .u32 x, .int .i64 n] w fun e w' => e = .returned (.int .u32 (rot x n)) ∧ Drew w w' := by
  go_enter Try.func58, Try.ntmps58
  go_wp2
  go_region
  all_goals
    go_wp2
    go_ret
    exact ⟨rfl, (Drew.refl _).more 1⟩
end Go.Proofs.Ytnacgkkklmlhaaa
/-
  SHA-256 as plain mathematics: words of 32 bits as numbers, in the spelling that the walk leaves. No program in sight.
-/
namespace Go.Proofs.Ytnacgkkklmlhaaa
open Go.RowKit
set_option linter.unusedVariables false
set_option linter.unusedSimpArgs false

abbrev M32 : Int := 4294967296
def sg0 (x : Int) : Int := bits .xor .u32 (bits .xor .u32 (rot x 7) (rot x 18)) (x / 8)
def sg1 (x : Int) : Int := bits .xor .u32 (bits .xor .u32 (rot x 17) (rot x 19)) (x / 1024)
/-- The next word behind i words. -/
def wNext (l : List Int) (i : Nat) : Int :=
  (((l.getD (i - 16) 0 + sg0 (l.getD (i - 15) 0)) % M32 + l.getD (i - 7) 0) % M32 + sg1 (l.getD (i - 2) 0)) % M32
def schedGo : Nat → List Int → List Int
  | 0, l => l
  | n + 1, l => schedGo n (l ++ [wNext l l.length])
/-- A word's first k bytes. -/
def pw (b : List Int) (i : Nat) : Nat → Int
  | 0 => 0
  | k + 1 => pw b i k * 256 + b.getD (4 * i + k) 0
def words16 (b : List Int) : List Int := (List.range 16).map fun i => pw b i 4
def sched (b : List Int) : List Int := schedGo 48 (words16 b)

structure S8 where
  a : Int
  b : Int
  c : Int
  d : Int
  e : Int
  f : Int
  g : Int
  h : Int

def big1 (e : Int) : Int := bits .xor .u32 (bits .xor .u32 (rot e 6) (rot e 11)) (rot e 25)
def big0 (a : Int) : Int := bits .xor .u32 (bits .xor .u32 (rot a 2) (rot a 13)) (rot a 22)
def chI (e f g : Int) : Int := bits .xor .u32 (bits .and .u32 e f) (bits .and .u32 (bits .xor .u32 4294967295 e) g)
def majI (a b c : Int) : Int := bits .xor .u32 (bits .xor .u32 (bits .and .u32 a b) (bits .and .u32 a c)) (bits .and .u32 b c)
def t1 (e f g h k w : Int) : Int := ((((h + big1 e) % M32 + chI e f g) % M32 + k) % M32 + w) % M32
def t2 (a b c : Int) : Int := (big0 a + majI a b c) % M32
def rnd (s : S8) (k w : Int) : S8 :=
  ⟨(t1 s.e s.f s.g s.h k w + t2 s.a s.b s.c) % M32, s.a, s.b, s.c, (s.d + t1 s.e s.f s.g s.h k w) % M32, s.e, s.f, s.g⟩
def runS (K W : List Int) (s : S8) : Nat → S8
  | 0 => s
  | n + 1 => rnd (runS K W s n) (K.getD n 0) (W.getD n 0)
def s8 (l : List Int) : S8 := ⟨l.getD 0 0, l.getD 1 0, l.getD 2 0, l.getD 3 0, l.getD 4 0, l.getD 5 0, l.getD 6 0, l.getD 7 0⟩
def addS (l : List Int) (s : S8) : List Int :=
  [(l.getD 0 0 + s.a) % M32, (l.getD 1 0 + s.b) % M32, (l.getD 2 0 + s.c) % M32, (l.getD 3 0 + s.d) % M32, (l.getD 4 0 + s.e) % M32, (l.getD 5 0 + s.f) % M32, (l.getD 6 0 + s.g) % M32, (l.getD 7 0 + s.h) % M32]
/-- The words behind a block. -/
def mixS (K : List Int) (l blk : List Int) : List Int := addS l (runS K (sched blk) (s8 l) 64)

def KS : List Int := [0x428a2f98,0x71374491,0xb5c0fbcf,0xe9b5dba5,0x3956c25b,0x59f111f1,0x923f82a4,0xab1c5ed5,0xd807aa98,0x12835b01,0x243185be,0x550c7dc3,0x72be5d74,0x80deb1fe,0x9bdc06a7,0xc19bf174,0xe49b69c1,0xefbe4786,0x0fc19dc6,0x240ca1cc,0x2de92c6f,0x4a7484aa,0x5cb0a9dc,0x76f988da,0x983e5152,0xa831c66d,0xb00327c8,0xbf597fc7,0xc6e00bf3,0xd5a79147,0x06ca6351,0x14292967,0x27b70a85,0x2e1b2138,0x4d2c6dfc,0x53380d13,0x650a7354,0x766a0abb,0x81c2c92e,0x92722c85,0xa2bfe8a1,0xa81a664b,0xc24b8b70,0xc76c51a3,0xd192e819,0xd6990624,0xf40e3585,0x106aa070,0x19a4c116,0x1e376c08,0x2748774c,0x34b0bcb5,0x391c0cb3,0x4ed8aa4a,0x5b9cca4f,0x682e6ff3,0x748f82ee,0x78a5636f,0x84c87814,0x8cc70208,0x90befffa,0xa4506ceb,0xbef9a3f7,0xc67178f2]
def HS : List Int := [0x6a09e667,0xbb67ae85,0x3c6ef372,0xa54ff53a,0x510e527f,0x9b05688c,0x1f83d9ab,0x5be0cd19]

/-- The words behind the first n blocks. -/
def hb (bs : List Int) : Nat → List Int
  | 0 => HS
  | n + 1 => mixS KS (hb bs n) ((bs.drop (64 * n)).take 64)
/-- How many bytes 0 there are between. -/
def gapN (n : Nat) : Nat := (119 - n % 64) % 64
def pad8 (n : Nat) : List Int := (List.range 8).map fun i => (8 * n : Int) / 2 ^ (56 - 8 * i) % 256
def ending (n : Nat) : List Int := 128 :: (List.replicate (gapN n) 0 ++ pad8 n)
def spreadS (l : List Int) : List Int := (List.range 32).map fun i => l.getD (i / 4) 0 / 2 ^ (24 - 8 * (i % 4)) % 256
/-- The hash. -/
def shaS (bs : List Int) : List Int := spreadS (hb (bs ++ ending bs.length) ((bs ++ ending bs.length).length / 64))

theorem sha_nil : (shaS []).take 8 = [0xe3, 0xb0, 0xc4, 0x42, 0x98, 0xfc, 0x1c, 0x14] := by decide +kernel
theorem sha_abc : (shaS [97, 98, 99]).take 8 = [0xba, 0x78, 0x16, 0xbf, 0x8f, 0x01, 0xcf, 0xea] := by decide +kernel
end Go.Proofs.Ytnacgkkklmlhaaa
/-
  Laws for whole arrays of numbers: made, boxed, read and written at once; answers that lie in a cell.
-/
namespace Go.Proofs.Ytnacgkkklmlhaaa
open Go.RowKit
set_option linter.unusedVariables false
set_option linter.unusedSimpArgs false

/-- An array of numbers, as a value. -/
def ag (k : IntKind) (xs : List Int) : Value := .agg ((xs.map (Value.int k)).toArray)
theorem ints_all (k : IntKind) (xs : List Int) : ((xs.map (Value.int k)).toArray).all (·.oneCell') = true :=
  Array.all_eq_true_iff_forall_mem.2 fun v hv => by
    obtain ⟨x, _, rfl⟩ := List.mem_map.1 (by simpa using hv)
    rfl

theorem Row.alloc (e : TypeId) (k : IntKind) (w : World) (xs : List Int) : Row e k (w.alloc (.cells ((xs.map (Value.int k)).toArray) e)) w.heap.size xs := heap_alloc_new w _
theorem below_alloc (w : World) (o : Obj) : Below w.heap.size w (w.alloc o) := (Below.refl _ _).alloc (Nat.le_refl _) o
theorem size_alloc' (w : World) (o : Obj) : (w.alloc o).heap.size = w.heap.size + 1 := by simp

/-- var x [n]T. -/
theorem wpList_alloc_row {P : Program} {w : World} {ops : Array Oper} {rest : List Oper} {o : Oper} {a : Act} {Q : Exit → Act → World → Prop} (hgd : o.guard = none) (t : TypeId) (hop : o.op = Op.alloc t) (k : IntKind) (n : Nat)
    (hz : (P.info? t).map (fun i => (i.zero, i.size)) = some (some (ag k (List.replicate n 0)), n))
    (hK : ∀ w', Row t k w' w.heap.size (List.replicate n 0) → Below w.heap.size w w' → w'.heap.size = w.heap.size + 1 → wpList P ops Q rest (a.put o.dst (.pointer (some ⟨w.heap.size, 0, none⟩))) w') :
    wpList P ops Q (o :: rest) a w := by
  refine wpList_plain hgd fun K hK' => ?_
  have hr := (zero_of_info hz).1 w
  unfold Oper.wp
  simp only [execOp, hop, Instr.alloc, Sem.run_bind, hr, Result.andThen_ok]
  exact hK' _ _ (hK (w.alloc (.cells (((List.replicate n (0 : Int)).map (Value.int k)).toArray) t)) (Row.alloc t k w _) (below_alloc w _) (size_alloc' w _))

/-- A parameter of such a type. -/
theorem wpList_box_row {P : Program} {w : World} {ops : Array Oper} {rest : List Oper} {o : Oper} {a : Act} {Q : Exit → Act → World → Prop} (hgd : o.guard = none) (t : TypeId) (x : Operand) (hop : o.op = Op.box t x) (k : IntKind) (xs : List Int)
    (hx : a.eval x = ag k xs)
    (hK : ∀ w', Row t k w' w.heap.size xs → Below w.heap.size w w' → w'.heap.size = w.heap.size + 1 → wpList P ops Q rest (a.put o.dst (.pointer (some ⟨w.heap.size, 0, none⟩))) w') :
    wpList P ops Q (o :: rest) a w := by
  refine wpList_plain hgd fun K hK' => ?_
  unfold Oper.wp
  simp only [execOp, hop, hx, ag, Instr.box, Sem.run_bind, Result.andThen_ok]
  exact hK' _ _ (hK (w.alloc (.cells ((xs.map (Value.int k)).toArray) t)) (Row.alloc t k w _) (below_alloc w _) (size_alloc' w _))

/-- The whole array is read. -/
theorem wpList_load_nums {P : Program} {w : World} {ops : Array Oper} {rest : List Oper} {o : Oper} {a : Act} {Q : Exit → Act → World → Prop} (hgd : o.guard = none) (ty : TypeId) (x : Operand) (hop : o.op = Op.load ty x) (k : IntKind) (t e : TypeId) (n : Nat)
    (hu : P.underlying ty = some (.array n e)) (hi : (P.info? ty).map (·.size) = some n) (g : Nat) (xs : List Int) (hx : a.eval x = .pointer (some ⟨g, 0, none⟩)) (hr : Row t k w g xs) (hl : xs.length = n)
    (h : wpList P ops Q rest (a.put o.dst (ag k xs)) w) : wpList P ops Q (o :: rest) a w :=
  wpList_load_row hgd ty x hop g hx t _ (0, 0) (.array n e) hr hu rfl (by rw [hi]; simp [hl]) h

theorem below_setRow' {B g : Nat} {w0 w : World} (hb : Below B w0 w) (hBg : B ≤ g) (cs : Array Value) : Below B w0 (w.setRow g cs) :=
  hb.trans ⟨rfl, rfl, rfl, by simp, fun k hk => setRow_other w g k cs (by omega)⟩
/-- The whole array is written. -/
theorem wpList_store_nums {P : Program} {w : World} {ops : Array Oper} {rest : List Oper} {o : Oper} {a : Act} {Q : Exit → Act → World → Prop} (hgd : o.guard = none) (ty : TypeId) (x y : Operand) (hop : o.op = Op.store ty x y) (k : IntKind) (t : TypeId) (n : Nat)
    (hi : (P.info? ty).map (·.size) = some n) (g : Nat) (old xs : List Int) (hx : a.eval x = .pointer (some ⟨g, 0, none⟩)) (hy : a.eval y = ag k xs) (hr : Row t k w g old) (ho : old.length = n) (hl : xs.length = n)
    (hK : ∀ w', Row t k w' g xs → Below g w w' → w'.heap.size = w.heap.size → (∀ j, j ≠ g → w'.heap[j]? = w.heap[j]?) → wpList P ops Q rest (a.put o.dst undef) w') : wpList P ops Q (o :: rest) a w :=
  wpList_store_row hgd ty x y hop g _ hx hy t _ hr (by rw [hi]; simp [hl]) (by simp [hl, ho]) (ints_all k xs)
    (hK _ (setRow_heap w g _ _ t (0, 0) hr) (below_setRow' (Below.refl _ _) (Nat.le_refl _) _) (by simp) (fun j hj => setRow_other w g j _ hj))

/-- An answer that lies in a cell. -/
theorem results_nums {P : Program} {fn : Func} {p : Tmp} {ty : TypeId} (h : fn.results = #[.cell p ty]) (tmps : Array Value) (w : World) (g : Nat) (t e : TypeId) (k : IntKind) (n : Nat) (xs : List Int)
    (hp : tmps.getD p undef = .pointer (some ⟨g, 0, none⟩)) (hr : Row t k w g xs) (hu : P.underlying ty = some (.array n e)) (hi : (P.info? ty).map (·.size) = some n) (hl : xs.length = n) :
    (results fn tmps).run P w = .ok (ag k xs) w :=
  results_cell_row h tmps w g t _ (0, 0) (.array n e) hp hr hu rfl (by rw [hi]; simp [hl])

theorem Try.infoB32 : (Try.prog.info? 47).map (fun i => (i.zero, i.size)) = some (some (ag .u8 (List.replicate 32 0)), 32) := by kernel_rfl
theorem Try.sizeB32 : (Try.prog.info? 47).map (·.size) = some 32 := (zero_of_info Try.infoB32).2
theorem Try.infoW : (Try.prog.info? 108).map (fun i => (i.zero, i.size, i.bytes)) = some (some (.int .u32 0), 1, 4) := by kernel_rfl
end Go.Proofs.Ytnacgkkklmlhaaa
/-
  Contracts of the document's answer: bytes as a number (Read), a number as bytes (Bytes).
-/
namespace Go.Proofs.Ytnacgkkklmlhaaa
open Go.RowKit
set_option linter.unusedVariables false
set_option linter.unusedSimpArgs false

theorem pow256_2 (m : Nat) : (256 : Int) ^ (2 * m) = D16 ^ m := by rw [Int.pow_mul]; rfl

/-- Where a slice of the call's own lies: it is read there, and written. -/
theorem Own.spot {e : TypeId} {k : IntKind} {w : World} {base : Nat} {v : Value} {xs : List Int} (h : Own e k w base v xs) (h0 : 0 < xs.length) :
    ∃ g cap, v = .slice (some ⟨g, 0, none⟩) xs.length cap ∧ base ≤ g ∧ g < w.heap.size ∧ xs.length ≤ cap ∧ cap ≤ maxLen ∧ (∀ j, j < xs.length → w.cell? ⟨g, j, none⟩ = some (.int k (xs.getD j 0))) ∧ (∀ j, w.frozen? ⟨g, j, none⟩ = false) ∧
      ∀ j y, j < xs.length → Own e k (w.setCell ⟨g, j, none⟩ (.int k y)) base v (xs.set j y) := by
  rcases h.2 with ⟨rfl, h1⟩ | ⟨g, cap, cur, rfl, hg, hrow, h1, h2, h3, h4⟩
  · omega
  · refine ⟨g, cap, rfl, hg, (Array.getElem?_eq_some_iff.1 hrow).1, h1, h2, fun j hj => ?_, fun j => frozen_of_row w g j cur e hrow, fun j y hj => ⟨by simp, .inr ⟨g, cap, cur.set! j (.int k y), ?_, hg, heap_setCell_same w g j _ e _ hrow, ?_, h2, ?_, ?_⟩⟩⟩
    · rw [cell_of_row w g j cur e (0, 0) hrow]
      have : (cur.toList.take (xs.length * 1))[j]? = (xs.map (Value.int k))[j]? := by rw [h4]
      rw [List.getElem?_take, if_pos (by omega)] at this
      rw [← Array.getElem?_toList, this]
      simp [hj]
    · simp
    · simpa using h1
    · simpa using h3
    · have e1 : (cur.set! j (Value.int k y)).toList = cur.toList.set j (.int k y) := by simp
      rw [e1, List.length_set, List.take_set, h4, List.map_set]

/-- What Read has gathered when i bytes have been gone over, the last first. -/
def RReads (rb : List Int) (i : Nat) (ds : List Int) : Prop :=
  ds.length = (i + 1) / 2 ∧ Dg D16 ds ∧ (i % 2 = 1 → ds.getD (i / 2) 0 < 256) ∧ val D16 ds = low 256 rb i
theorem RReads.even {rb : List Int} {m : Nat} {ds : List Int} (h : RReads rb (2 * m) ds) (hd : 0 ≤ rb.getD (2 * m) 0 ∧ rb.getD (2 * m) 0 < 256) : RReads rb (2 * m + 1) (ds ++ [rb.getD (2 * m) 0]) := by
  obtain ⟨h1, h2, h3, h4⟩ := h
  have hl : ds.length = m := by omega
  refine ⟨by simp [hl]; omega, h2.append (Dg.cons (by unfold D16; omega) (Dg.nil _)), fun _ => ?_, ?_⟩
  · rw [show (2 * m + 1) / 2 = m by omega]
    have : (ds ++ [rb.getD (2 * m) 0]).getD m 0 = rb.getD (2 * m) 0 := by simp [List.getD, List.getElem?_append, hl]
    rw [this]; exact hd.2
  · rw [val_snoc, low_succ, h4, hl, pow256_2]
theorem RReads.odd {rb : List Int} {m : Nat} {ds : List Int} (h : RReads rb (2 * m + 1) ds) (hd : 0 ≤ rb.getD (2 * m + 1) 0 ∧ rb.getD (2 * m + 1) 0 < 256) : RReads rb (2 * m + 1 + 1) (ds.set m (ds.getD m 0 + 256 * rb.getD (2 * m + 1) 0)) := by
  obtain ⟨h1, h2, h3, h4⟩ := h
  have hl : ds.length = m + 1 := by omega
  have h3' := h3 (by omega)
  rw [show (2 * m + 1) / 2 = m by omega] at h3'
  have g := h2.getD D16_pos m
  refine ⟨by simp [hl]; omega, h2.set _ ⟨by omega, by unfold D16; omega⟩, fun e => by omega, ?_⟩
  rw [val_set _ _ _ _ (by omega), low_succ, h4, Int.pow_succ, pow256_2]
  generalize D16 ^ m = p at *
  grind

set_option maxHeartbeats 2000000 in
/-- the document's Read. -/
theorem rRead_any (ao : Option Addr) (n ca : Nat) (bs : List Int) (w : World) (h : NumIn .u8 256 w ao n ca bs) (hn : n ≤ 2000) :
    Calls Try.prog 40 #[.slice ao n ca] w fun e w' => ∃ v, e = .returned v ∧ NumOut .i64 D16 w w' v (val 256 bs.reverse) 1001 := by
  have hl := h.len
  go_enter Try.func40, Try.ntmps40
  go_wp2
  go_loopw [3, 4] (fun vo vi wr => ∃ (i : Nat) (ds : List Int), i ≤ n ∧ vi = .int .i64 i ∧ Own 3 .i64 wr w.heap.size vo ds ∧ RReads bs.reverse i ds ∧ Below w.heap.size w wr) (fun _ vi _ => n - (intOf vi).toNat)
  case atStart => exact ⟨0, [], Nat.zero_le _, rfl, Own.nil _ _ _ _, ⟨rfl, Dg.nil _, fun e => by omega, by simp [val, low_zero]⟩, Below.refl _ _⟩
  case round =>
    obtain ⟨i, ds, hi, rfl, hown, hs, hb⟩ := hrel
    by_cases hlt : i < n
    · have hx := h.lies.old hb
      obtain ⟨b, off, rfl, hblk, hcs⟩ := hx.at (by omega)
      have hcell := hcs (n - 1 - i) (by omega)
      have gx := h.dg.getD (by decide) (n - 1 - i)
      have er := getD_reverse bs i (by omega)
      rw [hl] at er
      have hlen := hs.1
      have hbs := hb.size
      obtain ⟨p, hp⟩ : ∃ p, n - 1 - i = p := ⟨_, rfl⟩
      rw [hp] at hcell gx er
      have hpn : p < n := by omega
      have hpe : n = p + 1 + i := by omega
      clear hp
      rw [← er] at gx hcell
      rcases (show i % 2 = 0 ∨ i % 2 = 1 by omega) with hpar | hpar
      · obtain ⟨m, rfl⟩ : ∃ m, i = 2 * m := ⟨i / 2, by omega⟩
        have HS : Hid (RReads bs.reverse (2 * m + 1) (ds ++ [bs.reverse.getD (2 * m) 0])) := hs.even gx
        have HLB : Hid (ds.length < 1073741824) := by unfold Hid; omega
        generalize bs.reverse.getD (2 * m) 0 = x at *
        obtain ⟨i, hie⟩ : ∃ i, 2 * m = i := ⟨_, rfl⟩
        rw [hie] at hlt hi hpe HS hlen ⊢
        have hev : (i : Int) % 2 = 0 := by omega
        have ek : (n : Int) - 1 - (i : Int) = (p : Int) := by omega
        clear hs hx hcs h hl er hpar hlen hie hpe
        go_wp2_with (at_builtin; refine wpList_append_one rfl _ _ 41 rfl 3 .i64 8 Try.underlying41 Try.infoI w.heap.size u3 ds x (by rfl) hown (by rfl) HLB.out (by decide) w hb hbs ?_)
        intro v' w' hown' hb'
        clear hown hb hbs
        go_wp2
        go_roundw
        case rel => exact ⟨i + 1, _, by omega, by go_num, hown', HS.out, hb'⟩
        case measure => simp [intOf] <;> omega
      · obtain ⟨m, rfl⟩ : ∃ m, i = 2 * m + 1 := ⟨i / 2, by omega⟩
        have HS : Hid (RReads bs.reverse (2 * m + 1 + 1) (ds.set m (ds.getD m 0 + 256 * bs.reverse.getD (2 * m + 1) 0))) := hs.odd gx
        obtain ⟨g, cap, hv, hg1, hg2, hg3, hg4, hcl, hfz, hset⟩ := hown.spot (by omega)
        have hm : m < ds.length := by omega
        have hcg := hcl m hm
        have hfr := hfz m
        have gd := hs.2.1.getD D16_pos m
        have gd0 := gd.1
        have gd1 : ds.getD m 0 < 65536 := gd.2
        have hbne : b < w.heap.size := by
          obtain ⟨b', off', e, hlt', _⟩ := h.lies.at (by omega)
          injection e with e
          injection e with e
          omega
        have hne : b ≠ g := by omega
        have HO : Hid (Own 3 .i64 (wr.setCell ⟨g, m, none⟩ (.int .i64 (ds.getD m 0 + 256 * bs.reverse.getD (2 * m + 1) 0))) w.heap.size (.slice (some ⟨g, 0, none⟩) ds.length cap) (ds.set m (ds.getD m 0 + 256 * bs.reverse.getD (2 * m + 1) 0))) := by have := hset m (ds.getD m 0 + 256 * bs.reverse.getD (2 * m + 1) 0) hm; rw [hv] at this; exact this
        have HB : Hid (Below w.heap.size w wr) := hb
        subst hv
        generalize bs.reverse.getD (2 * m + 1) 0 = x at *
        generalize ds.getD m 0 = y at *
        obtain ⟨i, hie⟩ : ∃ i, 2 * m + 1 = i := ⟨_, rfl⟩
        rw [hie] at hlt hi hpe HS hlen ⊢
        have hev : (i : Int) % 2 = 1 := by omega
        have ehalf : (i : Int) / 2 = (m : Int) := by omega
        have ek : (n : Int) - 1 - (i : Int) = (p : Int) := by omega
        have hmi : (m : Int) < (ds.length : Int) := by omega
        generalize ds.length = L at *
        clear hs hx hcs h hl er hpar hlen hie hpe hset hcl hfz hown hb gd
        go_wp2
        go_region
        all_goals
          go_wp2
          go_roundw
          case rel => exact ⟨i + 1, _, by omega, by go_num, HO.out, HS.out, (HB.out.setCell (by assumption) _).drew⟩
          case measure => simp [intOf] <;> omega
    · obtain rfl : i = n := by omega
      have hlen := hs.1
      obtain ⟨a2, c2, hv, hnum⟩ := hown.num hs.2.1 (by omega)
      have HV : Hid (val D16 ds = val 256 bs.reverse) := by
        unfold Hid
        have e : bs.reverse.length = i := by simp [hl]
        rw [hs.2.2.2, ← e, low_len]
      have HN : Hid (NumIn .i64 D16 wr a2 ds.length c2 ds) := hnum
      have HB : Hid (Below w.heap.size w wr) := hb
      have HL : Hid (ds.length ≤ 1001) := by unfold Hid; omega
      subst hv
      clear hown hs hnum hb h hlen
      go_wp2_with fail
      refine (rtrim_any a2 ds.length c2 ds wr HN.out).mono ?_
      rintro e w4 ⟨rfl, rfl⟩
      go_wp2
      go_ret
      exact ⟨_, rfl, HN.out.out HB.out _ HV.out _ HL.out⟩

theorem byte_even (ds : List Int) (hd : Dg D16 ds) (m : Nat) : ds.getD m 0 % 256 = byteAt (val D16 ds) (2 * m) := by
  unfold byteAt
  rw [digit_at D16_pos ds hd m, pow256_2]
  generalize val D16 ds / D16 ^ m = Y
  unfold D16
  omega
theorem byte_odd (ds : List Int) (hd : Dg D16 ds) (m : Nat) : ds.getD m 0 / 256 % 256 = byteAt (val D16 ds) (2 * m + 1) := by
  unfold byteAt
  have hp : (0 : Int) < D16 ^ m := Int.pow_pos D16_pos
  rw [digit_at D16_pos ds hd m, Int.pow_succ, pow256_2, ← Int.ediv_ediv_of_nonneg (by omega)]
  generalize val D16 ds / D16 ^ m = Y
  unfold D16
  omega

set_option maxHeartbeats 2000000 in
/-- the document's Bytes. -/
theorem rBytes_any (ao : Option Addr) (la ca : Nat) (ds : List Int) (n : Nat) (w : World) (h : NumIn .i64 D16 w ao la ca ds) (hn : n ≤ 512) (hV : val D16 ds < 256 ^ n) :
    Calls Try.prog 41 #[.slice ao la ca, .int .i64 n] w fun e w' => ∃ v, e = .returned v ∧ BytesOut w w' v n (val D16 ds) := by
  have hl := h.len
  have HV : Hid (0 ≤ val D16 ds ∧ val D16 ds < 256 ^ n) := ⟨val_nonneg D16_pos h.dg, hV⟩
  clear hV
  go_enter Try.func41, Try.ntmps41
  go_wp2_with (at_make; refine wpList_make_row _ rfl _ _ 48 rfl 5 .u8 1 Try.underlying48 Try.infoB _ _ _ _ n rfl rfl rfl rfl (by omega) (by unfold maxLen; omega) ?_)
  intro w3 hrow hbel
  go_wp2
  go_loopw [6] (fun vi wr => ∃ (k : Nat) (cur : List Int), k ≤ n ∧ vi = .int .i64 k ∧ Row 5 .u8 wr w.heap.size cur ∧ Wrts (val D16 ds) n k cur ∧ Below w.heap.size w wr) (fun vi _ => n - (intOf vi).toNat)
  case atStart => exact ⟨0, _, Nat.zero_le _, rfl, hrow, Wrts.zero _ _, hbel⟩
  case round =>
    obtain ⟨k, cur, hk, rfl, hrw, ha, hb⟩ := hrel
    clear hrow hbel
    by_cases hlt : k < n
    · have hx := h.lies.old hb
      have hln := ha.1
      have HS : Hid (Wrts (val D16 ds) n (k + 1) (cur.set (n - 1 - k) (byteAt (val D16 ds) k))) := ha.step hlt
      have HR : Hid (Row 5 .u8 (wr.setCell ⟨w.heap.size, n - 1 - k, none⟩ (.int .u8 (byteAt (val D16 ds) k))) w.heap.size (cur.set (n - 1 - k) (byteAt (val D16 ds) k))) := hrw.set (n - 1 - k) (byteAt (val D16 ds) k)
      have HB : Hid (Below w.heap.size w wr) := hb
      obtain ⟨m, hm⟩ : ∃ m, k / 2 = m := ⟨_, rfl⟩
      have hx0 := h.dg.getD D16_pos m
      have x0 := hx0.1
      have x1 : ds.getD m 0 < 65536 := hx0.2
      have heven : k % 2 = 0 → byteAt (val D16 ds) k = ds.getD m 0 % 256 := fun e => by rw [byte_even ds h.dg m]; congr 1; omega
      have hodd : k % 2 = 1 → byteAt (val D16 ds) k = ds.getD m 0 / 256 % 256 := fun e => by rw [byte_odd ds h.dg m]; congr 1; omega
      have hfr := hrw.frozen (n - 1 - k)
      have hcl := hrw.cell (n - 1 - k) (by omega)
      have ehalf : (k : Int) / 2 = (m : Int) := by omega
      obtain ⟨p, hp⟩ : ∃ p, n - 1 - k = p := ⟨_, rfl⟩
      have ek : (n : Int) - 1 - (k : Int) = (p : Int) := by omega
      have hpn : p < n := by omega
      rw [hp] at hfr hcl HS HR
      generalize cur.getD p 0 = y at *
      have hout : ¬ m < la → ds.getD m 0 = 0 := fun hk => by simp [List.getD, List.getElem?_eq_none (show ds.length ≤ m by omega)]
      have hin : m < la → ∃ b2 off2, ao = some ⟨b2, off2, none⟩ ∧ wr.cell? ⟨b2, off2 + m, none⟩ = some (.int .i64 (ds.getD m 0)) := fun hk => by
        obtain ⟨b2, off2, e, _, hc2⟩ := hx.at (by omega)
        exact ⟨b2, off2, e, hc2 m hk⟩
      clear h hrw ha hln hb hx HV hl hp hx0
      generalize ds.getD m 0 = x at *
      rcases (show k % 2 = 0 ∨ k % 2 = 1 by omega) with hpar | hpar
      · have hb8 := heven hpar
        rw [hb8] at HS HR
        have hev : (k : Int) % 2 = 0 := by omega
        clear heven hodd hb8 hpar hm
        by_cases hma : m < la
        · obtain ⟨b2, off2, rfl, hc2⟩ := hin hma
          clear hin hout
          go_wp2
          go_roundw
          case rel => exact ⟨k + 1, _, by omega, by go_num, HR.out, HS.out, HB.out.setCell (Nat.le_refl _) _⟩
          case measure => simp [intOf] <;> omega
        · obtain rfl := hout hma
          clear hin hout
          rw [show (0 : Int) % 256 = 0 from rfl] at HR HS
          go_wp2
          go_roundw
          case rel => exact ⟨k + 1, _, by omega, by go_num, HR.out, HS.out, HB.out.setCell (Nat.le_refl _) _⟩
          case measure => simp [intOf] <;> omega
      · have hb8 := hodd hpar
        rw [hb8] at HS HR
        have hev : (k : Int) % 2 = 1 := by omega
        clear heven hodd hb8 hpar hm
        by_cases hma : m < la
        · obtain ⟨b2, off2, rfl, hc2⟩ := hin hma
          clear hin hout
          go_wp2
          go_roundw
          case rel => exact ⟨k + 1, _, by omega, by go_num, HR.out, HS.out, HB.out.setCell (Nat.le_refl _) _⟩
          case measure => simp [intOf] <;> omega
        · obtain rfl := hout hma
          clear hin hout
          rw [show (0 : Int) / 256 % 256 = 0 from rfl] at HR HS
          go_wp2
          go_roundw
          case rel => exact ⟨k + 1, _, by omega, by go_num, HR.out, HS.out, HB.out.setCell (Nat.le_refl _) _⟩
          case measure => simp [intOf] <;> omega
    · obtain rfl : k = n := by omega
      have HF : Hid (BytesOut w wr (.slice (some ⟨w.heap.size, 0, none⟩) k k) k (val D16 ds)) := ⟨_, cur, rfl, hrw, ha.1, ha.2.1, ha.done HV.out.1 HV.out.2, hb⟩
      clear hrw ha hb h HV
      go_wp2
      go_ret
      exact ⟨_, rfl, HF.out⟩
end Go.Proofs.Ytnacgkkklmlhaaa
/-
  rsa's Pad, and the document's.
-/
namespace Go.Proofs.Ytnacgkkklmlhaaa
open Go.RowKit
set_option linter.unusedVariables false
set_option linter.unusedSimpArgs false

/-- What stands ahead of a hash. -/
def hashN : List Int := [48, 49, 48, 13, 6, 9, 96, 134, 72, 1, 101, 3, 4, 2, 1, 5, 0, 4, 32]
/-- What a power must give. -/
def padL (n : Nat) (hs : List Int) : List Int := 0 :: 1 :: (List.replicate (n - 54) 255 ++ (0 :: (hashN ++ hs)))
theorem padL_len (n : Nat) (hs : List Int) (h : hs.length = 32) (hn : 54 ≤ n) : (padL n hs).length = n := by simp [padL, hashN, h]; omega
theorem padL_dg (n : Nat) (hs : List Int) (h : Dg 256 hs) : Dg 256 (padL n hs) := by
  intro x hx
  simp only [padL, hashN, List.mem_cons, List.mem_append, List.mem_replicate, List.not_mem_nil, or_false] at hx
  rcases hx with rfl | rfl | ⟨_, rfl⟩ | rfl | h0 | h0
  · omega
  · omega
  · omega
  · omega
  · omega
  · exact h x h0

theorem Own.openR {e : TypeId} {k : IntKind} {w : World} {base : Nat} {v : Value} {xs : List Int} (h : Own e k w base v xs) : ∃ ao cap, v = .slice ao xs.length cap ∧ xs.length ≤ cap ∧ cap ≤ maxLen := by
  rcases h.2 with ⟨rfl, h0⟩ | ⟨g, cap, cur, rfl, hg, hrow, h1, h2, h3, h4⟩
  · exact ⟨none, 0, by rw [h0], by omega, by simp [maxLen]⟩
  · exact ⟨_, cap, rfl, h1, h2⟩
theorem Own.lenR {e : TypeId} {k : IntKind} {w : World} {base : Nat} {ao : Option Addr} {n c : Nat} {xs : List Int} (h : Own e k w base (.slice ao n c) xs) : xs.length = n := by
  obtain ⟨ao', c', e', _⟩ := h.openR
  injection e' with _ h2 _
  exact h2.symm
theorem Own.baseR {e : TypeId} {k : IntKind} {w : World} {b b' : Nat} {v : Value} {xs : List Int} (h : Own e k w b v xs) (hb : b' ≤ b) : Own e k w b' v xs := by
  refine ⟨h.1, ?_⟩
  rcases h.2 with h0 | ⟨g, cap, cur, e1, hg, r⟩
  · exact .inl h0
  · exact .inr ⟨g, cap, cur, e1, by omega, r⟩
theorem lies_all {e : TypeId} {k : IntKind} {w : World} {g n : Nat} {xs : List Int} (h : Row e k w g xs) (hn : xs.length = n) : Lies k w (some ⟨g, 0, none⟩) n xs := by
  have := h.lies 0 n (by omega)
  rwa [List.drop_zero, List.take_of_length_le (by omega)] at this
theorem Row.keepOther {e : TypeId} {k : IntKind} {w : World} {g : Nat} {xs : List Int} (h : Row e k w g xs) {p : Addr} (hp : g ≠ p.block) (v : Value) : Row e k (w.setCell p v) g xs := by
  unfold Row at *
  rw [heap_setCell_other w p g v hp]
  exact h
/-- copy(out[k:], "..."). -/
theorem wpList_copy_text {P : Program} {w : World} {ops : Array Oper} {rest : List Oper} {o : Oper} {a : Act} {Q : Exit → Act → World → Prop} (hgd : o.guard = none) (d s : Operand) (dT sT : TypeId)
    (ho : o.op = .call { callee := .builtin .copy, args := #[d, s], argTypes := #[dT, sT] }) (e : TypeId) (hu : P.underlying dT = some (.slice e)) (hsz : (P.info? e).map (·.size) = some 1)
    (g off dl dc : Nat) (b : ByteArray) (hd : a.eval d = .slice (some ⟨g, off, none⟩) dl dc) (hs : a.eval s = .string b) (xs ys : List Int) (hr : Row e .u8 w g xs) (hb : b.data.toList.map (fun x => Value.int .u8 x.toNat) = ys.map (Value.int .u8)) (hn : b.size ≤ dl) (hfit : off + ys.length ≤ xs.length)
    (B : Nat) (w0 : World) (hbel : Below B w0 w) (hB : B ≤ g)
    (h : ∀ w', Row e .u8 w' g (xs.take off ++ ys ++ xs.drop (off + ys.length)) → Below B w0 w' → (∀ j, j ≠ g → w'.heap[j]? = w.heap[j]?) → wpList P ops Q rest (a.put o.dst (goInt ys.length)) w') : wpList P ops Q (o :: rest) a w := by
  refine wpList_plain hgd fun K hK => ?_
  have hlen : b.size = ys.length := by
    have := congrArg List.length hb
    rw [List.length_map, List.length_map, Array.length_toList] at this
    exact this
  have hst := run_storeCells_at P g off e (ys.map (Value.int .u8)) 0 ((xs.map (Value.int .u8)).toArray) w hr (by simpa using hfit) (ints_oneCell _ _)
  have hmin : Nat.min b.size dl = b.size := Nat.min_eq_left hn
  have hex : b.extract 0 b.size = b := ByteArray.extract_zero_size
  have hcs : (b.data.map fun x => Value.int .u8 x.toNat).toList = ys.map (Value.int .u8) := by rw [Array.toList_map]; exact hb
  clear hb
  have hrun : (Builtin.copy_ #[dT, sT] o.type #[.slice (some ⟨g, off, none⟩) dl dc, .string b]).run P w = .ok (goInt b.size) (w.setRow g ((xs.map (Value.int .u8)).take off ++ ys.map (Value.int .u8) ++ (xs.map (Value.int .u8)).drop (off + ys.length)).toArray) := by
    cases hq : P.info? e with
    | none => simp [hq] at hsz
    | some i =>
      have hi : i.size = 1 := by simpa [hq] using hsz
      simp only [List.length_map, Nat.add_zero] at hst
      simp [Builtin.copy_, run_underlying hu, Builtin.lenOf, Builtin.firstCells, sizeOf, typeInfo, hq, hi, hmin, hex, -Array.toList_map, hcs, hst]
      rw [List.take_of_length_le (by simp; omega), hst]
      simp [List.append_assoc]
  unfold Oper.wp
  simp [execOp, ho, resolve, invoke, builtin, hd, hs, hrun, Result.andThen]
  refine hK _ _ ?_
  rw [hlen]
  have hrow := setRow_heap w g ((xs.map (Value.int .u8)).toArray) ((xs.map (Value.int .u8)).take off ++ ys.map (Value.int .u8) ++ (xs.map (Value.int .u8)).drop (off + ys.length)).toArray e (0, 0) hr
  have hgo := h _ (by unfold Row; rw [hrow]; simp) (below_setRow hbel hB _) (fun j hj => setRow_other w g j _ hj)
  simpa using hgo

set_option maxRecDepth 100000 in
set_option maxHeartbeats 4000000 in
/-- rsa.Pad. -/
theorem Pad_yes (n : Nat) (hs : List Int) (w : World) (h1 : 62 ≤ n) (h2 : n ≤ 512) (hl : hs.length = 32) :
    Calls Try.prog 16 #[.int .i64 n, ag .u8 hs] w fun e w' => ∃ g, e = .returned (.slice (some ⟨g, 0, none⟩) n n) ∧ Row 5 .u8 w' g (padL n hs) ∧ w.heap.size ≤ g ∧ Below w.heap.size w w' := by
  have hlt1 : ¬ ((n : Int) < 62) := by omega
  have hgt1 : ¬ ((512 : Int) < n) := by omega
  go_enter Try.func16, Try.ntmps16
  go_wp2_with (first
    | ((with_reducible show wpList _ _ _ (Oper.mk _ (Op.box _ _) _ _ _ _ :: _) _ _); refine wpList_box_row (w := w) (by with_reducible rfl) 47 _ (by with_reducible rfl) .u8 hs rfl ?_; intro w1 hr1 hb1 hs1)
    | (at_make; refine wpList_make_row _ rfl _ _ 48 rfl 5 .u8 1 Try.underlying48 Try.infoB _ _ _ _ n rfl rfl rfl rfl (by omega) (by unfold maxLen; omega) ?_))
  intro w2 hrow hbel
  obtain ⟨g, hg⟩ : ∃ g, w.heap.size + 1 = g := ⟨_, rfl⟩
  rw [hg] at hrow hbel
  have HH : Hid (Row 47 .u8 w2 w.heap.size hs ∧ Below w.heap.size w w2) := ⟨hr1.below hbel (by omega), hb1.trans (hbel.mono (by omega))⟩
  rw [hg]
  have hg2 : w.heap.size < g := by omega
  clear hr1 hb1 hs1 hbel hg
  go_wp2
  go_loopw [18] (fun i wr => ∃ k : Nat, k ≤ n ∧ i = .int .i64 k ∧ Row 5 .u8 wr g (List.replicate k 255 ++ List.replicate (n - k) 0) ∧ Row 47 .u8 wr w.heap.size hs ∧ Below w.heap.size w wr) (fun i _ => n - (intOf i).toNat)
  case atStart => exact ⟨0, Nat.zero_le _, rfl, by simpa using hrow, HH.out⟩
  case round =>
    obtain ⟨k, hk, rfl, hrw, hh, hb⟩ := hrel
    clear hrow HH
    by_cases hlt : k < n
    · have hcl := hrw.cell k (by simp; omega)
      have hfr := hrw.frozen k
      have HR : Hid (Row 5 .u8 (wr.setCell ⟨g, k, none⟩ (.int .u8 255)) g (List.replicate (k + 1) 255 ++ List.replicate (n - (k + 1)) 0)) := by
        have h0 := hrw.set k 255
        have e : (List.replicate k (255 : Int) ++ List.replicate (n - k) 0).set k 255 = List.replicate (k + 1) 255 ++ List.replicate (n - (k + 1)) 0 := by
          rw [List.set_append_right _ _ (by simp), List.length_replicate, Nat.sub_self, show n - k = (n - (k + 1)) + 1 by omega, List.replicate_succ (n := n - (k + 1)), List.set_cons_zero, List.replicate_succ' (n := k)]
          simp
        rw [e] at h0
        exact h0
      have HH : Hid (Row 47 .u8 (wr.setCell ⟨g, k, none⟩ (.int .u8 255)) w.heap.size hs ∧ Below w.heap.size w (wr.setCell ⟨g, k, none⟩ (.int .u8 255))) := ⟨hh.keepOther (by simp; omega) _, hb.setCell (by simp; omega) _⟩
      generalize (List.replicate k (255 : Int) ++ List.replicate (n - k) 0).getD k 0 = y at *
      clear hrw hh hb
      go_wp2
      go_roundw
      case rel => exact ⟨k + 1, by omega, by go_num, HR.out, HH.out⟩
      case measure => simp [intOf]; omega
    · obtain rfl : k = n := by omega
      rw [Nat.sub_self, List.replicate_zero, List.append_nil] at hrw
      obtain ⟨m, hm⟩ : ∃ m, k - 52 = m := ⟨_, rfl⟩
      have hm1 : (k : Int) - 32 - 19 - 1 = (m : Int) := by omega
      have hm2 : k - m = 52 := by omega
      have hm3 : m < k := by omega
      have hm4 : ¬ (k = m) := by omega
      have r1 := hrw.set 0 0
      have r2 := r1.set 1 1
      have r3 := r2.set m 0
      have l1 : (List.replicate k (255 : Int)).length = k := by simp
      have l2 : ((List.replicate k (255 : Int)).set 0 0).length = k := by simp
      have l3 : (((List.replicate k (255 : Int)).set 0 0).set 1 1).length = k := by simp
      have c0 := hrw.cell 0 (by omega)
      have f0 := hrw.frozen 0
      have c1 := r1.cell 1 (by omega)
      have f1 := r1.frozen 1
      have c2 := r2.cell m (by omega)
      have f2 := r2.frozen m
      have q3 := ((hh.keepOther (p := ⟨g, 0, none⟩) (by simp; omega) (.int .u8 0)).keepOther (p := ⟨g, 1, none⟩) (by simp; omega) (.int .u8 1)).keepOther (p := ⟨g, m, none⟩) (by simp; omega) (.int .u8 0)
      have b3 := ((hb.setCell (p := ⟨g, 0, none⟩) (by simp; omega) (.int .u8 0)).setCell (p := ⟨g, 1, none⟩) (by simp; omega) (.int .u8 1)).setCell (p := ⟨g, m, none⟩) (by simp; omega) (.int .u8 0)
      have HR : Hid _ := r3
      have HQ : Hid _ := And.intro q3 b3
      generalize (List.replicate k (255 : Int)).getD 0 0 = y0 at *
      generalize ((List.replicate k (255 : Int)).set 0 0).getD 1 0 = y1 at *
      generalize (((List.replicate k (255 : Int)).set 0 0).set 1 1).getD m 0 = y2 at *
      clear hrw r1 r2 r3 q3 b3 hh hb l1 l2 l3
      have HB : Hid (([48, 49, 48, 13, 6, 9, 96, 134, 72, 1, 101, 3, 4, 2, 1, 5, 0, 4, 32] : List UInt8).map (fun x => Value.int .u8 x.toNat) = hashN.map (Value.int .u8)) := by unfold Hid; rfl
      go_wp2_with ((with_reducible show wpList _ _ _ (Oper.mk _ (Op.call { callee := .builtin .copy, args := #[_, .const _], argTypes := _ }) _ _ _ _ :: _) _ _); refine wpList_copy_text rfl _ _ 48 9 rfl 5 Try.underlying48 (by kernel_rfl) g (m + 1) 51 51 ⟨#[48, 49, 48, 13, 6, 9, 96, 134, 72, 1, 101, 3, 4, 2, 1, 5, 0, 4, 32]⟩ rfl rfl _ hashN HR.out HB.out (by decide) (by simp [hashN]; omega) w.heap.size w HQ.out.2 (by omega) ?_; intro w3 hr3 hb3 hk3)
      have hq3 : Row 47 .u8 w3 w.heap.size hs := by
        unfold Row
        rw [hk3 _ (by omega)]
        exact HQ.out.1
      obtain ⟨L, hL⟩ : ∃ L, List.take (m + 1) ((((List.replicate k (255 : Int)).set 0 0).set 1 1).set m 0) ++ hashN ++ List.drop (m + 1 + hashN.length) ((((List.replicate k 255).set 0 0).set 1 1).set m 0) = L := ⟨_, rfl⟩
      have HL : Hid (L.length = k ∧ L.take (m + 20) = 0 :: 1 :: (List.replicate (k - 54) 255 ++ (0 :: hashN))) := by
        unfold Hid
        have e0 : (((List.replicate k (255 : Int)).set 0 0).set 1 1).set m 0 = (0 :: 1 :: (List.replicate (k - 54) 255 ++ [0])) ++ List.replicate 51 255 := by
          rw [show List.replicate k (255 : Int) = 255 :: 255 :: (List.replicate (k - 54) 255 ++ 255 :: List.replicate 51 255) by
            rw [show k = (k - 54) + (51 + 1) + 1 + 1 by omega, List.replicate_succ, List.replicate_succ]
            congr 2
            rw [← List.replicate_succ, ← List.replicate_append_replicate]
            congr 2]
          rw [List.set_cons_zero, List.set_cons_succ, List.set_cons_zero, show m = (k - 54) + 1 + 1 by omega, List.set_cons_succ, List.set_cons_succ, List.set_append_right _ _ (by simp)]
          simp
        have el : (0 :: 1 :: (List.replicate (k - 54) (255 : Int) ++ [0])).length = m + 1 := by simp; omega
        rw [e0, List.take_left' el] at hL
        rw [← hL]
        constructor
        · simp [hashN]; omega
        · rw [List.take_append_of_le_length (by simp [hashN]; omega), List.take_of_length_le (by simp [hashN]; omega)]
          simp
      rw [hL] at hr3
      clear hL HR HQ HB c0 c1 c2 f0 f1 f2
      have HG : Hid (Row 5 .u8 w3 g L ∧ Row 47 .u8 w3 w.heap.size hs ∧ Below w.heap.size w w3) := ⟨hr3, hq3, hb3⟩
      clear hr3 hq3 hb3 hk3
      have hrun := run_copy_row Try.prog w3.drew 48 48 3 5 g (m + 20) 32 32 ⟨w.heap.size, 0, none⟩ 32 32 ((L.map (Value.int .u8)).toArray) 5 (hs.map (Value.int .u8)) Try.underlying48 (by kernel_rfl) HG.out.1 (by simp [hl]) (fun j v hj => by
        rw [List.getElem?_map] at hj
        have hlt : j < hs.length := by
          rcases Nat.lt_or_ge j hs.length with h | h
          · exact h
          · rw [List.getElem?_eq_none h] at hj; cases hj
        have h5 : w3.drew.cell? ⟨w.heap.size, j, none⟩ = _ := HG.out.2.1.cell j hlt
        rw [add_none, Nat.zero_add, h5, ← hj, List.getElem?_eq_getElem hlt, List.getD_eq_getElem?_getD, List.getElem?_eq_getElem hlt]
        rfl) (by have := HL.out.1; simp; omega) (ints_oneCell _ _)
      rw [List.length_map, hl] at hrun
      have HX : Hid (Row 5 .u8 (w3.drew.setRow g ((L.map (Value.int .u8)).toArray.toList.take (m + 20) ++ hs.map (Value.int .u8) ++ (L.map (Value.int .u8)).toArray.toList.drop (m + 20 + 32)).toArray) g (padL k hs) ∧ Below w.heap.size w (w3.drew.setRow g ((L.map (Value.int .u8)).toArray.toList.take (m + 20) ++ hs.map (Value.int .u8) ++ (L.map (Value.int .u8)).toArray.toList.drop (m + 20 + 32)).toArray)) := by
        refine ⟨?_, below_setRow HG.out.2.2.drew (by omega) _⟩
        unfold Row
        rw [setRow_heap w3.drew g _ _ 5 (0, 0) HG.out.1]
        congr 2
        rw [List.drop_of_length_le (by have := HL.out.1; simp; omega), List.append_nil, List.toList_toArray, ← List.map_take, HL.out.2, ← List.map_append]
        simp [padL]
      generalize w3.drew.setRow g ((L.map (Value.int .u8)).toArray.toList.take (m + 20) ++ hs.map (Value.int .u8) ++ (L.map (Value.int .u8)).toArray.toList.drop (m + 20 + 32)).toArray = w5 at *
      go_region
      all_goals
        go_wp2
        go_ret
        exact ⟨g, rfl, HX.out.1, by omega, HX.out.2⟩

set_option maxRecDepth 100000 in
set_option maxHeartbeats 1000000 in
theorem Pad_no (n : Int) (hs : List Int) (w : World) (h1 : n < 62 ∨ 512 < n) :
    Calls Try.prog 16 #[.int .i64 n, ag .u8 hs] w fun e w' => e = .returned (.slice none 0 0) ∧ Below w.heap.size w w' := by
  go_enter Try.func16, Try.ntmps16
  by_cases h2 : n < 62
  · go_wp2_with (first
      | ((with_reducible show wpList _ _ _ (Oper.mk _ (Op.box _ _) _ _ _ _ :: _) _ _); refine wpList_box_row (w := w) (by with_reducible rfl) 47 _ (by with_reducible rfl) .u8 hs rfl ?_; intro w1 hr1 hb1 hs1))
    go_ret
    exact ⟨rfl, hb1⟩
  · have h3 : 512 < n := by omega
    go_wp2_with (first
      | ((with_reducible show wpList _ _ _ (Oper.mk _ (Op.box _ _) _ _ _ _ :: _) _ _); refine wpList_box_row (w := w) (by with_reducible rfl) 47 _ (by with_reducible rfl) .u8 hs rfl ?_; intro w1 hr1 hb1 hs1))
    go_ret
    exact ⟨rfl, hb1⟩

set_option maxRecDepth 100000 in
set_option maxHeartbeats 1000000 in
theorem rPad_no (n : Int) (hs : List Int) (w : World) (h1 : n < 62 ∨ 512 < n) :
    Calls Try.prog 17 #[.int .i64 n, ag .u8 hs] w fun e w' => e = .returned (.slice none 0 0) ∧ Below w.heap.size w w' := by
  go_enter Try.func17, Try.ntmps17
  by_cases h2 : n < 62
  · go_wp2_with (first
      | ((with_reducible show wpList _ _ _ (Oper.mk _ (Op.box _ _) _ _ _ _ :: _) _ _); refine wpList_box_row (w := w) (by with_reducible rfl) 47 _ (by with_reducible rfl) .u8 hs rfl ?_; intro w1 hr1 hb1 hs1))
    go_ret
    exact ⟨rfl, hb1⟩
  · have h3 : 512 < n := by omega
    go_wp2_with (first
      | ((with_reducible show wpList _ _ _ (Oper.mk _ (Op.box _ _) _ _ _ _ :: _) _ _); refine wpList_box_row (w := w) (by with_reducible rfl) 47 _ (by with_reducible rfl) .u8 hs rfl ?_; intro w1 hr1 hb1 hs1))
    go_ret
    exact ⟨rfl, hb1⟩

set_option maxRecDepth 100000 in
set_option maxHeartbeats 4000000 in
/-- The document's Pad. -/
theorem rPad_yes (n : Nat) (hs : List Int) (w : World) (h1 : 62 ≤ n) (h2 : n ≤ 512) (hl : hs.length = 32) :
    Calls Try.prog 17 #[.int .i64 n, ag .u8 hs] w fun e w' => ∃ v, e = .returned v ∧ Own 5 .u8 w' w.heap.size v (padL n hs) ∧ Below w.heap.size w w' := by
  have hlt1 : ¬ ((n : Int) < 62) := by omega
  have hgt1 : ¬ ((512 : Int) < n) := by omega
  go_enter Try.func17, Try.ntmps17
  go_wp2_with (first
    | ((with_reducible show wpList _ _ _ (Oper.mk _ (Op.box _ _) _ _ _ _ :: _) _ _); refine wpList_box_row (w := w) (by with_reducible rfl) 47 _ (by with_reducible rfl) .u8 hs rfl ?_; intro w1 hr1 hb1 hs1))
  obtain ⟨gap, hgap⟩ : ∃ gap, n - 54 = gap := ⟨_, rfl⟩
  have h0 : Own 5 .u8 (w1.alloc (.cells #[.int .u8 0, .int .u8 1] 5)) (w.heap.size + 1) (.slice (some ⟨w1.heap.size, 0, none⟩) 2 2) ([0, 1] ++ List.replicate 0 255) := (Row.alloc 5 .u8 w1 [0, 1]).own (by omega) (by decide)
  have HB0 : Hid (Row 47 .u8 w1 w.heap.size hs ∧ Below w.heap.size w w1 ∧ w1.heap.size = w.heap.size + 1) := ⟨hr1, hb1, hs1⟩
  have HH0 : Hid (Own 5 .u8 (w1.alloc (.cells #[.int .u8 0, .int .u8 1] 5)) (w.heap.size + 1) (.slice (some ⟨w1.heap.size, 0, none⟩) 2 2) ([0, 1] ++ List.replicate 0 255) ∧ Below (w.heap.size + 1) w1 (w1.alloc (.cells #[.int .u8 0, .int .u8 1] 5))) := ⟨h0, (Below.refl _ _).alloc (by omega) _⟩
  have HGAP : Hid (n - 54 = gap) := hgap
  have hsz1 := hs1
  clear h0 hr1 hb1 hs1 hgap
  go_loopg [5] gap (fun k v wr => ∃ j, j + k = gap ∧ Own 5 .u8 wr (w.heap.size + 1) v ([0, 1] ++ List.replicate j 255) ∧ Below (w.heap.size + 1) w1 wr)
  case atStart => exact ⟨0, by omega, by have := HH0.out; rwa [hsz1] at this⟩
  case round =>
    obtain ⟨j, hjk, hown, hb⟩ := hrel
    clear HH0
    obtain ⟨a5, c5, hv5, hlc5, hcm5⟩ := hown.openR
    have hL : ([0, 1] ++ List.replicate j (255 : Int)).length = 2 + j := by simp; omega
    obtain ⟨M, hM⟩ : ∃ M, 2 + j = M := ⟨_, rfl⟩
    rw [hL, hM] at hv5 hlc5
    subst hv5
    have hgp := HGAP.out
    have HO : Hid (Own 5 .u8 wr (w.heap.size + 1) (.slice a5 M c5) ([0, 1] ++ List.replicate j 255) ∧ Below (w.heap.size + 1) w1 wr ∧ ([0, 1] ++ List.replicate j (255 : Int)).length < 1073741824 ∧ w.heap.size + 1 ≤ wr.heap.size) := ⟨hown, hb, by omega, by have := hb.size; omega⟩
    unfold maxLen at hcm5
    have HL : Hid (2 + j = M) := hM
    clear hown hb hL
    cases gk with
    | succ k' =>
      have hlt : (M : Int) < (n : Int) - 52 := by omega
      clear hM hgp
      generalize hXs : [0, 1] ++ List.replicate j (255 : Int) = Xs at HO
      have HXS : Hid (Xs ++ [255] = [0, 1] ++ List.replicate (j + 1) 255) := by unfold Hid; rw [← hXs, List.replicate_succ', List.append_assoc]
      clear hXs
      go_wp2_with (at_builtin; refine wpList_append_one rfl _ _ 48 rfl 5 .u8 1 Try.underlying48 Try.infoB (w.heap.size + 1) (.slice a5 M c5) Xs 255 (by rfl) HO.out.1 (by rfl) HO.out.2.2.1 (by decide) w1 HO.out.2.1 HO.out.2.2.2 ?_; intro v6 w6 hown6 hb6)
      go_roundg k'
      case measure => omega
      case rel => exact ⟨j + 1, by omega, by rw [← HXS.out]; exact hown6, hb6⟩
    | zero =>
      have hge : ¬ ((M : Int) < (n : Int) - 52) := by omega
      have hM5 : M ≤ 512 := by omega
      obtain rfl : j = gap := by omega
      clear hM hgp
      have HXS : Hid ([0, 1] ++ List.replicate j (255 : Int) ++ (0 :: hashN) ++ hs = padL n hs) := by unfold Hid padL; rw [HGAP.out]; simp
      generalize [0, 1] ++ List.replicate j (255 : Int) = Xs at *
      have hn8 : Xs.length + 20 ≤ 1073741824 := by have := HO.out.2.2.1; have h9 : Xs.length = M := HO.out.1.lenR; omega
      have hn9 : (Xs ++ (0 :: hashN)).length + 32 ≤ 1073741824 := by have h9 : Xs.length = M := HO.out.1.lenR; simp [hashN]; omega
      have ha : Row 5 .u8 (wr.alloc (.cells (((0 :: hashN).map (Value.int .u8)).toArray) 5)) wr.heap.size (0 :: hashN) := Row.alloc 5 .u8 wr (0 :: hashN)
      have HA : Hid (Lies .u8 (wr.alloc (.cells #[.int .u8 0, .int .u8 48, .int .u8 49, .int .u8 48, .int .u8 13, .int .u8 6, .int .u8 9, .int .u8 96, .int .u8 134, .int .u8 72, .int .u8 1, .int .u8 101, .int .u8 3, .int .u8 4, .int .u8 2, .int .u8 1, .int .u8 5, .int .u8 0, .int .u8 4, .int .u8 32] 5)) (some ⟨wr.heap.size, 0, none⟩) 20 (0 :: hashN)) := ha.lies 0 20 (by decide)
      go_wp2_with (first
        | (at_builtin; refine wpList_append_nums rfl _ _ 48 rfl 5 .u8 1 Try.underlying48 Try.infoB (w.heap.size + 1) (.slice a5 M c5) Xs (by rfl) (HO.out.1.alloc _) (some ⟨wr.heap.size, 0, none⟩) 20 20 (0 :: hashN) (by rfl) HA.out (fun h => by cases h) hn8 (by decide) w1 (HO.out.2.1.alloc HO.out.2.2.2 _) (by have := HO.out.2.2.2; simp; omega) ?_; intro v6 w6 hown6 hb6 hk6 hs6; have H6 : Hid (Own 5 .u8 w6 (w.heap.size + 1) v6 (Xs ++ (0 :: hashN)) ∧ Below (w.heap.size + 1) w1 w6 ∧ Lies .u8 w6 (some ⟨w.heap.size, 0, none⟩) 32 hs ∧ w.heap.size + 1 ≤ w6.heap.size) := ⟨hown6, hb6, lies_all (HB0.out.1.below hb6 (by omega)) hl, by have := HO.out.2.2.2; simp at hs6; omega⟩; clear hown6 hb6 hk6 hs6 HA ha)
        | (at_builtin; refine wpList_append_nums rfl _ _ 48 rfl 5 .u8 1 Try.underlying48 Try.infoB (w.heap.size + 1) v6 (Xs ++ (0 :: hashN)) (by rfl) H6.out.1 (some ⟨w.heap.size, 0, none⟩) 32 32 hs (by rfl) H6.out.2.2.1 (fun h => by cases h) hn9 (by decide) w1 H6.out.2.1 H6.out.2.2.2 ?_; intro v7 w7 hown7 hb7 hk7 hs7))
      go_ret
      refine ⟨_, rfl, ?_, HB0.out.2.1.trans (hb7.mono (by omega))⟩
      rw [HXS.out] at hown7
      exact hown7.baseR (by omega)
end Go.Proofs.Ytnacgkkklmlhaaa
/-
  Contracts of sha.ending and sha.spread.
-/
namespace Go.Proofs.Ytnacgkkklmlhaaa
open Go.RowKit
set_option linter.unusedVariables false
set_option linter.unusedSimpArgs false

theorem getD_set_same' (l : List Int) (i : Nat) (x : Int) (h : i < l.length) : (l.set i x).getD i 0 = x := by simp [List.getD, h]
theorem getD_set_other' (l : List Int) (i j : Nat) (x : Int) (h : i ≠ j) : (l.set i x).getD j 0 = l.getD j 0 := by simp [List.getD, List.getElem?_set_ne h]
theorem ext_getD' (l m : List Int) (h : l.length = m.length) (hj : ∀ j, j < l.length → l.getD j 0 = m.getD j 0) : l = m := by
  apply List.ext_getElem h
  intro j h1 h2
  have := hj j h1
  simpa [List.getD, h1, h2] using this

theorem pad8_length (n : Nat) : (pad8 n).length = 8 := by simp [pad8]
theorem pad8_get (n j : Nat) (h : j < 8) : (pad8 n).getD j 0 = (8 * n : Int) / 2 ^ (56 - 8 * j) % 256 := by simp [pad8, List.getD, h]
theorem ending_length (n : Nat) : (ending n).length = gapN n + 9 := by simp [ending, pad8_length]
theorem ending_zero (n : Nat) : (ending n).getD 0 0 = 128 := rfl
theorem ending_mid (n j : Nat) (h0 : 0 < j) (h : j < gapN n + 1) : (ending n).getD j 0 = 0 := by
  obtain ⟨i, rfl⟩ : ∃ i, j = i + 1 := ⟨j - 1, by omega⟩
  unfold ending
  simp only [List.getD, List.getElem?_cons_succ]
  rw [List.getElem?_append_left (by simp; omega)]
  simp [List.getElem?_replicate, show i < gapN n by omega]
theorem ending_last (n j : Nat) (h0 : gapN n + 1 ≤ j) (h : j < gapN n + 9) : (ending n).getD j 0 = (8 * n : Int) / 2 ^ (8 * (gapN n + 8 - j)) % 256 := by
  obtain ⟨i, rfl⟩ : ∃ i, j = i + 1 := ⟨j - 1, by omega⟩
  have e : (ending n).getD (i + 1) 0 = (pad8 n).getD (i - gapN n) 0 := by
    unfold ending
    simp only [List.getD, List.getElem?_cons_succ]
    rw [List.getElem?_append_right (by simp; omega)]
    simp
  rw [e, pad8_get _ _ (by omega), show 56 - 8 * (i - gapN n) = 8 * (gapN n + 8 - (i + 1)) by omega]

/-- What is hashed behind, i bytes of the length in their places. -/
def EndP (n i : Nat) (cur : List Int) : Prop :=
  cur.length = gapN n + 9 ∧ cur.getD 0 0 = 128 ∧ (∀ j, 0 < j → j < gapN n + 9 - i → cur.getD j 0 = 0) ∧ ∀ j, gapN n + 9 - i ≤ j → j < gapN n + 9 → cur.getD j 0 = (8 * n : Int) / 2 ^ (8 * (gapN n + 8 - j)) % 256
theorem EndP.zero (n : Nat) : EndP n 0 ((List.replicate (gapN n + 9) 0).set 0 128) := by
  refine ⟨by simp, getD_set_same' _ _ _ (by simp), fun j h1 h2 => ?_, fun j h1 h2 => by omega⟩
  rw [getD_set_other' _ _ _ _ (by omega)]
  simp [List.getD, List.getElem?_replicate]; split <;> rfl
theorem EndP.step {n i : Nat} {cur : List Int} (h : EndP n i cur) (hi : i < 8) : EndP n (i + 1) (cur.set (gapN n + 8 - i) ((8 * n : Int) / 2 ^ (8 * i) % 256)) := by
  obtain ⟨h1, h2, h3, h4⟩ := h
  refine ⟨by simpa using h1, ?_, fun j a b => ?_, fun j a b => ?_⟩
  · rw [getD_set_other' _ _ _ _ (by omega)]; exact h2
  · rw [getD_set_other' _ _ _ _ (by omega)]; exact h3 j a (by omega)
  · by_cases e : j = gapN n + 8 - i
    · subst e
      rw [getD_set_same' _ _ _ (by omega), show gapN n + 8 - (gapN n + 8 - i) = i by omega]
    · rw [getD_set_other' _ _ _ _ (by omega)]; exact h4 j (by omega) b
theorem EndP.done {n : Nat} {cur : List Int} (h : EndP n 8 cur) : cur = ending n := by
  obtain ⟨h1, h2, h3, h4⟩ := h
  refine ext_getD' _ _ (by rw [h1, ending_length]) fun j hj => ?_
  rw [h1] at hj
  by_cases e0 : j = 0
  · subst e0; rw [h2]; rfl
  · by_cases e1 : j < gapN n + 1
    · rw [h3 j (by omega) (by omega), ending_mid n j (by omega) e1]
    · rw [h4 j (by omega) hj, ending_last n j (by omega) hj]

theorem spreadS_length (l : List Int) : (spreadS l).length = 32 := by simp [spreadS]
theorem spreadS_get (l : List Int) (j : Nat) (h : j < 32) : (spreadS l).getD j 0 = l.getD (j / 4) 0 / 2 ^ (24 - 8 * (j % 4)) % 256 := by simp [spreadS, List.getD, h]
/-- The first i bytes. -/
def SprP (l : List Int) (i : Nat) (cur : List Int) : Prop := cur.length = 32 ∧ ∀ j, j < i → cur.getD j 0 = (spreadS l).getD j 0
theorem SprP.step {l cur : List Int} {i : Nat} (h : SprP l i cur) (hi : i < 32) : SprP l (i + 1) (cur.set i ((spreadS l).getD i 0)) := by
  refine ⟨by simpa using h.1, fun j hj => ?_⟩
  by_cases e : j = i
  · subst e; exact getD_set_same' _ _ _ (by rw [h.1]; exact hi)
  · rw [getD_set_other' _ _ _ _ (by omega)]; exact h.2 j (by omega)
theorem SprP.done {l cur : List Int} (h : SprP l 32 cur) : cur = spreadS l :=
  ext_getD' _ _ (by rw [h.1, spreadS_length]) fun j hj => h.2 j (by rw [h.1] at hj; exact hj)

theorem Row.setOther2 {e : TypeId} {k : IntKind} {w : World} {g : Nat} {xs : List Int} (h : Row e k w g xs) {p : Addr} (hp : g ≠ p.block) (v : Value) : Row e k (w.setCell p v) g xs := by
  unfold Row
  rw [heap_setCell_other w p g v hp]
  exact h

end Go.Proofs.Ytnacgkkklmlhaaa
/-
  A hash in memory: its cells, what is read and written of them.
-/
namespace Go.Proofs.Ytnacgkkklmlhaaa
open Go.RowKit
set_option linter.unusedVariables false
set_option linter.unusedSimpArgs false

/-- But for block g the world w' is as w was. -/
structure But (g : Nat) (w w' : World) : Prop where
  os : w'.os = w.os
  tape : w'.tape = w.tape
  output : w'.output = w.output
  size : w.heap.size ≤ w'.heap.size
  block : ∀ k, k < w.heap.size → k ≠ g → w'.heap[k]? = w.heap[k]?
theorem But.refl (g : Nat) (w : World) : But g w w := ⟨rfl, rfl, rfl, Nat.le_refl _, fun _ _ _ => rfl⟩
theorem But.trans {g : Nat} {a b c : World} (h : But g a b) (k : But g b c) : But g a c :=
  ⟨k.os.trans h.os, k.tape.trans h.tape, k.output.trans h.output, Nat.le_trans h.size k.size, fun i hi hg => (k.block i (Nat.lt_of_lt_of_le hi h.size) hg).trans (h.block i hi hg)⟩
theorem But.ofBelow {g : Nat} {w w' : World} (h : Below w.heap.size w w') : But g w w' := ⟨h.os, h.tape, h.output, h.size, fun k hk _ => h.block k hk⟩
theorem But.below {g B : Nat} {w w' : World} (h : But g w w') (hB : B ≤ g) (hw : B ≤ w.heap.size) : Below B w w' := ⟨h.os, h.tape, h.output, h.size, fun k hk => h.block k (by omega) (by omega)⟩
theorem But.setRow (g : Nat) (w : World) (cs : Array Value) : But g w (w.setRow g cs) := ⟨rfl, rfl, rfl, by simp, fun k _ hk => setRow_other w g k cs hk⟩
theorem But.setCell (g : Nat) (w : World) (j : Nat) (v : Value) : But g w (w.setCell ⟨g, j, none⟩ v) := ⟨rfl, rfl, rfl, by simp [World.setCell], fun k _ hk => heap_setCell_other w ⟨g, j, none⟩ k v hk⟩
theorem But.drewN (g : Nat) (w : World) (n : Nat) : But g w (w.drewN n) := But.ofBelow (Drew.below ⟨n, rfl⟩ _)
theorem But.row {g : Nat} {w w' : World} (h : But g w w') {e : TypeId} {k : IntKind} {j : Nat} {xs : List Int} (hr : Row e k w j xs) (hj : j ≠ g) : Row e k w' j xs := by
  unfold Row
  rw [h.block j hr.lt hj]
  exact hr
theorem But.lies {g : Nat} {w w' : World} (h : But g w w') {k : IntKind} {ao : Option Addr} {len : Nat} {xs : List Int} (hl : Lies k w ao len xs) (hj : ∀ b off s, ao = some ⟨b, off, s⟩ → b ≠ g) : Lies k w' ao len xs := by
  refine ⟨hl.1, ?_⟩
  rcases hl.2 with h0 | ⟨b, off, e, hlt, hc⟩
  · exact .inl h0
  · refine .inr ⟨b, off, e, Nat.lt_of_lt_of_le hlt h.size, fun i hi => ?_⟩
    rw [← hc i hi]
    exact World.cell?_of_block (w := w) (h.block b hlt (hj b off none e))

/-- The cells of a hash. -/
def HC (n : Int) (ws rs : List Int) : List Value := Value.int .u64 n :: (ws.map (Value.int .u32) ++ rs.map (Value.int .u8))
theorem HC_length (n : Int) (ws rs : List Int) : (HC n ws rs).length = 1 + ws.length + rs.length := by simp [HC]; omega
theorem HC_word (n : Int) (ws rs : List Int) (j : Nat) (h : j < ws.length) : (HC n ws rs)[1 + j]? = some (.int .u32 (ws.getD j 0)) := by
  rw [Nat.add_comm]
  simp only [HC, List.getElem?_cons_succ]
  rw [List.getElem?_append_left (by simpa using h)]
  simp [List.getD, h]
theorem HC_rest (n : Int) (ws rs : List Int) (j : Nat) (h : j < rs.length) : (HC n ws rs)[1 + ws.length + j]? = some (.int .u8 (rs.getD j 0)) := by
  rw [show 1 + ws.length + j = (ws.length + j) + 1 by omega]
  simp only [HC, List.getElem?_cons_succ]
  rw [List.getElem?_append_right (by simp)]
  simp [List.getD, h]
theorem HC_words (n : Int) (ws rs vs : List Int) (h : vs.length = ws.length) : (HC n ws rs).take (1 + 0) ++ vs.map (Value.int .u32) ++ (HC n ws rs).drop (1 + 0 + (vs.map (Value.int .u32)).length) = HC n vs rs := by
  have e : 1 + 0 + (vs.map (Value.int .u32)).length = ws.length + 1 := by simp; omega
  rw [e]
  simp only [HC, Nat.add_zero, List.take_succ_cons, List.take_zero, List.drop_succ_cons]
  rw [List.drop_append_of_le_length (by simp), List.drop_eq_nil_of_le (by simp)]
  simp
theorem HC_over (n : Int) (ws rs cs : List Int) (o : Nat) (h : o + cs.length ≤ rs.length) : (HC n ws rs).take (1 + ws.length + o) ++ cs.map (Value.int .u8) ++ (HC n ws rs).drop (1 + ws.length + o + (cs.map (Value.int .u8)).length) = HC n ws (rs.take o ++ cs ++ rs.drop (o + cs.length)) := by
  rw [show 1 + ws.length + o = (ws.length + o) + 1 by omega]
  have e : ws.length + o + 1 + (cs.map (Value.int .u8)).length = (ws.length + (o + cs.length)) + 1 := by simp; omega
  rw [e]
  simp only [HC, List.take_succ_cons, List.drop_succ_cons, List.cons_append]
  congr 1
  have h1 : (ws.map (Value.int .u32)).length = ws.length := by simp
  rw [← h1, List.take_length_add_append, List.drop_length_add_append]
  simp

end Go.Proofs.Ytnacgkkklmlhaaa
