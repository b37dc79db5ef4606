import Derived.Test.YtiblpcfkecalcabDoorK05
import Derived.Test.YtiblpcfkecalcabDoorK02
import Derived.RangeFuncNested
import Derived.RangeFuncBound
import Derived.RangeFuncCalls
import Derived.RangeFuncLeaves
import Derived.Shelf.Abstract
import Derived.Shelf.RegionOpen
import Derived.OwnWalkIn
import Derived.TacticsInMore
import Derived.LoopNIn
import Derived.LoopIn
import Derived.Stop.RegionWithIn
import Derived.Test.YtiblpcfkecalcabDoorK04
/-
  A range over a function whose elements lie in new memory.
-/
namespace Go.Proofs.YtiblpcfkecalcabDoor
open Go.Shelf Go.RowKit
set_option linter.unusedVariables false
set_option linter.unusedSimpArgs false

/-- A range over a function that yields elements in new memory; each round may make memory of its own. -/
theorem range_new {α : Type} {P : Program} {n : Nat} {g : Operand} {ps : Array Tmp} {assign body : Code} {Q : Exit → Act → World → Prop} {a : Act} {w : World} {gf : Nat} {lb : Array Value} (hn : 1 ≤ n) (Gd : List α → α → Prop)
    (hg : a.eval g = .func (.func gf) #[] lb) (eg : ∀ args w, (callFunc gf args).run P w = .ok (.enter gf args) w)
    (E : α → Array Value) (hps : ∀ x, (E x).size = ps.size) (Y : Nat → α → World → Prop) (S Sp : List α → Prop) (I : List α → World → Prop) (Ix : Code → List α → World → Prop)
    (hit : ∀ (l : Nat) (r : Loop) (J Jx : List α → World → Prop), (∀ pre W, J pre W → I pre W) → (∀ pre W W', J pre W → Below W.heap.size W W' → J pre W') →
      (∀ pre x W0 W1, J pre W0 → Gd pre x → Below W0.heap.size W0 W1 → Y W0.heap.size x W1 → YieldAt Fence.wide (n - 1 - 1) P l (E x) W1 fun e W' => (e = .returned (.bool true) ∧ J (pre ++ [x]) W') ∨ (e = .returned (.bool false) ∧ Jx (pre ++ [x]) W')) →
      J [] ((w.alloc (.deferred (some []))).alloc (.loop r)) →
      CallsIn Fence.wide (n - 1) P gf (#[.func (.yield l) #[] #[]] ++ lb) ((w.alloc (.deferred (some []))).alloc (.loop r)) fun e W' => (∃ v, e = .returned v) ∧ ((∃ xs, S xs ∧ J xs W') ∨ (∃ pre, Sp pre ∧ Jx pre W')))
    (hIb : ∀ pre W W', I pre W → Below W.heap.size W W' → I pre W')
    (hIp : ∀ pre W r o o', I pre W → w.heap.size ≤ r → W.heap[r]? = some o → o.isCells = false → I pre (W.putObj r o'))
    (hXp : ∀ c pre W r o o', Ix c pre W → w.heap.size ≤ r → W.heap[r]? = some o → o.isCells = false → Ix c pre (W.putObj r o'))
    (h0 : I [] w)
    (hround : ∀ (l : Nat) (r : Loop) (pre : List α) (x : α) (W0 W : World), Gd pre x → w.heap.size ≤ l → l < W0.heap.size → W.heap[l]? = some (.loop r) → I pre W0 → Below W0.heap.size W0 W → I pre W → Y W0.heap.size x W →
      assign.wpIn (Fence.wide.inRound l) (n - 1 - 1) P (Exit.then (fun a1 W1 => Below W.heap.size W W1 ∧ ∀ o', body.wpIn (Fence.wide.inRound l) (n - 1 - 1) P (ownPostG w.heap.size (fun _ _ => True) I Ix (pre ++ [x]) (W1.putObj l o')) a1 (W1.putObj l o')) (fun _ _ _ => False))
        { tmps := (ps.zip (E x)).foldl (fun t (p, v) => t.setIfInBounds p v) a.tmps, defers := [] } W)
    (hdone : ∀ (D : Nat) (xs : List α) (W : World), w.heap.size ≤ D → S xs → I xs W → W.heap[D]? = some (.deferred (some [])) → Q .normal { a with defers := { target := .collected D, args := #[] } :: a.defers } W)
    (hstop : ∀ (D : Nat) (c : Code) (pre : List α) (W : World), w.heap.size ≤ D → Sp pre → Ix c pre W → W.heap[D]? = some (.deferred (some [])) → c.wpIn Fence.wide n P Q { a with defers := { target := .collected D, args := #[] } :: a.defers } W) :
    (Code.rangeFunc g ps assign body).wpIn Fence.wide n P Q a w := by
  refine wpIn_rangeFunc ?_
  intro fn _
  obtain ⟨st, hst⟩ : ∃ st : LoopState → Option Code → Loop, st = fun s pe => { state := s, pending := pe, fn := fn, tmps := a.tmps, params := ps, assign := assign, body := body, defers := w.heap.size } := ⟨_, rfl⟩
  have hd1 : ((w.alloc (.deferred (some []))).alloc (.loop (st .ready none))).heap[w.heap.size]? = some (.deferred (some [])) := (Below.heap_alloc _ _ _ (by simp)).trans (World.alloc_heap_new w _)
  have hl1 : ((w.alloc (.deferred (some []))).alloc (.loop (st .ready none))).heap[w.heap.size + 1]? = some (.loop (st .ready none)) := by
    have := World.alloc_heap_new (w.alloc (.deferred (some []))) (.loop (st .ready none))
    rwa [World.size_alloc] at this
  have hb1 : Below w.heap.size w ((w.alloc (.deferred (some []))).alloc (.loop (st .ready none))) := ((Below.refl _ w).alloc (Nat.le_refl _) _).alloc (by simp) _
  refine ⟨w.heap.size + 1, [{ target := .collected w.heap.size, args := #[] }], (w.alloc (.deferred (some []))).alloc (.loop (st .ready none)), { target := .fn (.func gf) lb, args := #[.func (.yield (w.heap.size + 1)) #[] #[]] }, (w.alloc (.deferred (some []))).alloc (.loop (st .ready none)), gf, #[.func (.yield (w.heap.size + 1)) #[] #[]] ++ lb, (w.alloc (.deferred (some []))).alloc (.loop (st .ready none)), by rw [hst]; exact run_enterLoop_outer _ _ _ _ _, by simp only [resolve, hg]; simp [go_sem], fun _ _ => trivial, by simp [invoke, go_sem, eg], fun _ => hn, ?_⟩
  refine (hit (w.heap.size + 1) (st .ready none)
    (fun pre W => I pre W ∧ W.heap[w.heap.size + 1]? = some (.loop (st .ready none)) ∧ W.heap[w.heap.size]? = some (.deferred (some [])))
    (fun pre W => ∃ c, Ix c pre W ∧ W.heap[w.heap.size + 1]? = some (.loop (st .done (some c))) ∧ W.heap[w.heap.size]? = some (.deferred (some [])))
    (fun _ _ h => h.1)
    (fun pre W W' h hb => ⟨hIb pre W W' h.1 hb, (hb.block _ (Array.getElem?_eq_some_iff.1 h.2.1).1).trans h.2.1, (hb.block _ (Array.getElem?_eq_some_iff.1 h.2.2).1).trans h.2.2⟩) ?_ ⟨hIb _ _ _ h0 hb1, hl1, hd1⟩).mono ?_
  · rintro pre x W0 W ⟨hi, hl0, hd0⟩ hlen hb hy
    have hlt0 : w.heap.size + 1 < W0.heap.size := (Array.getElem?_eq_some_iff.1 hl0).1
    have hl : W.heap[w.heap.size + 1]? = some (.loop (st .ready none)) := (hb.block _ hlt0).trans hl0
    have hd : W.heap[w.heap.size]? = some (.deferred (some [])) := (hb.block _ (by omega)).trans hd0
    have hlt : w.heap.size + 1 < W.heap.size := (Array.getElem?_eq_some_iff.1 hl).1
    have hyr := run_yield (P := P) (args := E x) hl (by rw [hst]; exact hps x)
    rw [hst] at hyr
    refine ⟨fn, _, assign, body, hyr, roundIn_of_wpIn trivial ?_⟩
    refine wpIn_mono (hround (w.heap.size + 1) (st .ready none) pre x W0 W hlen (by omega) hlt0 hl hi hb (hIb _ _ _ hi hb) hy) ?_
    rintro e a1 W1 hp
    cases e with
    | normal =>
      obtain ⟨hb1, hbody⟩ := hp
      have hl2 : W1.heap[w.heap.size + 1]? = some (.loop (st .ready none)) := (hb1.block _ hlt).trans hl
      have hd2 : W1.heap[w.heap.size]? = some (.deferred (some [])) := (hb1.block _ (by omega)).trans hd
      have hlt2 : w.heap.size + 1 < W1.heap.size := (Array.getElem?_eq_some_iff.1 hl2).1
      refine ⟨_, run_beginRound hl2 (by rw [hst]), ?_⟩
      refine wpIn_mono (hbody _) ?_
      have hl3 : (W1.putObj (w.heap.size + 1) (.loop { st .ready none with state := .busy })).heap[w.heap.size + 1]? = some (.loop { st .ready none with state := .busy }) := World.putObj_heap_same hlt2
      have hd3 : (W1.putObj (w.heap.size + 1) (.loop { st .ready none with state := .busy })).heap[w.heap.size]? = some (.deferred (some [])) := (World.putObj_heap_other (by omega)).trans hd2
      have fin : ∀ (jump : Option Code) (W3 : World), KeepsFrom w.heap.size (W1.putObj (w.heap.size + 1) (.loop { st .ready none with state := .busy })) W3 →
          (Instr.endRound (w.heap.size + 1) jump).run P W3 = .ok (.bool jump.isNone) (W3.putObj (w.heap.size + 1) (.loop (st (if jump.isNone then .ready else .done) jump))) ∧
          W3.heap[w.heap.size + 1]? = some (.loop { st .ready none with state := .busy }) ∧
          (W3.putObj (w.heap.size + 1) (.loop (st (if jump.isNone then .ready else .done) jump))).heap[w.heap.size + 1]? = some (.loop (st (if jump.isNone then .ready else .done) jump)) ∧
          (W3.putObj (w.heap.size + 1) (.loop (st (if jump.isNone then .ready else .done) jump))).heap[w.heap.size]? = some (.deferred (some [])) := fun jump W3 hk3 => by
        have h3 := hk3.same _ _ (by omega) hl3 rfl
        have := run_endRound (P := P) jump h3
        rw [hst] at this ⊢
        exact ⟨this, by rw [hst] at h3; exact h3, World.putObj_heap_same (Array.getElem?_eq_some_iff.1 h3).1, (World.putObj_heap_other (by omega)).trans (hk3.same _ _ (Nat.le_refl _) hd3 rfl)⟩
      rintro e a3 W3 hp
      cases e with
      | normal =>
        obtain ⟨hk3, _, hi3⟩ := hp
        obtain ⟨hr, h3, h4, h5⟩ := fin none W3 hk3
        exact ⟨_, _, hr, .inl ⟨rfl, hIp _ _ _ _ _ hi3 (by omega) h3 rfl, h4, h5⟩⟩
      | ret =>
        obtain ⟨hk3, hi3⟩ := hp
        obtain ⟨hr, h3, h4, h5⟩ := fin (some .ret) W3 hk3
        exact ⟨_, _, hr, .inr ⟨rfl, .ret, hXp _ _ _ _ _ _ hi3 (by omega) h3 rfl, h4, h5⟩⟩
      | exit id =>
        obtain ⟨hk3, hi3⟩ := hp
        obtain ⟨hr, h3, h4, h5⟩ := fin (some (.exit id)) W3 hk3
        exact ⟨_, _, hr, .inr ⟨rfl, .exit id, hXp _ _ _ _ _ _ hi3 (by omega) h3 rfl, h4, h5⟩⟩
      | goto t =>
        obtain ⟨hk3, hi3⟩ := hp
        obtain ⟨hr, h3, h4, h5⟩ := fin (some (.goto t)) W3 hk3
        exact ⟨_, _, hr, .inr ⟨rfl, .goto t, hXp _ _ _ _ _ _ hi3 (by omega) h3 rfl, h4, h5⟩⟩
      | panic ch => exact hp.elim
      | outgrown => exact hp.elim
    | ret => exact hp.elim
    | exit id => exact hp.elim
    | goto t => exact hp.elim
    | panic ch => exact hp.elim
    | outgrown => exact hp.elim
  · rintro e W2 ⟨⟨v, rfl⟩, (⟨xs, hS, hi, hl, hk⟩ | ⟨pre, hSp, c, hi, hl, hk⟩)⟩
    · exact ⟨none, _, by have := run_endLoop (P := P) hl (by rw [hst]; simp); rw [hst] at this; exact this, hdone _ xs _ (Nat.le_refl _) hS (hIp _ _ _ _ _ hi (by omega) hl rfl) ((World.putObj_heap_other (by omega)).trans hk)⟩
    · exact ⟨some c, _, by have := run_endLoop (P := P) hl (by rw [hst]; simp); rw [hst] at this; exact this, hstop _ c pre _ (Nat.le_refl _) hSp (hXp _ _ _ _ _ _ hi (by omega) hl rfl) ((World.putObj_heap_other (by omega)).trans hk)⟩
end Go.Proofs.YtiblpcfkecalcabDoor
/-
  The document's Read.
-/
namespace Go.Proofs.YtiblpcfkecalcabDoor
open Go.Shelf Go.RowKit
set_option linter.unusedVariables false
set_option linter.unusedSimpArgs false

theorem readD_cons (t f : UInt8) (xs : Bs) (hl : (t :: f :: xs).length ≤ 4096) (ht : t.toNat % 32 ≠ 31) : readD (t :: f :: xs) = match lenD (f :: xs) with
    | none => .error 30
    | some (n, ys) => if ys.length < n then .error 30 else .ok ((t, ys.take n), ys.drop n) := by
  unfold readD
  rw [if_neg (by omega)]
  simp only []
  rw [if_neg ht]
  cases lenD (f :: xs) with
  | none => rfl
  | some q => rfl
end Go.Proofs.YtiblpcfkecalcabDoor
/-
  Pieces one behind the other in memory; the document's List.
-/
namespace Go.Proofs.YtiblpcfkecalcabDoor
open Go.Shelf Go.RowKit
set_option linter.unusedVariables false
set_option linter.unusedSimpArgs false

/-- A piece, and where its body lies. -/
structure Pc where
  t : UInt8
  b : Bs
  p : Option Addr
  c : Nat
def Pc.cells (x : Pc) : List Value := [.int .u8 (x.t.toNat : Int), .slice x.p x.b.length x.c]
def cellsP (l : List Pc) : List Value := l.flatMap Pc.cells
/-- The pieces themselves. -/
def pcsOf (l : List Pc) : List (UInt8 × Bs) := l.map fun x => (x.t, x.b)
theorem cellsP_len : ∀ (l : List Pc), (cellsP l).length = l.length * 2
  | [] => rfl
  | x :: l => by
    have := cellsP_len l
    simp only [cellsP, List.flatMap_cons, List.length_append] at this ⊢
    rw [this]
    simp [Pc.cells]
    omega
theorem cellsP_app (a b : List Pc) : cellsP a ++ cellsP b = cellsP (a ++ b) := by simp [cellsP]
theorem infoTlv : ∃ z, (Tryd.prog.info? 24).map (fun i => (i.zero, i.size, i.bytes)) = some (some z, 2, 32) ∧ z.cells.size = 2 := ⟨.agg #[.int .u8 0, .slice none 0 0], by kernel_rfl, rfl⟩
/-- Pieces in a list of the call's own. -/
structure Pcs (w : World) (B : Nat) (P : Nat → Prop) (v : Value) (l : List Pc) : Prop where
  own : w.ownsRow B 24 2 v l.length (cellsP l)
  at_ : ∀ x ∈ l, ByV w P x.p x.c x.b
/-- A piece appended. -/
theorem wpList_append_pc {w : World} {ops : Array Oper} {rest : List Oper} {o : Oper} {a : Act} {Q : Exit → Act → World → Prop} (hgd : o.guard = none) (s x : Operand)
    (ho : o.op = .call { callee := .builtin .append, args := #[s, x], argTypes := #[26, 26] }) (base : Nat) (v : Value) (hs : a.eval s = v) (old : List Pc) (m : Nat) (hown : w.ownsRow base 24 2 v m (cellsP old)) (ad : Addr) (c : Nat) (y : Pc) (hx : a.eval x = .slice (some ad) 1 c) (h0 : w.cell? (ad.add 0) = some (.int .u8 (y.t.toNat : Int))) (h1 : w.cell? (ad.add 1) = some (.slice y.p y.b.length y.c)) (hlen : m + 1 ≤ 1000000) (hbase : base ≤ w.heap.size)
    (h : ∀ v' w', w'.ownsRow base 24 2 v' (m + 1) (cellsP (old ++ [y])) → w.grownBy w' v.ownBlock → wpList Tryd.prog ops Q rest (a.put o.dst v') w') : wpList Tryd.prog ops Q (o :: rest) a w := by
  obtain ⟨z, hz, hzs⟩ := infoTlv
  obtain ⟨i0, hi0, hz0, hz1, hz2⟩ := info_parts hz
  refine wpList_append_own (w := w) hgd s x _ ho base 24 i0 z 2 32 Tryd.underlying26 hi0 hz0 hz1 hz2 hzs (by decide) v m (cellsP old) hs hown ad 1 c (cellsP [y]) hx rfl ?_ (by intro u hu; simp [cellsP, Pc.cells] at hu; rcases hu with rfl | rfl <;> rfl) (by unfold maxLen; omega) (by omega) hbase ?_
  · intro j u hj
    match j with
    | 0 => simp [cellsP, Pc.cells] at hj; subst hj; exact h0
    | 1 => simp [cellsP, Pc.cells] at hj; subst hj; exact h1
    | j + 2 => simp [cellsP, Pc.cells] at hj
  · intro v' w' hown' hgr _
    rw [cellsP_app] at hown'
    exact h v' w' hown' hgr
theorem allD_more : ∀ (m k : Nat) (bs : Bs), bs.length ≤ m → bs.length ≤ k → allD m bs = allD k bs
  | 0, k, bs, hm, hk => by
    have : bs = [] := List.eq_nil_of_length_eq_zero (by omega)
    subst this
    cases k with
    | zero => rfl
    | succ k => rfl
  | m + 1, 0, bs, hm, hk => by
    have : bs = [] := List.eq_nil_of_length_eq_zero (by omega)
    subst this
    rfl
  | m + 1, k + 1, bs, hm, hk => by
    simp only [allD]
    by_cases h : bs = []
    · rw [if_pos h, if_pos h]
    rw [if_neg h, if_neg h]
    cases hr : readD bs with
    | error e => rfl
    | ok q =>
      obtain ⟨⟨t, b⟩, r⟩ := q
      have := (read_len hr).1
      simp only []
      rw [allD_more m k r (by omega) (by omega)]
/-- All pieces of bytes, and the first fault. -/
def pcsD (bs : Bs) : List (UInt8 × Bs) × Nat := allD bs.length bs
theorem pcsD_nil : pcsD [] = ([], 0) := rfl
theorem pcsD_err {bs : Bs} {k : Nat} (h0 : bs ≠ []) (h : readD bs = .error k) : pcsD bs = ([], k) := by
  obtain ⟨m, hm⟩ : ∃ m, bs.length = m + 1 := ⟨bs.length - 1, by have : bs.length ≠ 0 := fun e => h0 (List.eq_nil_of_length_eq_zero e); omega⟩
  unfold pcsD
  rw [hm]
  simp only [allD]
  rw [if_neg h0, h]
theorem pcsD_ok {bs : Bs} {t : UInt8} {b r : Bs} (h : readD bs = .ok ((t, b), r)) : pcsD bs = ((t, b) :: (pcsD r).1, (pcsD r).2) := by
  have hl := (read_len h).1
  obtain ⟨m, hm⟩ : ∃ m, bs.length = m + 1 := ⟨bs.length - 1, by omega⟩
  have h0 : bs ≠ [] := by intro e; rw [e] at hm; cases hm
  unfold pcsD
  rw [hm]
  simp only [allD]
  rw [if_neg h0, h]
  simp only []
  rw [allD_more m r.length r (by omega) (Nat.le_refl _)]
/-- A slice's length. -/
def lenOfS : Value → Nat
  | .slice _ n _ => n
  | _ => 0
/-- What List answers. -/
def LsPost (w : World) (P : World → Nat → Prop) (R : List (UInt8 × Bs) × Nat) (e : Ending) (w' : World) : Prop :=
  Below w.heap.size w w' ∧ ((R.2 ≠ 0 ∧ e = .returned (.tuple #[.slice none 0 0, .int .i64 (R.2 : Int)])) ∨ (R.2 = 0 ∧ ∃ l v, pcsOf l = R.1 ∧ e = .returned (.tuple #[v, .int .i64 0]) ∧ Pcs w' w.heap.size (P w) v l))
end Go.Proofs.YtiblpcfkecalcabDoor
