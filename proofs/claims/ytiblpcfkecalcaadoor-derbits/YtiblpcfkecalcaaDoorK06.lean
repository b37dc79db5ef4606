import Derived.Test.YtiblpcfkecalcaaDoorK05
import Derived.Test.YtiblpcfkecalcaaDoorK02
import Derived.RangeFuncNested
import Derived.RangeFuncBound
import Derived.RangeFuncCalls
import Derived.RangeFuncLeaves
import Derived.Shelf.Abstract
import Derived.Shelf.RegionOpen
import Derived.OwnWalkIn
import Derived.TacticsInMore
import Derived.LoopNIn
import Derived.LoopIn
import Derived.Stop.RegionWithIn
import Derived.Test.YtiblpcfkecalcaaDoorK04
/-
  A range over a function whose elements lie in new memory.
-/
namespace Go.Proofs.YtiblpcfkecalcaaDoor
open Go.Shelf Go.RowKit
set_option linter.unusedVariables false
set_option linter.unusedSimpArgs false

/-- A range over a function that yields elements in new memory; each round may make memory of its own. -/
theorem range_new {α : Type} {P : Program} {n : Nat} {g : Operand} {ps : Array Tmp} {assign body : Code} {Q : Exit → Act → World → Prop} {a : Act} {w : World} {gf : Nat} {lb : Array Value} (hn : 1 ≤ n) (N : Nat)
    (hg : a.eval g = .func (.func gf) #[] lb) (eg : ∀ args w, (callFunc gf args).run P w = .ok (.enter gf args) w)
    (E : α → Array Value) (hps : ∀ x, (E x).size = ps.size) (Y : Nat → α → World → Prop) (S Sp : List α → Prop) (I : List α → World → Prop) (Ix : Code → List α → World → Prop)
    (hit : ∀ (l : Nat) (r : Loop) (J Jx : List α → World → Prop), (∀ pre W, J pre W → I pre W) → (∀ pre W W', J pre W → Below W.heap.size W W' → J pre W') →
      (∀ pre x W0 W1, J pre W0 → pre.length < N → Below W0.heap.size W0 W1 → Y W0.heap.size x W1 → YieldAt Fence.wide (n - 1 - 1) P l (E x) W1 fun e W' => (e = .returned (.bool true) ∧ J (pre ++ [x]) W') ∨ (e = .returned (.bool false) ∧ Jx (pre ++ [x]) W')) →
      J [] ((w.alloc (.deferred (some []))).alloc (.loop r)) →
      CallsIn Fence.wide (n - 1) P gf (#[.func (.yield l) #[] #[]] ++ lb) ((w.alloc (.deferred (some []))).alloc (.loop r)) fun e W' => (∃ v, e = .returned v) ∧ ((∃ xs, S xs ∧ J xs W') ∨ (∃ pre, Sp pre ∧ Jx pre W')))
    (hIb : ∀ pre W W', I pre W → Below W.heap.size W W' → I pre W')
    (hIp : ∀ pre W r o o', I pre W → w.heap.size ≤ r → W.heap[r]? = some o → o.isCells = false → I pre (W.putObj r o'))
    (hXp : ∀ c pre W r o o', Ix c pre W → w.heap.size ≤ r → W.heap[r]? = some o → o.isCells = false → Ix c pre (W.putObj r o'))
    (h0 : I [] w)
    (hround : ∀ (l : Nat) (r : Loop) (pre : List α) (x : α) (W0 W : World), pre.length < N → w.heap.size ≤ l → l < W0.heap.size → W.heap[l]? = some (.loop r) → I pre W0 → Below W0.heap.size W0 W → I pre W → Y W0.heap.size x W →
      assign.wpIn (Fence.wide.inRound l) (n - 1 - 1) P (Exit.then (fun a1 W1 => Below W.heap.size W W1 ∧ ∀ o', body.wpIn (Fence.wide.inRound l) (n - 1 - 1) P (ownPostG w.heap.size (fun _ _ => True) I Ix (pre ++ [x]) (W1.putObj l o')) a1 (W1.putObj l o')) (fun _ _ _ => False))
        { tmps := (ps.zip (E x)).foldl (fun t (p, v) => t.setIfInBounds p v) a.tmps, defers := [] } W)
    (hdone : ∀ (D : Nat) (xs : List α) (W : World), w.heap.size ≤ D → S xs → I xs W → W.heap[D]? = some (.deferred (some [])) → Q .normal { a with defers := { target := .collected D, args := #[] } :: a.defers } W)
    (hstop : ∀ (D : Nat) (c : Code) (pre : List α) (W : World), w.heap.size ≤ D → Sp pre → Ix c pre W → W.heap[D]? = some (.deferred (some [])) → c.wpIn Fence.wide n P Q { a with defers := { target := .collected D, args := #[] } :: a.defers } W) :
    (Code.rangeFunc g ps assign body).wpIn Fence.wide n P Q a w := by
  refine wpIn_rangeFunc ?_
  intro fn _
  obtain ⟨st, hst⟩ : ∃ st : LoopState → Option Code → Loop, st = fun s pe => { state := s, pending := pe, fn := fn, tmps := a.tmps, params := ps, assign := assign, body := body, defers := w.heap.size } := ⟨_, rfl⟩
  have hd1 : ((w.alloc (.deferred (some []))).alloc (.loop (st .ready none))).heap[w.heap.size]? = some (.deferred (some [])) := (Below.heap_alloc _ _ _ (by simp)).trans (World.alloc_heap_new w _)
  have hl1 : ((w.alloc (.deferred (some []))).alloc (.loop (st .ready none))).heap[w.heap.size + 1]? = some (.loop (st .ready none)) := by
    have := World.alloc_heap_new (w.alloc (.deferred (some []))) (.loop (st .ready none))
    rwa [World.size_alloc] at this
  have hb1 : Below w.heap.size w ((w.alloc (.deferred (some []))).alloc (.loop (st .ready none))) := ((Below.refl _ w).alloc (Nat.le_refl _) _).alloc (by simp) _
  refine ⟨w.heap.size + 1, [{ target := .collected w.heap.size, args := #[] }], (w.alloc (.deferred (some []))).alloc (.loop (st .ready none)), { target := .fn (.func gf) lb, args := #[.func (.yield (w.heap.size + 1)) #[] #[]] }, (w.alloc (.deferred (some []))).alloc (.loop (st .ready none)), gf, #[.func (.yield (w.heap.size + 1)) #[] #[]] ++ lb, (w.alloc (.deferred (some []))).alloc (.loop (st .ready none)), by rw [hst]; exact run_enterLoop_outer _ _ _ _ _, by simp only [resolve, hg]; simp [go_sem], fun _ _ => trivial, by simp [invoke, go_sem, eg], fun _ => hn, ?_⟩
  refine (hit (w.heap.size + 1) (st .ready none)
    (fun pre W => I pre W ∧ W.heap[w.heap.size + 1]? = some (.loop (st .ready none)) ∧ W.heap[w.heap.size]? = some (.deferred (some [])))
    (fun pre W => ∃ c, Ix c pre W ∧ W.heap[w.heap.size + 1]? = some (.loop (st .done (some c))) ∧ W.heap[w.heap.size]? = some (.deferred (some [])))
    (fun _ _ h => h.1)
    (fun pre W W' h hb => ⟨hIb pre W W' h.1 hb, (hb.block _ (Array.getElem?_eq_some_iff.1 h.2.1).1).trans h.2.1, (hb.block _ (Array.getElem?_eq_some_iff.1 h.2.2).1).trans h.2.2⟩) ?_ ⟨hIb _ _ _ h0 hb1, hl1, hd1⟩).mono ?_
  · rintro pre x W0 W ⟨hi, hl0, hd0⟩ hlen hb hy
    have hlt0 : w.heap.size + 1 < W0.heap.size := (Array.getElem?_eq_some_iff.1 hl0).1
    have hl : W.heap[w.heap.size + 1]? = some (.loop (st .ready none)) := (hb.block _ hlt0).trans hl0
    have hd : W.heap[w.heap.size]? = some (.deferred (some [])) := (hb.block _ (by omega)).trans hd0
    have hlt : w.heap.size + 1 < W.heap.size := (Array.getElem?_eq_some_iff.1 hl).1
    have hyr := run_yield (P := P) (args := E x) hl (by rw [hst]; exact hps x)
    rw [hst] at hyr
    refine ⟨fn, _, assign, body, hyr, roundIn_of_wpIn trivial ?_⟩
    refine wpIn_mono (hround (w.heap.size + 1) (st .ready none) pre x W0 W hlen (by omega) hlt0 hl hi hb (hIb _ _ _ hi hb) hy) ?_
    rintro e a1 W1 hp
    cases e with
    | normal =>
      obtain ⟨hb1, hbody⟩ := hp
      have hl2 : W1.heap[w.heap.size + 1]? = some (.loop (st .ready none)) := (hb1.block _ hlt).trans hl
      have hd2 : W1.heap[w.heap.size]? = some (.deferred (some [])) := (hb1.block _ (by omega)).trans hd
      have hlt2 : w.heap.size + 1 < W1.heap.size := (Array.getElem?_eq_some_iff.1 hl2).1
      refine ⟨_, run_beginRound hl2 (by rw [hst]), ?_⟩
      refine wpIn_mono (hbody _) ?_
      have hl3 : (W1.putObj (w.heap.size + 1) (.loop { st .ready none with state := .busy })).heap[w.heap.size + 1]? = some (.loop { st .ready none with state := .busy }) := World.putObj_heap_same hlt2
      have hd3 : (W1.putObj (w.heap.size + 1) (.loop { st .ready none with state := .busy })).heap[w.heap.size]? = some (.deferred (some [])) := (World.putObj_heap_other (by omega)).trans hd2
      have fin : ∀ (jump : Option Code) (W3 : World), KeepsFrom w.heap.size (W1.putObj (w.heap.size + 1) (.loop { st .ready none with state := .busy })) W3 →
          (Instr.endRound (w.heap.size + 1) jump).run P W3 = .ok (.bool jump.isNone) (W3.putObj (w.heap.size + 1) (.loop (st (if jump.isNone then .ready else .done) jump))) ∧
          W3.heap[w.heap.size + 1]? = some (.loop { st .ready none with state := .busy }) ∧
          (W3.putObj (w.heap.size + 1) (.loop (st (if jump.isNone then .ready else .done) jump))).heap[w.heap.size + 1]? = some (.loop (st (if jump.isNone then .ready else .done) jump)) ∧
          (W3.putObj (w.heap.size + 1) (.loop (st (if jump.isNone then .ready else .done) jump))).heap[w.heap.size]? = some (.deferred (some [])) := fun jump W3 hk3 => by
        have h3 := hk3.same _ _ (by omega) hl3 rfl
        have := run_endRound (P := P) jump h3
        rw [hst] at this ⊢
        exact ⟨this, by rw [hst] at h3; exact h3, World.putObj_heap_same (Array.getElem?_eq_some_iff.1 h3).1, (World.putObj_heap_other (by omega)).trans (hk3.same _ _ (Nat.le_refl _) hd3 rfl)⟩
      rintro e a3 W3 hp
      cases e with
      | normal =>
        obtain ⟨hk3, _, hi3⟩ := hp
        obtain ⟨hr, h3, h4, h5⟩ := fin none W3 hk3
        exact ⟨_, _, hr, .inl ⟨rfl, hIp _ _ _ _ _ hi3 (by omega) h3 rfl, h4, h5⟩⟩
      | ret =>
        obtain ⟨hk3, hi3⟩ := hp
        obtain ⟨hr, h3, h4, h5⟩ := fin (some .ret) W3 hk3
        exact ⟨_, _, hr, .inr ⟨rfl, .ret, hXp _ _ _ _ _ _ hi3 (by omega) h3 rfl, h4, h5⟩⟩
      | exit id =>
        obtain ⟨hk3, hi3⟩ := hp
        obtain ⟨hr, h3, h4, h5⟩ := fin (some (.exit id)) W3 hk3
        exact ⟨_, _, hr, .inr ⟨rfl, .exit id, hXp _ _ _ _ _ _ hi3 (by omega) h3 rfl, h4, h5⟩⟩
      | goto t =>
        obtain ⟨hk3, hi3⟩ := hp
        obtain ⟨hr, h3, h4, h5⟩ := fin (some (.goto t)) W3 hk3
        exact ⟨_, _, hr, .inr ⟨rfl, .goto t, hXp _ _ _ _ _ _ hi3 (by omega) h3 rfl, h4, h5⟩⟩
      | panic ch => exact hp.elim
      | outgrown => exact hp.elim
    | ret => exact hp.elim
    | exit id => exact hp.elim
    | goto t => exact hp.elim
    | panic ch => exact hp.elim
    | outgrown => exact hp.elim
  · rintro e W2 ⟨⟨v, rfl⟩, (⟨xs, hS, hi, hl, hk⟩ | ⟨pre, hSp, c, hi, hl, hk⟩)⟩
    · exact ⟨none, _, by have := run_endLoop (P := P) hl (by rw [hst]; simp); rw [hst] at this; exact this, hdone _ xs _ (Nat.le_refl _) hS (hIp _ _ _ _ _ hi (by omega) hl rfl) ((World.putObj_heap_other (by omega)).trans hk)⟩
    · exact ⟨some c, _, by have := run_endLoop (P := P) hl (by rw [hst]; simp); rw [hst] at this; exact this, hstop _ c pre _ (Nat.le_refl _) hSp (hXp _ _ _ _ _ _ hi (by omega) hl rfl) ((World.putObj_heap_other (by omega)).trans hk)⟩
end Go.Proofs.YtiblpcfkecalcaaDoor
/-
  The document's Read.
-/
namespace Go.Proofs.YtiblpcfkecalcaaDoor
open Go.Shelf Go.RowKit
set_option linter.unusedVariables false
set_option linter.unusedSimpArgs false

theorem readD_cons (t f : UInt8) (xs : Bs) (hl : (t :: f :: xs).length ≤ 4096) (ht : t.toNat % 32 ≠ 31) : readD (t :: f :: xs) = match lenD (f :: xs) with
    | none => .error 30
    | some (n, ys) => if ys.length < n then .error 30 else .ok ((t, ys.take n), ys.drop n) := by
  unfold readD
  rw [if_neg (by omega)]
  simp only []
  rw [if_neg ht]
  cases lenD (f :: xs) with
  | none => rfl
  | some q => rfl
set_option maxRecDepth 100000 in
set_option maxHeartbeats 4000000 in
/-- Read. -/
theorem rRead10 (p : Option Addr) (n c : Nat) (bs : Bs) (P : Nat → Prop) (w : World) (hn : bs.length = n) (h : ByV w P p c bs) :
    Calls Tryd.prog 11 #[.slice p n c] w (SpPost w (fun _ => P) (readD bs)) := by
  have hcap := h.cap
  have hbig := h.big
  rw [hn] at hcap
  have hnI : (n : Int) ≤ 9223372036854775807 := by omega
  have hcI : (c : Int) ≤ 9223372036854775807 := by omega
  obtain ⟨W0, hW0⟩ : ∃ W0, w.alloc (.cells #[.int .u8 0, .slice none 0 0] 25) = W0 := ⟨_, rfl⟩
  have b0 : Below w.heap.size w W0 := by rw [← hW0]; exact (Below.refl _ _).alloc (Nat.le_refl _) _
  have s0 : Tl W0 w.heap.size (.int .u8 0) (.slice none 0 0) := by rw [← hW0]; exact Tl.new w _ _
  obtain ⟨g0, g1, g2, g3⟩ := s0.facts
  obtain ⟨g4, g5⟩ := s0.facts1 (.int .u8 0)
  obtain ⟨R, hR⟩ : ∃ R, readD bs = R := ⟨_, rfl⟩
  rw [hR]
  have HBAD : Hid (∀ k, R = .error k → SpPost w (fun _ => P) R (.returned (.tuple #[.agg #[.int .u8 0, .slice none 0 0], .slice none 0 0, .int .i64 (k : Int)])) ((W0.setCell ⟨w.heap.size, 0, none⟩ (.int .u8 0)).setCell ⟨w.heap.size, 1, none⟩ (.slice none 0 0))) := fun k hk => SpPost.bad k hk (b0.trans ((but_set2 W0 w.heap.size _ _).below (Nat.le_refl _) b0.size))
  have HBADD : Hid (∀ q k, R = .error k → SpPost w (fun _ => P) R (.returned (.tuple #[.agg #[.int .u8 0, .slice none 0 0], .slice none 0 0, .int .i64 (k : Int)])) ((((W0.drewN q).setCell ⟨w.heap.size, 0, none⟩ (.int .u8 0)).setCell ⟨w.heap.size, 1, none⟩ (.slice none 0 0)))) := fun q k hk => SpPost.bad k hk ((below_drews b0 q).trans ((but_set2 _ w.heap.size _ _).below (Nat.le_refl _) (below_drews b0 q).size))
  have HS0 : Hid (Tl W0 w.heap.size (.int .u8 0) (.slice none 0 0) ∧ Below w.heap.size w W0) := ⟨s0, b0⟩
  clear s0
  by_cases hl : 4096 < n
  · have hlI : 4096 < (n : Int) := by omega
    have hR3 : R = .error 3 := by rw [← hR]; unfold readD; rw [if_pos (by omega)]
    go_enter Tryd.func11, Tryd.ntmps11
    go_wp2_with fail
    refine bodyPost_ret (ret_tlv3 rfl _ _ w.heap.size _ _ rfl (HS0.out.1.set2 _ _)) rfl ?_
    exact HBAD.out 3 hR3
  have hlI : ¬ 4096 < (n : Int) := by omega
  by_cases h2 : n < 2
  · have h2I : (n : Int) < 2 := by omega
    have hR3 : R = .error 30 := by
      rw [← hR]
      match bs, hn with
      | [], _ => rfl
      | [t], _ =>
        unfold readD
        rw [if_neg (by simp)]
        simp only [lenD]
        split <;> rfl
      | t :: f :: xs, hn => simp at hn; omega
    have HR3 : Hid (R = .error 30) := hR3
    clear hR hn hR3
    go_enter Tryd.func11, Tryd.ntmps11
    go_wp2_with fail
    refine bodyPost_ret (ret_tlv3 rfl _ _ w.heap.size _ _ rfl (HS0.out.1.set2 _ _)) rfl ?_
    exact HBAD.out 30 HR3.out
  have h2I : ¬ (n : Int) < 2 := by omega
  match bs, hn, h, hR with
  | [], hn, _, _ => simp at hn; omega
  | [t], hn, _, _ => simp at hn; omega
  | t :: f :: xs, hn, h, hR =>
    obtain ⟨b, o, rfl, hcl⟩ := h.lies (by simp)
    have HCL : Hid (∀ i, i < n → W0.cell? ⟨b, o + i, none⟩ = some (.int .u8 (((t :: f :: xs).getD i 0).toNat : Int))) := fun i hi => (b0.cell (p := ⟨b, o + i, none⟩) (World.block_lt_of_cell? w _ (hcl i (by rw [hn]; exact hi)))).trans (hcl i (by rw [hn]; exact hi))
    have c0 : W0.cell? ⟨b, o, none⟩ = some (.int .u8 (t.toNat : Int)) := by simpa using HCL.out 0 (by omega)
    have c1 : W0.cell? ⟨b, o + 1, none⟩ = some (.int .u8 (f.toNat : Int)) := by simpa using HCL.out 1 (by omega)
    have ht := t.toNat_lt
    have hf := f.toNat_lt
    have k0 : (0 : Int) < (n : Int) := by omega
    have k1 : (1 : Int) < (n : Int) := by omega
    have k2 : (n : Int) ≤ (c : Int) := by omega
    obtain ⟨TN, hTN⟩ : ∃ T, t.toNat = T := ⟨_, rfl⟩
    obtain ⟨F, hF⟩ : ∃ T, f.toNat = T := ⟨_, rfl⟩
    have HX : Hid (t.toNat = TN ∧ f.toNat = F ∧ xs.length = n - 2 ∧ (t :: f :: xs).length = n ∧ ByV w P (some ⟨b, o, none⟩) c (t :: f :: xs)) := ⟨hTN, hF, by simp at hn; omega, hn, h⟩
    rw [hTN] at c0 ht
    rw [hF] at c1 hf
    have HRR : Hid (readD (t :: f :: xs) = R) := hR
    clear hTN hF hcl h hR hn b0
    by_cases q1 : TN % 32 = 31
    · have q1I : ((TN : Int) % 32 == 31) = true := by simp; omega
      have hR3 : Hid (R = .error 30) := by show R = _; rw [← HRR.out]; unfold readD; rw [if_neg (by rw [HX.out.2.2.2.1]; omega)]; simp only []; rw [if_pos (by rw [HX.out.1]; exact q1)]
      clear q1
      go_enter Tryd.func11, Tryd.ntmps11
      go_wp2_with fail
      refine bodyPost_ret (ret_tlv3 rfl _ _ w.heap.size _ _ rfl (HS0.out.1.set2 _ _)) rfl ?_
      exact HBAD.out 30 hR3.out
    have q1I : ((TN : Int) % 32 == 31) = false := by simp; omega
    have HR0 : Hid (R = match lenD (f :: xs) with
        | none => .error 30
        | some (n, ys) => if ys.length < n then .error 30 else .ok ((t, ys.take n), ys.drop n)) := by
      show R = _
      rw [← HRR.out, readD_cons t f xs (by rw [HX.out.2.2.2.1]; omega) (by rw [HX.out.1]; exact q1)]
    clear q1 HRR
    by_cases q2 : F < 128
    · have q2I : ¬ (128 : Int) ≤ (F : Int) := by omega
      have HRN : Hid (R = if ((t :: f :: xs).drop 2).length < F then .error 30 else .ok ((t, ((t :: f :: xs).drop 2).take F), ((t :: f :: xs).drop 2).drop F)) := by
        show R = _
        rw [HR0.out]
        simp only [lenD]
        rw [HX.out.2.1, if_pos q2]
        rfl
      by_cases q5 : n - 2 < F
      · have q5I : (n : Int) - 2 < (F : Int) := by omega
        have hR3 : Hid (R = .error 30) := by show R = _; rw [HRN.out, if_pos (by rw [List.length_drop, HX.out.2.2.2.1]; exact q5)]
        go_enter Tryd.func11, Tryd.ntmps11
        go_wp2_with fail
        refine bodyPost_ret (ret_tlv3 rfl _ _ w.heap.size _ _ rfl (HS0.out.1.set2 _ _)) rfl ?_
        exact HBAD.out 30 hR3.out
      have q5I : ¬ (n : Int) - 2 < (F : Int) := by omega
      have hR3 : Hid (R = .ok ((t, ((t :: f :: xs).drop 2).take F), ((t :: f :: xs).drop 2).drop F)) := by show R = _; rw [HRN.out, if_neg (by rw [List.length_drop, HX.out.2.2.2.1]; exact q5)]
      obtain ⟨E, hE⟩ : ∃ E, 2 + F = E := ⟨_, rfl⟩
      have hEI : (2 : Int) + (F : Int) = (E : Int) := by omega
      have m1 : (E : Int) ≤ (n : Int) := by omega
      have m2 : (E : Int) ≤ (c : Int) := by omega
      have m3 : (2 : Int) ≤ (E : Int) := by omega
      have m4 : (2 : Int) ≤ (c : Int) := by omega
      have HE : Hid (∀ W p1 c1 p2 c2, Below W0.heap.size W0 W → ByV w (fun b => P b ∧ b < w.heap.size) p1 c1 (((t :: f :: xs).drop 2).take F) → ByV w (fun b => P b ∧ b < w.heap.size) p2 c2 ((t :: f :: xs).drop E) → SpPost w (fun _ => P) R (.returned (.tuple #[.agg #[.int .u8 (TN : Int), .slice p1 (E - 2) c1], .slice p2 (n - E) c2, .int .i64 0])) ((W.setCell ⟨w.heap.size, 0, none⟩ (.int .u8 (TN : Int))).setCell ⟨w.heap.size, 1, none⟩ (.slice p1 (E - 2) c1))) := fun W p1 c1 p2 c2 hW hv1 hv2 => by
        have hb : Below w.heap.size w W := HS0.out.2.trans (hW.mono HS0.out.2.size)
        have hbut := but_set2 W w.heap.size (.int .u8 (TN : Int)) (.slice p1 (E - 2) c1)
        have hk2 : ∀ g, (P g ∧ g < w.heap.size) → g < w.heap.size → ((W.setCell ⟨w.heap.size, 0, none⟩ (.int .u8 (TN : Int))).setCell ⟨w.heap.size, 1, none⟩ (.slice p1 (E - 2) c1)).heap[g]? = w.heap[g]? := fun g _ hlt => (hbut.block g (Nat.lt_of_lt_of_le hlt hb.size) (by omega)).trans (hb.block g hlt)
        refine ⟨hb.trans (hbut.below (Nat.le_refl _) hb.size), .inl ⟨t, _, _, p1, c1, p2, c2, hR3.out, ?_, (hv1.keep hk2).mono (fun g hg _ => hg.1), ?_⟩⟩
        · have l1 : (((t :: f :: xs).drop 2).take F).length = E - 2 := by rw [List.length_take, List.length_drop, HX.out.2.2.2.1]; omega
          have l2 : (((t :: f :: xs).drop 2).drop F).length = n - E := by rw [List.length_drop, List.length_drop, HX.out.2.2.2.1]; omega
          rw [HX.out.1, l1, l2]
        · rw [List.drop_drop, hE]
          exact (hv2.keep hk2).mono (fun g hg _ => hg.1)
      have HV0 : ByV w (fun b => P b ∧ b < w.heap.size) (some ⟨b, o, none⟩) c (t :: f :: xs) := HX.out.2.2.2.2.mono (fun g hg hlt => ⟨hg, hlt⟩)
      have HVA := (HV0.drop 2 (by rw [HX.out.2.2.2.1]; omega)).take F (by rw [List.length_drop, HX.out.2.2.2.1]; omega)
      have HVE := HV0.drop E (by rw [HX.out.2.2.2.1]; omega)
      clear HV0 hE q5 hR3 HRN HR0
      by_cases qa : c = 2
      · have qe : c = E := by omega
        rw [if_pos qa, show c - 2 = 0 by omega] at HVA
        rw [if_pos qe, show c - E = 0 by omega] at HVE
        have HA : Hid (ByV w (fun b => P b ∧ b < w.heap.size) (some ⟨b, o, none⟩) 0 (((t :: f :: xs).drop 2).take F)) := HVA
        have HB : Hid (ByV w (fun b => P b ∧ b < w.heap.size) (some ⟨b, o, none⟩) 0 ((t :: f :: xs).drop E)) := HVE
        clear HVA HVE
        go_enter Tryd.func11, Tryd.ntmps11
        go_wp2_with fail
        go_region
        go_wp2_with fail
        refine bodyPost_ret (ret_tlv3 rfl _ _ w.heap.size _ _ rfl (Tl.set2 (v0 := .int .u8 0) (v1 := .slice none 0 0) (HS0.out.1.same rfl) _ _)) rfl ?_
        exact HE.out _ _ _ _ _ (Below.refl _ _).drew HA.out (by rw [show 2 - E = 0 by omega]; exact HB.out)
      rw [if_neg qa] at HVA
      have HA : Hid (ByV w (fun b => P b ∧ b < w.heap.size) (some ⟨b, o + 2, none⟩) (c - 2) (((t :: f :: xs).drop 2).take F)) := HVA
      clear HVA
      by_cases qe : c = E
      · rw [if_pos qe, show c - E = 0 by omega] at HVE
        have HB : Hid (ByV w (fun b => P b ∧ b < w.heap.size) (some ⟨b, o, none⟩) 0 ((t :: f :: xs).drop E)) := HVE
        clear HVE
        go_enter Tryd.func11, Tryd.ntmps11
        go_wp2_with fail
        go_region
        go_wp2_with fail
        refine bodyPost_ret (ret_tlv3 rfl _ _ w.heap.size _ _ rfl (Tl.set2 (v0 := .int .u8 0) (v1 := .slice none 0 0) (HS0.out.1.same rfl) _ _)) rfl ?_
        exact HE.out _ _ _ _ _ (Below.refl _ _).drew (by rw [← qe]; exact HA.out) HB.out
      rw [if_neg qe, Option.map_some, Addr.add_mid] at HVE
      have HB : Hid (ByV w (fun b => P b ∧ b < w.heap.size) (some ⟨b, o + E, none⟩) (c - E) ((t :: f :: xs).drop E)) := HVE
      clear HVE
      go_enter Tryd.func11, Tryd.ntmps11
      go_wp2_with fail
      go_region
      go_wp2_with fail
      refine bodyPost_ret (ret_tlv3 rfl _ _ w.heap.size _ _ rfl (Tl.set2 (v0 := .int .u8 0) (v1 := .slice none 0 0) (HS0.out.1.same rfl) _ _)) rfl ?_
      exact HE.out _ _ _ _ _ (Below.refl _ _).drew HA.out HB.out
    have q2I : (128 : Int) ≤ (F : Int) := by omega
    by_cases q3 : F = 129 ∨ F = 130
    rotate_left
    · have e1 : ((F : Int) != 129) = true := by simp; omega
      have e2 : ((F : Int) != 130) = true := by simp; omega
      have hR3 : Hid (R = .error 30) := by show R = _; rw [HR0.out]; simp only [lenD]; rw [HX.out.2.1, if_neg q2, if_neg (by omega), if_neg (by omega)]
      clear q3
      go_enter Tryd.func11, Tryd.ntmps11
      go_wp2_with fail
      refine bodyPost_ret (ret_tlv3 rfl _ _ w.heap.size _ _ rfl (HS0.out.1.set2 _ _)) rfl ?_
      exact HBAD.out 30 hR3.out
    by_cases q4 : F = 129
    · have e1 : ((F : Int) != 129) = false := by simp; omega
      have eF : (F : Int) - 128 = 1 := by omega
      by_cases q6 : n < 3
      · have q6I : (n : Int) < 3 := by omega
        have hxe : xs = [] := List.eq_nil_of_length_eq_zero (by rw [HX.out.2.2.1]; omega)
        have hR3 : Hid (R = .error 30) := by show R = _; rw [HR0.out, hxe]; simp only [lenD, len1]; rw [HX.out.2.1, if_neg q2, if_pos q4]
        clear q4 q3 hxe
        go_enter Tryd.func11, Tryd.ntmps11
        go_wp2_with fail
        refine bodyPost_ret (ret_tlv3 rfl _ _ w.heap.size _ _ rfl (HS0.out.1.set2 _ _)) rfl ?_
        exact HBAD.out 30 hR3.out
      have q6I : ¬ (n : Int) < 3 := by omega
      have q7I : (2 : Int) < (n : Int) := by omega
      obtain ⟨a, ys, hxs⟩ : ∃ a ys, xs = a :: ys := by
        cases hx : xs with
        | nil => have := HX.out.2.2.1; rw [hx] at this; simp at this; omega
        | cons a ys => exact ⟨a, ys, rfl⟩
      have c2 : W0.cell? ⟨b, o + 2, none⟩ = some (.int .u8 (a.toNat : Int)) := by have := HCL.out 2 (by omega); rw [hxs] at this; simpa using this
      have ha := a.toNat_lt
      obtain ⟨A1, hA1⟩ : ∃ T, a.toNat = T := ⟨_, rfl⟩
      rw [hA1] at c2 ha
      have HRA : Hid (R = if A1 < 128 then .error 30 else if ((t :: f :: xs).drop 3).length < A1 then .error 30 else .ok ((t, ((t :: f :: xs).drop 3).take A1), ((t :: f :: xs).drop 3).drop A1)) := by
        show R = _
        rw [HR0.out, hxs]
        simp only [lenD, len1]
        rw [HX.out.2.1, if_neg q2, if_pos q4, hA1]
        by_cases h128 : A1 < 128
        · rw [if_pos h128, if_pos h128]
        · rw [if_neg h128, if_neg h128]
          rfl
      clear hxs hA1 q4 q3
      by_cases q8 : A1 < 128
      · have q8I : (A1 : Int) < 128 := by omega
        have hR3 : Hid (R = .error 30) := by show R = _; rw [HRA.out, if_pos q8]
        go_enter Tryd.func11, Tryd.ntmps11
        go_wp2_with fail
        refine bodyPost_ret (ret_tlv3 rfl _ _ w.heap.size _ _ rfl (HS0.out.1.set2 _ _)) rfl ?_
        exact HBAD.out 30 hR3.out
      have q8I : ¬ (A1 : Int) < 128 := by omega
      have HRN : Hid (R = if ((t :: f :: xs).drop 3).length < A1 then .error 30 else .ok ((t, ((t :: f :: xs).drop 3).take A1), ((t :: f :: xs).drop 3).drop A1)) := by show R = _; rw [HRA.out, if_neg q8]
      clear HRA
      by_cases q5 : n - 3 < A1
      · have q5I : (n : Int) - 3 < (A1 : Int) := by omega
        have hR3 : Hid (R = .error 30) := by show R = _; rw [HRN.out, if_pos (by rw [List.length_drop, HX.out.2.2.2.1]; exact q5)]
        go_enter Tryd.func11, Tryd.ntmps11
        go_wp2_with fail
        refine bodyPost_ret (ret_tlv3 rfl _ _ w.heap.size _ _ rfl (HS0.out.1.set2 _ _)) rfl ?_
        exact HBAD.out 30 hR3.out
      have q5I : ¬ (n : Int) - 3 < (A1 : Int) := by omega
      have hR3 : Hid (R = .ok ((t, ((t :: f :: xs).drop 3).take A1), ((t :: f :: xs).drop 3).drop A1)) := by show R = _; rw [HRN.out, if_neg (by rw [List.length_drop, HX.out.2.2.2.1]; exact q5)]
      obtain ⟨E, hE⟩ : ∃ E, 3 + A1 = E := ⟨_, rfl⟩
      have hEI : (3 : Int) + (A1 : Int) = (E : Int) := by omega
      have m1 : (E : Int) ≤ (n : Int) := by omega
      have m2 : (E : Int) ≤ (c : Int) := by omega
      have m3 : (3 : Int) ≤ (E : Int) := by omega
      have m4 : (3 : Int) ≤ (c : Int) := by omega
      have HE : Hid (∀ W p1 c1 p2 c2, Below W0.heap.size W0 W → ByV w (fun b => P b ∧ b < w.heap.size) p1 c1 (((t :: f :: xs).drop 3).take A1) → ByV w (fun b => P b ∧ b < w.heap.size) p2 c2 ((t :: f :: xs).drop E) → SpPost w (fun _ => P) R (.returned (.tuple #[.agg #[.int .u8 (TN : Int), .slice p1 (E - 3) c1], .slice p2 (n - E) c2, .int .i64 0])) ((W.setCell ⟨w.heap.size, 0, none⟩ (.int .u8 (TN : Int))).setCell ⟨w.heap.size, 1, none⟩ (.slice p1 (E - 3) c1))) := fun W p1 c1 p2 c2 hW hv1 hv2 => by
        have hb : Below w.heap.size w W := HS0.out.2.trans (hW.mono HS0.out.2.size)
        have hbut := but_set2 W w.heap.size (.int .u8 (TN : Int)) (.slice p1 (E - 3) c1)
        have hk2 : ∀ g, (P g ∧ g < w.heap.size) → g < w.heap.size → ((W.setCell ⟨w.heap.size, 0, none⟩ (.int .u8 (TN : Int))).setCell ⟨w.heap.size, 1, none⟩ (.slice p1 (E - 3) c1)).heap[g]? = w.heap[g]? := fun g _ hlt => (hbut.block g (Nat.lt_of_lt_of_le hlt hb.size) (by omega)).trans (hb.block g hlt)
        refine ⟨hb.trans (hbut.below (Nat.le_refl _) hb.size), .inl ⟨t, _, _, p1, c1, p2, c2, hR3.out, ?_, (hv1.keep hk2).mono (fun g hg _ => hg.1), ?_⟩⟩
        · have l1 : (((t :: f :: xs).drop 3).take A1).length = E - 3 := by rw [List.length_take, List.length_drop, HX.out.2.2.2.1]; omega
          have l2 : (((t :: f :: xs).drop 3).drop A1).length = n - E := by rw [List.length_drop, List.length_drop, HX.out.2.2.2.1]; omega
          rw [HX.out.1, l1, l2]
        · rw [List.drop_drop, hE]
          exact (hv2.keep hk2).mono (fun g hg _ => hg.1)
      have HV0 : ByV w (fun b => P b ∧ b < w.heap.size) (some ⟨b, o, none⟩) c (t :: f :: xs) := HX.out.2.2.2.2.mono (fun g hg hlt => ⟨hg, hlt⟩)
      have HVA := (HV0.drop 3 (by rw [HX.out.2.2.2.1]; omega)).take A1 (by rw [List.length_drop, HX.out.2.2.2.1]; omega)
      have HVE := HV0.drop E (by rw [HX.out.2.2.2.1]; omega)
      clear HV0 hE q5 hR3 HRN HR0
      have qa : ¬ c = 3 := by omega
      rw [if_neg qa] at HVA
      have HA : Hid (ByV w (fun b => P b ∧ b < w.heap.size) (some ⟨b, o + 3, none⟩) (c - 3) (((t :: f :: xs).drop 3).take A1)) := HVA
      clear HVA
      by_cases qe : c = E
      · rw [if_pos qe, show c - E = 0 by omega] at HVE
        have HB : Hid (ByV w (fun b => P b ∧ b < w.heap.size) (some ⟨b, o, none⟩) 0 ((t :: f :: xs).drop E)) := HVE
        clear HVE
        go_enter Tryd.func11, Tryd.ntmps11
        go_wp2_with fail
        go_region
        go_wp2_with fail
        refine bodyPost_ret (ret_tlv3 rfl _ _ w.heap.size _ _ rfl (Tl.set2 (v0 := .int .u8 0) (v1 := .slice none 0 0) (HS0.out.1.same rfl) _ _)) rfl ?_
        exact HE.out _ _ _ _ _ (Below.refl _ _).drew (by rw [← qe]; exact HA.out) HB.out
      rw [if_neg qe, Option.map_some, Addr.add_mid] at HVE
      have HB : Hid (ByV w (fun b => P b ∧ b < w.heap.size) (some ⟨b, o + E, none⟩) (c - E) ((t :: f :: xs).drop E)) := HVE
      clear HVE
      go_enter Tryd.func11, Tryd.ntmps11
      go_wp2_with fail
      go_region
      go_wp2_with fail
      refine bodyPost_ret (ret_tlv3 rfl _ _ w.heap.size _ _ rfl (Tl.set2 (v0 := .int .u8 0) (v1 := .slice none 0 0) (HS0.out.1.same rfl) _ _)) rfl ?_
      exact HE.out _ _ _ _ _ (Below.refl _ _).drew HA.out HB.out
    have q5 : F = 130 := by omega
    have e1 : ((F : Int) != 129) = true := by simp; omega
    have e2 : ((F : Int) != 130) = false := by simp; omega
    have eF : (F : Int) - 128 = 2 := by omega
    have HBQ : Hid (∀ W k, Below W0.heap.size W0 W → R = .error k → SpPost w (fun _ => P) R (.returned (.tuple #[.agg #[.int .u8 0, .slice none 0 0], .slice none 0 0, .int .i64 (k : Int)])) ((W.setCell ⟨w.heap.size, 0, none⟩ (.int .u8 0)).setCell ⟨w.heap.size, 1, none⟩ (.slice none 0 0))) := fun W k hW hk => SpPost.bad k hk ((HS0.out.2.trans (hW.mono HS0.out.2.size)).trans ((but_set2 W w.heap.size _ _).below (Nat.le_refl _) (Nat.le_trans HS0.out.2.size hW.size)))
    by_cases q6 : n < 4
    · have q6I : (n : Int) < 4 := by omega
      have hR3 : Hid (R = .error 30) := by
        show R = _
        rw [HR0.out]
        have hxl := HX.out.2.2.1
        have hlen2 : len2 xs = none := by
          match xs, hxl with
          | [], _ => rfl
          | [_], _ => rfl
          | a :: a2 :: ys, hxl => simp at hxl; omega
        simp only [lenD]
        rw [HX.out.2.1, if_neg q2, if_neg q4, if_pos q5, hlen2]
      clear q4 q3 q5
      go_enter Tryd.func11, Tryd.ntmps11
      go_wp2_with fail
      refine bodyPost_ret (ret_tlv3 rfl _ _ w.heap.size _ _ rfl (HS0.out.1.set2 _ _)) rfl ?_
      exact HBAD.out 30 hR3.out
    have q6I : ¬ (n : Int) < 4 := by omega
    have q7I : (2 : Int) < (n : Int) := by omega
    have q7J : (3 : Int) < (n : Int) := by omega
    obtain ⟨a, a2, ys, hxs⟩ : ∃ a a2 ys, xs = a :: a2 :: ys := by
      have hxl := HX.out.2.2.1
      match xs, hxl with
      | [], hxl => simp at hxl; omega
      | [_], hxl => simp at hxl; omega
      | a :: a2 :: ys, _ => exact ⟨a, a2, ys, rfl⟩
    have c2 : W0.cell? ⟨b, o + 2, none⟩ = some (.int .u8 (a.toNat : Int)) := by have := HCL.out 2 (by omega); rw [hxs] at this; simpa using this
    have c3 : W0.cell? ⟨b, o + 3, none⟩ = some (.int .u8 (a2.toNat : Int)) := by have := HCL.out 3 (by omega); rw [hxs] at this; simpa using this
    have ha := a.toNat_lt
    have ha2 := a2.toNat_lt
    obtain ⟨A1, hA1⟩ : ∃ T, a.toNat = T := ⟨_, rfl⟩
    obtain ⟨A2, hA2⟩ : ∃ T, a2.toNat = T := ⟨_, rfl⟩
    rw [hA1] at c2 ha
    rw [hA2] at c3 ha2
    obtain ⟨N4, hN4⟩ : ∃ N, A1 * 256 + A2 = N := ⟨_, rfl⟩
    have hN4I : (256 : Int) * (A1 : Int) + (A2 : Int) = (N4 : Int) := by omega
    have hN4b : (N4 : Int) < 65536 := by omega
    have HRA : Hid (R = if N4 < 256 then .error 30 else if ((t :: f :: xs).drop 4).length < N4 then .error 30 else .ok ((t, ((t :: f :: xs).drop 4).take N4), ((t :: f :: xs).drop 4).drop N4)) := by
      show R = _
      rw [HR0.out, hxs]
      simp only [lenD, len2]
      rw [HX.out.2.1, if_neg q2, if_neg q4, if_pos q5, hA1, hA2, hN4]
      by_cases h128 : N4 < 256
      · rw [if_pos h128, if_pos h128]
      · rw [if_neg h128, if_neg h128]
        rfl
    clear hxs hA1 hA2 q4 q3 q5 hN4
    by_cases q8 : N4 < 256
    · have q8I : (N4 : Int) < 256 := by omega
      have hR3 : Hid (R = .error 30) := by show R = _; rw [HRA.out, if_pos q8]
      go_enter Tryd.func11, Tryd.ntmps11
      go_wp2_with fail
      go_quiet (fail)
      generalize hwq : World.drewN W0 nq = wq
      have HS1 : Hid (Tl wq w.heap.size (.int .u8 0) (.slice none 0 0) ∧ Below W0.heap.size W0 wq) := by rw [← hwq]; exact ⟨HS0.out.1.below (below_drews (Below.refl _ _) _), below_drews (Below.refl _ _) _⟩
      have d0 : wq.cell? ⟨b, o, none⟩ = some (.int .u8 (TN : Int)) := by rw [← hwq]; exact c0
      obtain ⟨e0, e1', e2', e3'⟩ := HS1.out.1.facts
      obtain ⟨e4, e5⟩ := HS1.out.1.facts1 (.int .u8 0)
      clear hwq g0 g1 g2 g3 g4 g5 c0 c1 c2 c3 hN4I hN4b ha ha2
      go_wp2_with fail
      refine bodyPost_ret (ret_tlv3 rfl _ _ w.heap.size _ _ rfl (HS1.out.1.set2 _ _)) rfl ?_
      exact HBQ.out _ 30 HS1.out.2 hR3.out
    have q8I : ¬ (N4 : Int) < 256 := by omega
    have HRN : Hid (R = if ((t :: f :: xs).drop 4).length < N4 then .error 30 else .ok ((t, ((t :: f :: xs).drop 4).take N4), ((t :: f :: xs).drop 4).drop N4)) := by show R = _; rw [HRA.out, if_neg q8]
    clear HRA
    by_cases q5 : n - 4 < N4
    · have q5I : (n : Int) - 4 < (N4 : Int) := by omega
      have hR3 : Hid (R = .error 30) := by show R = _; rw [HRN.out, if_pos (by rw [List.length_drop, HX.out.2.2.2.1]; exact q5)]
      go_enter Tryd.func11, Tryd.ntmps11
      go_wp2_with fail
      go_quiet (fail)
      generalize hwq : World.drewN W0 nq = wq
      have HS1 : Hid (Tl wq w.heap.size (.int .u8 0) (.slice none 0 0) ∧ Below W0.heap.size W0 wq) := by rw [← hwq]; exact ⟨HS0.out.1.below (below_drews (Below.refl _ _) _), below_drews (Below.refl _ _) _⟩
      have d0 : wq.cell? ⟨b, o, none⟩ = some (.int .u8 (TN : Int)) := by rw [← hwq]; exact c0
      obtain ⟨e0, e1', e2', e3'⟩ := HS1.out.1.facts
      obtain ⟨e4, e5⟩ := HS1.out.1.facts1 (.int .u8 0)
      clear hwq g0 g1 g2 g3 g4 g5 c0 c1 c2 c3 hN4I hN4b ha ha2
      go_wp2_with fail
      refine bodyPost_ret (ret_tlv3 rfl _ _ w.heap.size _ _ rfl (HS1.out.1.set2 _ _)) rfl ?_
      exact HBQ.out _ 30 HS1.out.2 hR3.out
    have q5I : ¬ (n : Int) - 4 < (N4 : Int) := by omega
    have hR3 : Hid (R = .ok ((t, ((t :: f :: xs).drop 4).take N4), ((t :: f :: xs).drop 4).drop N4)) := by show R = _; rw [HRN.out, if_neg (by rw [List.length_drop, HX.out.2.2.2.1]; exact q5)]
    obtain ⟨E, hE⟩ : ∃ E, 4 + N4 = E := ⟨_, rfl⟩
    have hEI : (4 : Int) + (N4 : Int) = (E : Int) := by omega
    have m1 : (E : Int) ≤ (n : Int) := by omega
    have m2 : (E : Int) ≤ (c : Int) := by omega
    have m3 : (4 : Int) ≤ (E : Int) := by omega
    have m4 : (4 : Int) ≤ (c : Int) := by omega
    have HE : Hid (∀ W p1 c1 p2 c2, Below W0.heap.size W0 W → ByV w (fun b => P b ∧ b < w.heap.size) p1 c1 (((t :: f :: xs).drop 4).take N4) → ByV w (fun b => P b ∧ b < w.heap.size) p2 c2 ((t :: f :: xs).drop E) → SpPost w (fun _ => P) R (.returned (.tuple #[.agg #[.int .u8 (TN : Int), .slice p1 (E - 4) c1], .slice p2 (n - E) c2, .int .i64 0])) ((W.setCell ⟨w.heap.size, 0, none⟩ (.int .u8 (TN : Int))).setCell ⟨w.heap.size, 1, none⟩ (.slice p1 (E - 4) c1))) := fun W p1 c1 p2 c2 hW hv1 hv2 => by
      have hb : Below w.heap.size w W := HS0.out.2.trans (hW.mono HS0.out.2.size)
      have hbut := but_set2 W w.heap.size (.int .u8 (TN : Int)) (.slice p1 (E - 4) c1)
      have hk2 : ∀ g, (P g ∧ g < w.heap.size) → g < w.heap.size → ((W.setCell ⟨w.heap.size, 0, none⟩ (.int .u8 (TN : Int))).setCell ⟨w.heap.size, 1, none⟩ (.slice p1 (E - 4) c1)).heap[g]? = w.heap[g]? := fun g _ hlt => (hbut.block g (Nat.lt_of_lt_of_le hlt hb.size) (by omega)).trans (hb.block g hlt)
      refine ⟨hb.trans (hbut.below (Nat.le_refl _) hb.size), .inl ⟨t, _, _, p1, c1, p2, c2, hR3.out, ?_, (hv1.keep hk2).mono (fun g hg _ => hg.1), ?_⟩⟩
      · have l1 : (((t :: f :: xs).drop 4).take N4).length = E - 4 := by rw [List.length_take, List.length_drop, HX.out.2.2.2.1]; omega
        have l2 : (((t :: f :: xs).drop 4).drop N4).length = n - E := by rw [List.length_drop, List.length_drop, HX.out.2.2.2.1]; omega
        rw [HX.out.1, l1, l2]
      · rw [List.drop_drop, hE]
        exact (hv2.keep hk2).mono (fun g hg _ => hg.1)
    have HV0 : ByV w (fun b => P b ∧ b < w.heap.size) (some ⟨b, o, none⟩) c (t :: f :: xs) := HX.out.2.2.2.2.mono (fun g hg hlt => ⟨hg, hlt⟩)
    have HVA := (HV0.drop 4 (by rw [HX.out.2.2.2.1]; omega)).take N4 (by rw [List.length_drop, HX.out.2.2.2.1]; omega)
    have HVE := HV0.drop E (by rw [HX.out.2.2.2.1]; omega)
    clear HV0 hE q5 hR3 HRN HR0
    have qa : ¬ c = 4 := by omega
    rw [if_neg qa] at HVA
    have HA : Hid (ByV w (fun b => P b ∧ b < w.heap.size) (some ⟨b, o + 4, none⟩) (c - 4) (((t :: f :: xs).drop 4).take N4)) := HVA
    clear HVA
    by_cases qe : c = E
    · rw [if_pos qe, show c - E = 0 by omega] at HVE
      have HB : Hid (ByV w (fun b => P b ∧ b < w.heap.size) (some ⟨b, o, none⟩) 0 ((t :: f :: xs).drop E)) := HVE
      clear HVE
      go_enter Tryd.func11, Tryd.ntmps11
      go_wp2_with fail
      go_quiet (fail)
      generalize hwq : World.drewN W0 nq = wq
      have HS1 : Hid (Tl wq w.heap.size (.int .u8 0) (.slice none 0 0) ∧ Below W0.heap.size W0 wq) := by rw [← hwq]; exact ⟨HS0.out.1.below (below_drews (Below.refl _ _) _), below_drews (Below.refl _ _) _⟩
      have d0 : wq.cell? ⟨b, o, none⟩ = some (.int .u8 (TN : Int)) := by rw [← hwq]; exact c0
      obtain ⟨e0, e1', e2', e3'⟩ := HS1.out.1.facts
      obtain ⟨e4, e5⟩ := HS1.out.1.facts1 (.int .u8 0)
      clear hwq g0 g1 g2 g3 g4 g5 c0 c1 c2 c3 hN4I hN4b ha ha2
      go_wp2_with fail
      go_region
      go_wp2_with fail
      refine bodyPost_ret (ret_tlv3 rfl _ _ w.heap.size _ _ rfl (Tl.set2 (v0 := .int .u8 0) (v1 := .slice none 0 0) (HS1.out.1.same rfl) _ _)) rfl ?_
      exact HE.out _ _ _ _ _ HS1.out.2.drew (by rw [← qe]; exact HA.out) HB.out
    rw [if_neg qe, Option.map_some, Addr.add_mid] at HVE
    have HB : Hid (ByV w (fun b => P b ∧ b < w.heap.size) (some ⟨b, o + E, none⟩) (c - E) ((t :: f :: xs).drop E)) := HVE
    clear HVE
    go_enter Tryd.func11, Tryd.ntmps11
    go_wp2_with fail
    go_quiet (fail)
    generalize hwq : World.drewN W0 nq = wq
    have HS1 : Hid (Tl wq w.heap.size (.int .u8 0) (.slice none 0 0) ∧ Below W0.heap.size W0 wq) := by rw [← hwq]; exact ⟨HS0.out.1.below (below_drews (Below.refl _ _) _), below_drews (Below.refl _ _) _⟩
    have d0 : wq.cell? ⟨b, o, none⟩ = some (.int .u8 (TN : Int)) := by rw [← hwq]; exact c0
    obtain ⟨e0, e1', e2', e3'⟩ := HS1.out.1.facts
    obtain ⟨e4, e5⟩ := HS1.out.1.facts1 (.int .u8 0)
    clear hwq g0 g1 g2 g3 g4 g5 c0 c1 c2 c3 hN4I hN4b ha ha2
    go_wp2_with fail
    go_region
    go_wp2_with fail
    refine bodyPost_ret (ret_tlv3 rfl _ _ w.heap.size _ _ rfl (Tl.set2 (v0 := .int .u8 0) (v1 := .slice none 0 0) (HS1.out.1.same rfl) _ _)) rfl ?_
    exact HE.out _ _ _ _ _ HS1.out.2.drew HA.out HB.out
end Go.Proofs.YtiblpcfkecalcaaDoor
/-
  Pieces one behind the other in memory; the document's List.
-/
namespace Go.Proofs.YtiblpcfkecalcaaDoor
open Go.Shelf Go.RowKit
set_option linter.unusedVariables false
set_option linter.unusedSimpArgs false

/-- A piece, and where its body lies. -/
structure Pc where
  t : UInt8
  b : Bs
  p : Option Addr
  c : Nat
def Pc.cells (x : Pc) : List Value := [.int .u8 (x.t.toNat : Int), .slice x.p x.b.length x.c]
def cellsP (l : List Pc) : List Value := l.flatMap Pc.cells
/-- The pieces themselves. -/
def pcsOf (l : List Pc) : List (UInt8 × Bs) := l.map fun x => (x.t, x.b)
theorem cellsP_len : ∀ (l : List Pc), (cellsP l).length = l.length * 2
  | [] => rfl
  | x :: l => by
    have := cellsP_len l
    simp only [cellsP, List.flatMap_cons, List.length_append] at this ⊢
    rw [this]
    simp [Pc.cells]
    omega
theorem cellsP_app (a b : List Pc) : cellsP a ++ cellsP b = cellsP (a ++ b) := by simp [cellsP]
theorem infoTlv : ∃ z, (Tryd.prog.info? 25).map (fun i => (i.zero, i.size, i.bytes)) = some (some z, 2, 32) ∧ z.cells.size = 2 := ⟨.agg #[.int .u8 0, .slice none 0 0], by kernel_rfl, rfl⟩
/-- Pieces in a list of the call's own. -/
structure Pcs (w : World) (B : Nat) (P : Nat → Prop) (v : Value) (l : List Pc) : Prop where
  own : w.ownsRow B 25 2 v l.length (cellsP l)
  at_ : ∀ x ∈ l, ByV w P x.p x.c x.b
/-- A piece appended. -/
theorem wpList_append_pc {w : World} {ops : Array Oper} {rest : List Oper} {o : Oper} {a : Act} {Q : Exit → Act → World → Prop} (hgd : o.guard = none) (s x : Operand)
    (ho : o.op = .call { callee := .builtin .append, args := #[s, x], argTypes := #[31, 31] }) (base : Nat) (v : Value) (hs : a.eval s = v) (old : List Pc) (m : Nat) (hown : w.ownsRow base 25 2 v m (cellsP old)) (ad : Addr) (c : Nat) (y : Pc) (hx : a.eval x = .slice (some ad) 1 c) (h0 : w.cell? (ad.add 0) = some (.int .u8 (y.t.toNat : Int))) (h1 : w.cell? (ad.add 1) = some (.slice y.p y.b.length y.c)) (hlen : m + 1 ≤ 1000000) (hbase : base ≤ w.heap.size)
    (h : ∀ v' w', w'.ownsRow base 25 2 v' (m + 1) (cellsP (old ++ [y])) → w.grownBy w' v.ownBlock → wpList Tryd.prog ops Q rest (a.put o.dst v') w') : wpList Tryd.prog ops Q (o :: rest) a w := by
  obtain ⟨z, hz, hzs⟩ := infoTlv
  obtain ⟨i0, hi0, hz0, hz1, hz2⟩ := info_parts hz
  refine wpList_append_own (w := w) hgd s x _ ho base 25 i0 z 2 32 Tryd.underlying31 hi0 hz0 hz1 hz2 hzs (by decide) v m (cellsP old) hs hown ad 1 c (cellsP [y]) hx rfl ?_ (by intro u hu; simp [cellsP, Pc.cells] at hu; rcases hu with rfl | rfl <;> rfl) (by unfold maxLen; omega) (by omega) hbase ?_
  · intro j u hj
    match j with
    | 0 => simp [cellsP, Pc.cells] at hj; subst hj; exact h0
    | 1 => simp [cellsP, Pc.cells] at hj; subst hj; exact h1
    | j + 2 => simp [cellsP, Pc.cells] at hj
  · intro v' w' hown' hgr _
    rw [cellsP_app] at hown'
    exact h v' w' hown' hgr
theorem allD_more : ∀ (m k : Nat) (bs : Bs), bs.length ≤ m → bs.length ≤ k → allD m bs = allD k bs
  | 0, k, bs, hm, hk => by
    have : bs = [] := List.eq_nil_of_length_eq_zero (by omega)
    subst this
    cases k with
    | zero => rfl
    | succ k => rfl
  | m + 1, 0, bs, hm, hk => by
    have : bs = [] := List.eq_nil_of_length_eq_zero (by omega)
    subst this
    rfl
  | m + 1, k + 1, bs, hm, hk => by
    simp only [allD]
    by_cases h : bs = []
    · rw [if_pos h, if_pos h]
    rw [if_neg h, if_neg h]
    cases hr : readD bs with
    | error e => rfl
    | ok q =>
      obtain ⟨⟨t, b⟩, r⟩ := q
      have := (read_len hr).1
      simp only []
      rw [allD_more m k r (by omega) (by omega)]
/-- All pieces of bytes, and the first fault. -/
def pcsD (bs : Bs) : List (UInt8 × Bs) × Nat := allD bs.length bs
theorem pcsD_nil : pcsD [] = ([], 0) := rfl
theorem pcsD_err {bs : Bs} {k : Nat} (h0 : bs ≠ []) (h : readD bs = .error k) : pcsD bs = ([], k) := by
  obtain ⟨m, hm⟩ : ∃ m, bs.length = m + 1 := ⟨bs.length - 1, by have : bs.length ≠ 0 := fun e => h0 (List.eq_nil_of_length_eq_zero e); omega⟩
  unfold pcsD
  rw [hm]
  simp only [allD]
  rw [if_neg h0, h]
theorem pcsD_ok {bs : Bs} {t : UInt8} {b r : Bs} (h : readD bs = .ok ((t, b), r)) : pcsD bs = ((t, b) :: (pcsD r).1, (pcsD r).2) := by
  have hl := (read_len h).1
  obtain ⟨m, hm⟩ : ∃ m, bs.length = m + 1 := ⟨bs.length - 1, by omega⟩
  have h0 : bs ≠ [] := by intro e; rw [e] at hm; cases hm
  unfold pcsD
  rw [hm]
  simp only [allD]
  rw [if_neg h0, h]
  simp only []
  rw [allD_more m r.length r (by omega) (Nat.le_refl _)]
/-- A slice's length. -/
def lenOfS : Value → Nat
  | .slice _ n _ => n
  | _ => 0
/-- What List answers. -/
def LsPost (w : World) (P : World → Nat → Prop) (R : List (UInt8 × Bs) × Nat) (e : Ending) (w' : World) : Prop :=
  Below w.heap.size w w' ∧ ((R.2 ≠ 0 ∧ e = .returned (.tuple #[.slice none 0 0, .int .i64 (R.2 : Int)])) ∨ (R.2 = 0 ∧ ∃ l v, pcsOf l = R.1 ∧ e = .returned (.tuple #[v, .int .i64 0]) ∧ Pcs w' w.heap.size (P w) v l))
set_option maxRecDepth 100000 in
set_option maxHeartbeats 4000000 in
/-- The document's List. -/
theorem rList_any (p : Option Addr) (n c : Nat) (bs : Bs) (P : Nat → Prop) (w : World) (hn : bs.length = n) (hn2 : n ≤ 100000) (h : ByV w P p c bs) :
    Calls Tryd.prog 13 #[.slice p n c] w (LsPost w (fun _ => P) (pcsD bs)) := by
  have HV : Hid (ByV w (fun b => P b ∧ b < w.heap.size) p c bs ∧ bs.length = n) := ⟨h.mono (fun g hg hlt => ⟨hg, hlt⟩), hn⟩
  clear h hn
  go_enter Tryd.func13, Tryd.ntmps13
  go_wp2_with fail
  go_loopw [0, 4] (fun v0 v4 wr => ∃ (xs : List Pc) (ys : Bs) (L : Nat) (q : Option Addr) (d : Nat) (pv : Option Addr) (cv K : Nat), v0 = .slice q L d ∧ ys.length = L ∧ ByV wr (fun b => P b ∧ b < w.heap.size) q d ys ∧ v4 = .slice pv K cv ∧ xs.length = K ∧ K + L ≤ n ∧ wr.ownsRow w.heap.size 25 2 (.slice pv K cv) K (cellsP xs) ∧ (∀ x ∈ xs, ByV wr (fun b => P b ∧ b < w.heap.size) x.p x.c x.b) ∧ Below w.heap.size w wr ∧ pcsD bs = (pcsOf xs ++ (pcsD ys).1, (pcsD ys).2)) (fun v0 _ _ => lenOfS v0)
  case atStart => exact ⟨[], bs, n, p, c, none, 0, 0, rfl, HV.out.2, HV.out.1, rfl, rfl, by omega, World.ownsRow_nil _ _ _ _, (fun x hx => by cases hx), Below.refl _ _, rfl⟩
  case round =>
    obtain ⟨xs, ys, L, q, d, pv, cv, K, rfl, hL, hv, rfl, hK, hKL, hown, hat, hb, hall⟩ := hrel
    have hBs := hb.size
    have HI : Hid (ys.length = L ∧ xs.length = K ∧ Below w.heap.size w wr ∧ pcsD bs = (pcsOf xs ++ (pcsD ys).1, (pcsD ys).2) ∧ wr.ownsRow w.heap.size 25 2 (.slice pv K cv) K (cellsP xs) ∧ (∀ x ∈ xs, ByV wr (fun b => P b ∧ b < w.heap.size) x.p x.c x.b)) := ⟨hL, hK, hb, hall, hown, hat⟩
    by_cases q5 : L = 0
    · have q5I : ¬ (0 : Int) < (L : Int) := by omega
      have hys : ys = [] := List.eq_nil_of_length_eq_zero (by omega)
      have HR : Hid (pcsD bs = (pcsOf xs, 0)) := by show pcsD bs = _; rw [hall, hys, pcsD_nil]; simp
      clear hall hys hL hown hv hK hb hat
      go_wp2_with fail
      go_ret2
      refine ⟨HI.out.2.2.1, .inr ⟨by rw [HR.out], xs, _, by rw [HR.out], rfl, ⟨by rw [HI.out.2.1]; exact HI.out.2.2.2.2.1, fun x hx => (HI.out.2.2.2.2.2 x hx).mono (fun g hg _ => hg.1)⟩⟩⟩
    have q5I : (0 : Int) < (L : Int) := by omega
    have HRD := rRead10 q L d ys (fun b => P b ∧ b < w.heap.size) wr hL hv
    have hy0 : ys ≠ [] := by intro e; rw [e] at hL; exact q5 hL.symm
    clear hown hv hK hb hat
    cases hr : readD ys with
    | error k =>
      rw [hr] at HRD
      have hk := read_err hr
      have hkb : ((k : Int) != 0) = true := by simp; omega
      have HR : Hid ((pcsD bs).2 = k ∧ k ≠ 0) := ⟨by rw [hall, pcsD_err hy0 hr], by omega⟩
      clear hall hL hk hr
      go_wp2_with (go_at_call 11; refine HRD.mono ?_; intro e w2 hp; obtain ⟨hb2, he⟩ := hp.errx; subst he; have HB2 : Hid (Below wr.heap.size wr w2) := hb2; clear hp hb2)
      go_ret2
      have hB2 := HI.out.2.2.1.trans (HB2.out.mono hBs)
      exact ⟨hB2.alloc hB2.size _, .inl ⟨by rw [HR.out.1]; exact HR.out.2, by rw [HR.out.1]; rfl⟩⟩
    | ok x =>
      obtain ⟨⟨t, b⟩, r⟩ := x
      rw [hr] at HRD
      have hlens := read_len hr
      obtain ⟨TN, hTN⟩ : ∃ T, t.toNat = T := ⟨_, rfl⟩
      obtain ⟨LB, hLB⟩ : ∃ T, b.length = T := ⟨_, rfl⟩
      obtain ⟨Lr, hLr⟩ : ∃ T, r.length = T := ⟨_, rfl⟩
      have hLr2 : Lr + 2 ≤ L := by rw [← hLr, ← hL]; exact hlens.1
      have HR : Hid (t.toNat = TN ∧ b.length = LB ∧ r.length = Lr ∧ pcsD bs = (pcsOf xs ++ (t, b) :: (pcsD r).1, (pcsD r).2)) := ⟨hTN, hLB, hLr, by rw [hall, pcsD_ok hr]⟩
      clear hall hL hr hlens hy0
      go_wp2_with (first
        | (go_at_call 11; refine HRD.mono ?_; intro e w2 hp; obtain ⟨hb2, p1, c1, p2, c2, he, hv1, hv2⟩ := hp.okx; subst he; rw [hTN, hLB, hLr]; have HB2 : Hid (Below wr.heap.size wr w2 ∧ ByV w2 (fun b => P b ∧ b < w.heap.size) p1 c1 b ∧ ByV w2 (fun b => P b ∧ b < w.heap.size) p2 c2 r) := ⟨hb2, hv1, hv2⟩; clear hp hb2 hv1 hv2)
        | (at_builtin; refine wpList_append_pc rfl (.tmp 20) (.tmp 22) rfl w.heap.size (.slice pv K cv) rfl xs K (((owns_keep HI.out.2.2.2.2.1 (fun g hg => HB2.out.1.block g (owns_lt HI.out.2.2.2.2.1 hg).2.1)).alloc _).alloc _) ⟨w2.heap.size + 1, 0, none⟩ 1 ⟨t, b, p1, c1⟩ rfl (by show _ = some (Value.int .u8 (t.toNat : Int)); rw [HR.out.1, Addr.add_mid]; have hh := (Tl.new (w2.alloc (.cells #[.int .u8 (TN : Int), .slice p1 LB c1] 25)) (.int .u8 (TN : Int)) (.slice p1 LB c1)).c0; rw [alloc_sz] at hh; exact hh) (by show _ = some (Value.slice p1 b.length c1); rw [HR.out.2.1, Addr.add_mid]; have hh := (Tl.new (w2.alloc (.cells #[.int .u8 (TN : Int), .slice p1 LB c1] 25)) (.int .u8 (TN : Int)) (.slice p1 LB c1)).c1; rw [alloc_sz] at hh; exact hh) (by omega) (Nat.le_trans hBs (Nat.le_trans HB2.out.1.size (Nat.le_trans (alloc_le _ _) (alloc_le _ _)))) ?_; intro v3 w3 o3 gr3))
      obtain ⟨p3, c3, rfl⟩ := owns_slice o3
      have hB2 : Below w.heap.size w w2 := HI.out.2.2.1.trans (HB2.out.1.mono hBs)
      have hB3 := below_grownT ((hB2.alloc hB2.size _).alloc (Nat.le_trans hB2.size (alloc_le _ _)) _) (Nat.le_refl _) (((owns_keep HI.out.2.2.2.2.1 (fun g hg => HB2.out.1.block g (owns_lt HI.out.2.2.2.2.1 hg).2.1)).alloc _).alloc _) gr3
      refine ⟨⟨xs ++ [⟨t, b, p1, c1⟩], r, Lr, p2, c2, p3, c3, K + 1, rfl, HR.out.2.2.1, ?_, rfl, by simp [HI.out.2.1], by omega, o3, ?_, hB3, ?_⟩, by simp only [lenOfS]; omega⟩
      · exact HB2.out.2.2.keep (fun g hg hlt => (hB3.block g hg.2).trans (hB2.block g hg.2).symm)
      · intro x hx
        rcases List.mem_append.1 hx with hx | hx
        · exact (HI.out.2.2.2.2.2 x hx).keep (fun g hg hlt => (hB3.block g hg.2).trans (HI.out.2.2.1.block g hg.2).symm)
        · simp at hx
          subst hx
          exact HB2.out.2.1.keep (fun g hg hlt => (hB3.block g hg.2).trans (hB2.block g hg.2).symm)
      · rw [HR.out.2.2.2]
        simp [pcsOf]
end Go.Proofs.YtiblpcfkecalcaaDoor
