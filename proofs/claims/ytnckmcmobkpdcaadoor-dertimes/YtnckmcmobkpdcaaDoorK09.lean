import Derived.Test.YtnckmcmobkpdcaaDoorK08
import Derived.Test.YtnckmcmobkpdcaaDoorK00
import Derived.RangeFuncNested
import Derived.RangeFuncBound
import Derived.RangeFuncCalls
import Derived.RangeFuncLeaves
import Derived.Shelf.Abstract
import Derived.Shelf.RegionOpen
import Derived.OwnWalkIn
import Derived.TacticsInMore
import Derived.LoopNIn
import Derived.LoopIn
import Derived.Stop.RegionWithIn
import Derived.Test.YtnckmcmobkpdcaaDoorK04
import Derived.Test.YtnckmcmobkpdcaaDoorK05
import Derived.Maps.OwnIn
import Derived.Test.YtnckmcmobkpdcaaDoorK06
import Derived.WideShapes
import Derived.OpenShut
import Derived.ChangeSame
/-
  A range over a function whose elements lie in new memory.
-/
namespace Go.Proofs.YtnckmcmobkpdcaaDoor
open Go.Shelf Go.RowKit
set_option linter.unusedVariables false
set_option linter.unusedSimpArgs false

/-- A range over a function that yields elements in new memory; each round may make memory of its own. -/
theorem range_new {α : Type} {P : Program} {n : Nat} {g : Operand} {ps : Array Tmp} {assign body : Code} {Q : Exit → Act → World → Prop} {a : Act} {w : World} {gf : Nat} {lb : Array Value} (hn : 1 ≤ n) (Gd : List α → α → Prop)
    (hg : a.eval g = .func (.func gf) #[] lb) (eg : ∀ args w, (callFunc gf args).run P w = .ok (.enter gf args) w)
    (E : α → Array Value) (hps : ∀ x, (E x).size = ps.size) (Y : Nat → α → World → Prop) (S Sp : List α → Prop) (I : List α → World → Prop) (Ix : Code → List α → World → Prop)
    (hit : ∀ (l : Nat) (r : Loop) (J Jx : List α → World → Prop), (∀ pre W, J pre W → I pre W) → (∀ pre W W', J pre W → Below W.heap.size W W' → J pre W') →
      (∀ pre x W0 W1, J pre W0 → Gd pre x → Below W0.heap.size W0 W1 → Y W0.heap.size x W1 → YieldAt Fence.wide (n - 1 - 1) P l (E x) W1 fun e W' => (e = .returned (.bool true) ∧ J (pre ++ [x]) W') ∨ (e = .returned (.bool false) ∧ Jx (pre ++ [x]) W')) →
      J [] ((w.alloc (.deferred (some []))).alloc (.loop r)) →
      CallsIn Fence.wide (n - 1) P gf (#[.func (.yield l) #[] #[]] ++ lb) ((w.alloc (.deferred (some []))).alloc (.loop r)) fun e W' => (∃ v, e = .returned v) ∧ ((∃ xs, S xs ∧ J xs W') ∨ (∃ pre, Sp pre ∧ Jx pre W')))
    (hIb : ∀ pre W W', I pre W → Below W.heap.size W W' → I pre W')
    (hIp : ∀ pre W r o o', I pre W → w.heap.size ≤ r → W.heap[r]? = some o → o.isCells = false → I pre (W.putObj r o'))
    (hXp : ∀ c pre W r o o', Ix c pre W → w.heap.size ≤ r → W.heap[r]? = some o → o.isCells = false → Ix c pre (W.putObj r o'))
    (h0 : I [] w)
    (hround : ∀ (l : Nat) (r : Loop) (pre : List α) (x : α) (W0 W : World), Gd pre x → w.heap.size ≤ l → l < W0.heap.size → W.heap[l]? = some (.loop r) → I pre W0 → Below W0.heap.size W0 W → I pre W → Y W0.heap.size x W →
      assign.wpIn (Fence.wide.inRound l) (n - 1 - 1) P (Exit.then (fun a1 W1 => Below W.heap.size W W1 ∧ ∀ o', body.wpIn (Fence.wide.inRound l) (n - 1 - 1) P (ownPostG w.heap.size (fun _ _ => True) I Ix (pre ++ [x]) (W1.putObj l o')) a1 (W1.putObj l o')) (fun _ _ _ => False))
        { tmps := (ps.zip (E x)).foldl (fun t (p, v) => t.setIfInBounds p v) a.tmps, defers := [] } W)
    (hdone : ∀ (D : Nat) (xs : List α) (W : World), w.heap.size ≤ D → S xs → I xs W → W.heap[D]? = some (.deferred (some [])) → Q .normal { a with defers := { target := .collected D, args := #[] } :: a.defers } W)
    (hstop : ∀ (D : Nat) (c : Code) (pre : List α) (W : World), w.heap.size ≤ D → Sp pre → Ix c pre W → W.heap[D]? = some (.deferred (some [])) → c.wpIn Fence.wide n P Q { a with defers := { target := .collected D, args := #[] } :: a.defers } W) :
    (Code.rangeFunc g ps assign body).wpIn Fence.wide n P Q a w := by
  refine wpIn_rangeFunc ?_
  intro fn _
  obtain ⟨st, hst⟩ : ∃ st : LoopState → Option Code → Loop, st = fun s pe => { state := s, pending := pe, fn := fn, tmps := a.tmps, params := ps, assign := assign, body := body, defers := w.heap.size } := ⟨_, rfl⟩
  have hd1 : ((w.alloc (.deferred (some []))).alloc (.loop (st .ready none))).heap[w.heap.size]? = some (.deferred (some [])) := (Below.heap_alloc _ _ _ (by simp)).trans (World.alloc_heap_new w _)
  have hl1 : ((w.alloc (.deferred (some []))).alloc (.loop (st .ready none))).heap[w.heap.size + 1]? = some (.loop (st .ready none)) := by
    have := World.alloc_heap_new (w.alloc (.deferred (some []))) (.loop (st .ready none))
    rwa [World.size_alloc] at this
  have hb1 : Below w.heap.size w ((w.alloc (.deferred (some []))).alloc (.loop (st .ready none))) := ((Below.refl _ w).alloc (Nat.le_refl _) _).alloc (by simp) _
  refine ⟨w.heap.size + 1, [{ target := .collected w.heap.size, args := #[] }], (w.alloc (.deferred (some []))).alloc (.loop (st .ready none)), { target := .fn (.func gf) lb, args := #[.func (.yield (w.heap.size + 1)) #[] #[]] }, (w.alloc (.deferred (some []))).alloc (.loop (st .ready none)), gf, #[.func (.yield (w.heap.size + 1)) #[] #[]] ++ lb, (w.alloc (.deferred (some []))).alloc (.loop (st .ready none)), by rw [hst]; exact run_enterLoop_outer _ _ _ _ _, by simp only [resolve, hg]; simp [go_sem], fun _ _ => trivial, by simp [invoke, go_sem, eg], fun _ => hn, ?_⟩
  refine (hit (w.heap.size + 1) (st .ready none)
    (fun pre W => I pre W ∧ W.heap[w.heap.size + 1]? = some (.loop (st .ready none)) ∧ W.heap[w.heap.size]? = some (.deferred (some [])))
    (fun pre W => ∃ c, Ix c pre W ∧ W.heap[w.heap.size + 1]? = some (.loop (st .done (some c))) ∧ W.heap[w.heap.size]? = some (.deferred (some [])))
    (fun _ _ h => h.1)
    (fun pre W W' h hb => ⟨hIb pre W W' h.1 hb, (hb.block _ (Array.getElem?_eq_some_iff.1 h.2.1).1).trans h.2.1, (hb.block _ (Array.getElem?_eq_some_iff.1 h.2.2).1).trans h.2.2⟩) ?_ ⟨hIb _ _ _ h0 hb1, hl1, hd1⟩).mono ?_
  · rintro pre x W0 W ⟨hi, hl0, hd0⟩ hlen hb hy
    have hlt0 : w.heap.size + 1 < W0.heap.size := (Array.getElem?_eq_some_iff.1 hl0).1
    have hl : W.heap[w.heap.size + 1]? = some (.loop (st .ready none)) := (hb.block _ hlt0).trans hl0
    have hd : W.heap[w.heap.size]? = some (.deferred (some [])) := (hb.block _ (by omega)).trans hd0
    have hlt : w.heap.size + 1 < W.heap.size := (Array.getElem?_eq_some_iff.1 hl).1
    have hyr := run_yield (P := P) (args := E x) hl (by rw [hst]; exact hps x)
    rw [hst] at hyr
    refine ⟨fn, _, assign, body, hyr, roundIn_of_wpIn trivial ?_⟩
    refine wpIn_mono (hround (w.heap.size + 1) (st .ready none) pre x W0 W hlen (by omega) hlt0 hl hi hb (hIb _ _ _ hi hb) hy) ?_
    rintro e a1 W1 hp
    cases e with
    | normal =>
      obtain ⟨hb1, hbody⟩ := hp
      have hl2 : W1.heap[w.heap.size + 1]? = some (.loop (st .ready none)) := (hb1.block _ hlt).trans hl
      have hd2 : W1.heap[w.heap.size]? = some (.deferred (some [])) := (hb1.block _ (by omega)).trans hd
      have hlt2 : w.heap.size + 1 < W1.heap.size := (Array.getElem?_eq_some_iff.1 hl2).1
      refine ⟨_, run_beginRound hl2 (by rw [hst]), ?_⟩
      refine wpIn_mono (hbody _) ?_
      have hl3 : (W1.putObj (w.heap.size + 1) (.loop { st .ready none with state := .busy })).heap[w.heap.size + 1]? = some (.loop { st .ready none with state := .busy }) := World.putObj_heap_same hlt2
      have hd3 : (W1.putObj (w.heap.size + 1) (.loop { st .ready none with state := .busy })).heap[w.heap.size]? = some (.deferred (some [])) := (World.putObj_heap_other (by omega)).trans hd2
      have fin : ∀ (jump : Option Code) (W3 : World), KeepsFrom w.heap.size (W1.putObj (w.heap.size + 1) (.loop { st .ready none with state := .busy })) W3 →
          (Instr.endRound (w.heap.size + 1) jump).run P W3 = .ok (.bool jump.isNone) (W3.putObj (w.heap.size + 1) (.loop (st (if jump.isNone then .ready else .done) jump))) ∧
          W3.heap[w.heap.size + 1]? = some (.loop { st .ready none with state := .busy }) ∧
          (W3.putObj (w.heap.size + 1) (.loop (st (if jump.isNone then .ready else .done) jump))).heap[w.heap.size + 1]? = some (.loop (st (if jump.isNone then .ready else .done) jump)) ∧
          (W3.putObj (w.heap.size + 1) (.loop (st (if jump.isNone then .ready else .done) jump))).heap[w.heap.size]? = some (.deferred (some [])) := fun jump W3 hk3 => by
        have h3 := hk3.same _ _ (by omega) hl3 rfl
        have := run_endRound (P := P) jump h3
        rw [hst] at this ⊢
        exact ⟨this, by rw [hst] at h3; exact h3, World.putObj_heap_same (Array.getElem?_eq_some_iff.1 h3).1, (World.putObj_heap_other (by omega)).trans (hk3.same _ _ (Nat.le_refl _) hd3 rfl)⟩
      rintro e a3 W3 hp
      cases e with
      | normal =>
        obtain ⟨hk3, _, hi3⟩ := hp
        obtain ⟨hr, h3, h4, h5⟩ := fin none W3 hk3
        exact ⟨_, _, hr, .inl ⟨rfl, hIp _ _ _ _ _ hi3 (by omega) h3 rfl, h4, h5⟩⟩
      | ret =>
        obtain ⟨hk3, hi3⟩ := hp
        obtain ⟨hr, h3, h4, h5⟩ := fin (some .ret) W3 hk3
        exact ⟨_, _, hr, .inr ⟨rfl, .ret, hXp _ _ _ _ _ _ hi3 (by omega) h3 rfl, h4, h5⟩⟩
      | exit id =>
        obtain ⟨hk3, hi3⟩ := hp
        obtain ⟨hr, h3, h4, h5⟩ := fin (some (.exit id)) W3 hk3
        exact ⟨_, _, hr, .inr ⟨rfl, .exit id, hXp _ _ _ _ _ _ hi3 (by omega) h3 rfl, h4, h5⟩⟩
      | goto t =>
        obtain ⟨hk3, hi3⟩ := hp
        obtain ⟨hr, h3, h4, h5⟩ := fin (some (.goto t)) W3 hk3
        exact ⟨_, _, hr, .inr ⟨rfl, .goto t, hXp _ _ _ _ _ _ hi3 (by omega) h3 rfl, h4, h5⟩⟩
      | panic ch => exact hp.elim
      | outgrown => exact hp.elim
    | ret => exact hp.elim
    | exit id => exact hp.elim
    | goto t => exact hp.elim
    | panic ch => exact hp.elim
    | outgrown => exact hp.elim
  · rintro e W2 ⟨⟨v, rfl⟩, (⟨xs, hS, hi, hl, hk⟩ | ⟨pre, hSp, c, hi, hl, hk⟩)⟩
    · exact ⟨none, _, by have := run_endLoop (P := P) hl (by rw [hst]; simp); rw [hst] at this; exact this, hdone _ xs _ (Nat.le_refl _) hS (hIp _ _ _ _ _ hi (by omega) hl rfl) ((World.putObj_heap_other (by omega)).trans hk)⟩
    · exact ⟨some c, _, by have := run_endLoop (P := P) hl (by rw [hst]; simp); rw [hst] at this; exact this, hstop _ c pre _ (Nat.le_refl _) hSp (hXp _ _ _ _ _ _ hi (by omega) hl rfl) ((World.putObj_heap_other (by omega)).trans hk)⟩
end Go.Proofs.YtnckmcmobkpdcaaDoor
/-
  The document's Read.
-/
namespace Go.Proofs.YtnckmcmobkpdcaaDoor
open Go.Shelf Go.RowKit
set_option linter.unusedVariables false
set_option linter.unusedSimpArgs false

theorem readD_cons (t f : UInt8) (xs : Bs) (hl : (t :: f :: xs).length ≤ 4096) (ht : t.toNat % 32 ≠ 31) : readD (t :: f :: xs) = match lenD (f :: xs) with
    | none => .error 30
    | some (n, ys) => if ys.length < n then .error 30 else .ok ((t, ys.take n), ys.drop n) := by
  unfold readD
  rw [if_neg (by omega)]
  simp only []
  rw [if_neg ht]
  cases lenD (f :: xs) with
  | none => rfl
  | some q => rfl
set_option maxRecDepth 100000 in
set_option maxHeartbeats 4000000 in
/-- Read. -/
theorem rRead10 (p : Option Addr) (n c : Nat) (bs : Bs) (P : Nat → Prop) (w : World) (hn : bs.length = n) (h : ByV w P p c bs) :
    Calls Tryd.prog 9 #[.slice p n c] w (SpPost w (fun _ => P) (readD bs)) := by
  have hcap := h.cap
  have hbig := h.big
  rw [hn] at hcap
  have hnI : (n : Int) ≤ 9223372036854775807 := by omega
  have hcI : (c : Int) ≤ 9223372036854775807 := by omega
  obtain ⟨W0, hW0⟩ : ∃ W0, w.alloc (.cells #[.int .u8 0, .slice none 0 0] 24) = W0 := ⟨_, rfl⟩
  have b0 : Below w.heap.size w W0 := by rw [← hW0]; exact (Below.refl _ _).alloc (Nat.le_refl _) _
  have s0 : Tl W0 w.heap.size (.int .u8 0) (.slice none 0 0) := by rw [← hW0]; exact Tl.new w _ _
  obtain ⟨g0, g1, g2, g3⟩ := s0.facts
  obtain ⟨g4, g5⟩ := s0.facts1 (.int .u8 0)
  obtain ⟨R, hR⟩ : ∃ R, readD bs = R := ⟨_, rfl⟩
  rw [hR]
  have HBAD : Hid (∀ k, R = .error k → SpPost w (fun _ => P) R (.returned (.tuple #[.agg #[.int .u8 0, .slice none 0 0], .slice none 0 0, .int .i64 (k : Int)])) ((W0.setCell ⟨w.heap.size, 0, none⟩ (.int .u8 0)).setCell ⟨w.heap.size, 1, none⟩ (.slice none 0 0))) := fun k hk => SpPost.bad k hk (b0.trans ((but_set2 W0 w.heap.size _ _).below (Nat.le_refl _) b0.size))
  have HBADD : Hid (∀ q k, R = .error k → SpPost w (fun _ => P) R (.returned (.tuple #[.agg #[.int .u8 0, .slice none 0 0], .slice none 0 0, .int .i64 (k : Int)])) ((((W0.drewN q).setCell ⟨w.heap.size, 0, none⟩ (.int .u8 0)).setCell ⟨w.heap.size, 1, none⟩ (.slice none 0 0)))) := fun q k hk => SpPost.bad k hk ((below_drews b0 q).trans ((but_set2 _ w.heap.size _ _).below (Nat.le_refl _) (below_drews b0 q).size))
  have HS0 : Hid (Tl W0 w.heap.size (.int .u8 0) (.slice none 0 0) ∧ Below w.heap.size w W0) := ⟨s0, b0⟩
  clear s0
  by_cases hl : 4096 < n
  · have hlI : 4096 < (n : Int) := by omega
    have hR3 : R = .error 3 := by rw [← hR]; unfold readD; rw [if_pos (by omega)]
    go_enter Tryd.func9, Tryd.ntmps9
    go_wp2_with fail
    refine bodyPost_ret (ret_tlv3 rfl _ _ w.heap.size _ _ rfl (HS0.out.1.set2 _ _)) rfl ?_
    exact HBAD.out 3 hR3
  have hlI : ¬ 4096 < (n : Int) := by omega
  by_cases h2 : n < 2
  · have h2I : (n : Int) < 2 := by omega
    have hR3 : R = .error 30 := by
      rw [← hR]
      match bs, hn with
      | [], _ => rfl
      | [t], _ =>
        unfold readD
        rw [if_neg (by simp)]
        simp only [lenD]
        split <;> rfl
      | t :: f :: xs, hn => simp at hn; omega
    have HR3 : Hid (R = .error 30) := hR3
    clear hR hn hR3
    go_enter Tryd.func9, Tryd.ntmps9
    go_wp2_with fail
    refine bodyPost_ret (ret_tlv3 rfl _ _ w.heap.size _ _ rfl (HS0.out.1.set2 _ _)) rfl ?_
    exact HBAD.out 30 HR3.out
  have h2I : ¬ (n : Int) < 2 := by omega
  match bs, hn, h, hR with
  | [], hn, _, _ => simp at hn; omega
  | [t], hn, _, _ => simp at hn; omega
  | t :: f :: xs, hn, h, hR =>
    obtain ⟨b, o, rfl, hcl⟩ := h.lies (by simp)
    have HCL : Hid (∀ i, i < n → W0.cell? ⟨b, o + i, none⟩ = some (.int .u8 (((t :: f :: xs).getD i 0).toNat : Int))) := fun i hi => (b0.cell (p := ⟨b, o + i, none⟩) (World.block_lt_of_cell? w _ (hcl i (by rw [hn]; exact hi)))).trans (hcl i (by rw [hn]; exact hi))
    have c0 : W0.cell? ⟨b, o, none⟩ = some (.int .u8 (t.toNat : Int)) := by simpa using HCL.out 0 (by omega)
    have c1 : W0.cell? ⟨b, o + 1, none⟩ = some (.int .u8 (f.toNat : Int)) := by simpa using HCL.out 1 (by omega)
    have ht := t.toNat_lt
    have hf := f.toNat_lt
    have k0 : (0 : Int) < (n : Int) := by omega
    have k1 : (1 : Int) < (n : Int) := by omega
    have k2 : (n : Int) ≤ (c : Int) := by omega
    obtain ⟨TN, hTN⟩ : ∃ T, t.toNat = T := ⟨_, rfl⟩
    obtain ⟨F, hF⟩ : ∃ T, f.toNat = T := ⟨_, rfl⟩
    have HX : Hid (t.toNat = TN ∧ f.toNat = F ∧ xs.length = n - 2 ∧ (t :: f :: xs).length = n ∧ ByV w P (some ⟨b, o, none⟩) c (t :: f :: xs)) := ⟨hTN, hF, by simp at hn; omega, hn, h⟩
    rw [hTN] at c0 ht
    rw [hF] at c1 hf
    have HRR : Hid (readD (t :: f :: xs) = R) := hR
    clear hTN hF hcl h hR hn b0
    by_cases q1 : TN % 32 = 31
    · have q1I : ((TN : Int) % 32 == 31) = true := by simp; omega
      have hR3 : Hid (R = .error 30) := by show R = _; rw [← HRR.out]; unfold readD; rw [if_neg (by rw [HX.out.2.2.2.1]; omega)]; simp only []; rw [if_pos (by rw [HX.out.1]; exact q1)]
      clear q1
      go_enter Tryd.func9, Tryd.ntmps9
      go_wp2_with fail
      refine bodyPost_ret (ret_tlv3 rfl _ _ w.heap.size _ _ rfl (HS0.out.1.set2 _ _)) rfl ?_
      exact HBAD.out 30 hR3.out
    have q1I : ((TN : Int) % 32 == 31) = false := by simp; omega
    have HR0 : Hid (R = match lenD (f :: xs) with
        | none => .error 30
        | some (n, ys) => if ys.length < n then .error 30 else .ok ((t, ys.take n), ys.drop n)) := by
      show R = _
      rw [← HRR.out, readD_cons t f xs (by rw [HX.out.2.2.2.1]; omega) (by rw [HX.out.1]; exact q1)]
    clear q1 HRR
    by_cases q2 : F < 128
    · have q2I : ¬ (128 : Int) ≤ (F : Int) := by omega
      have HRN : Hid (R = if ((t :: f :: xs).drop 2).length < F then .error 30 else .ok ((t, ((t :: f :: xs).drop 2).take F), ((t :: f :: xs).drop 2).drop F)) := by
        show R = _
        rw [HR0.out]
        simp only [lenD]
        rw [HX.out.2.1, if_pos q2]
        rfl
      by_cases q5 : n - 2 < F
      · have q5I : (n : Int) - 2 < (F : Int) := by omega
        have hR3 : Hid (R = .error 30) := by show R = _; rw [HRN.out, if_pos (by rw [List.length_drop, HX.out.2.2.2.1]; exact q5)]
        go_enter Tryd.func9, Tryd.ntmps9
        go_wp2_with fail
        refine bodyPost_ret (ret_tlv3 rfl _ _ w.heap.size _ _ rfl (HS0.out.1.set2 _ _)) rfl ?_
        exact HBAD.out 30 hR3.out
      have q5I : ¬ (n : Int) - 2 < (F : Int) := by omega
      have hR3 : Hid (R = .ok ((t, ((t :: f :: xs).drop 2).take F), ((t :: f :: xs).drop 2).drop F)) := by show R = _; rw [HRN.out, if_neg (by rw [List.length_drop, HX.out.2.2.2.1]; exact q5)]
      obtain ⟨E, hE⟩ : ∃ E, 2 + F = E := ⟨_, rfl⟩
      have hEI : (2 : Int) + (F : Int) = (E : Int) := by omega
      have m1 : (E : Int) ≤ (n : Int) := by omega
      have m2 : (E : Int) ≤ (c : Int) := by omega
      have m3 : (2 : Int) ≤ (E : Int) := by omega
      have m4 : (2 : Int) ≤ (c : Int) := by omega
      have HE : Hid (∀ W p1 c1 p2 c2, Below W0.heap.size W0 W → ByV w (fun b => P b ∧ b < w.heap.size) p1 c1 (((t :: f :: xs).drop 2).take F) → ByV w (fun b => P b ∧ b < w.heap.size) p2 c2 ((t :: f :: xs).drop E) → SpPost w (fun _ => P) R (.returned (.tuple #[.agg #[.int .u8 (TN : Int), .slice p1 (E - 2) c1], .slice p2 (n - E) c2, .int .i64 0])) ((W.setCell ⟨w.heap.size, 0, none⟩ (.int .u8 (TN : Int))).setCell ⟨w.heap.size, 1, none⟩ (.slice p1 (E - 2) c1))) := fun W p1 c1 p2 c2 hW hv1 hv2 => by
        have hb : Below w.heap.size w W := HS0.out.2.trans (hW.mono HS0.out.2.size)
        have hbut := but_set2 W w.heap.size (.int .u8 (TN : Int)) (.slice p1 (E - 2) c1)
        have hk2 : ∀ g, (P g ∧ g < w.heap.size) → g < w.heap.size → ((W.setCell ⟨w.heap.size, 0, none⟩ (.int .u8 (TN : Int))).setCell ⟨w.heap.size, 1, none⟩ (.slice p1 (E - 2) c1)).heap[g]? = w.heap[g]? := fun g _ hlt => (hbut.block g (Nat.lt_of_lt_of_le hlt hb.size) (by omega)).trans (hb.block g hlt)
        refine ⟨hb.trans (hbut.below (Nat.le_refl _) hb.size), .inl ⟨t, _, _, p1, c1, p2, c2, hR3.out, ?_, (hv1.keep hk2).mono (fun g hg _ => hg.1), ?_⟩⟩
        · have l1 : (((t :: f :: xs).drop 2).take F).length = E - 2 := by rw [List.length_take, List.length_drop, HX.out.2.2.2.1]; omega
          have l2 : (((t :: f :: xs).drop 2).drop F).length = n - E := by rw [List.length_drop, List.length_drop, HX.out.2.2.2.1]; omega
          rw [HX.out.1, l1, l2]
        · rw [List.drop_drop, hE]
          exact (hv2.keep hk2).mono (fun g hg _ => hg.1)
      have HV0 : ByV w (fun b => P b ∧ b < w.heap.size) (some ⟨b, o, none⟩) c (t :: f :: xs) := HX.out.2.2.2.2.mono (fun g hg hlt => ⟨hg, hlt⟩)
      have HVA := (HV0.drop 2 (by rw [HX.out.2.2.2.1]; omega)).take F (by rw [List.length_drop, HX.out.2.2.2.1]; omega)
      have HVE := HV0.drop E (by rw [HX.out.2.2.2.1]; omega)
      clear HV0 hE q5 hR3 HRN HR0
      by_cases qa : c = 2
      · have qe : c = E := by omega
        rw [if_pos qa, show c - 2 = 0 by omega] at HVA
        rw [if_pos qe, show c - E = 0 by omega] at HVE
        have HA : Hid (ByV w (fun b => P b ∧ b < w.heap.size) (some ⟨b, o, none⟩) 0 (((t :: f :: xs).drop 2).take F)) := HVA
        have HB : Hid (ByV w (fun b => P b ∧ b < w.heap.size) (some ⟨b, o, none⟩) 0 ((t :: f :: xs).drop E)) := HVE
        clear HVA HVE
        go_enter Tryd.func9, Tryd.ntmps9
        go_wp2_with fail
        go_region
        go_wp2_with fail
        refine bodyPost_ret (ret_tlv3 rfl _ _ w.heap.size _ _ rfl (Tl.set2 (v0 := .int .u8 0) (v1 := .slice none 0 0) (HS0.out.1.same rfl) _ _)) rfl ?_
        exact HE.out _ _ _ _ _ (Below.refl _ _).drew HA.out (by rw [show 2 - E = 0 by omega]; exact HB.out)
      rw [if_neg qa] at HVA
      have HA : Hid (ByV w (fun b => P b ∧ b < w.heap.size) (some ⟨b, o + 2, none⟩) (c - 2) (((t :: f :: xs).drop 2).take F)) := HVA
      clear HVA
      by_cases qe : c = E
      · rw [if_pos qe, show c - E = 0 by omega] at HVE
        have HB : Hid (ByV w (fun b => P b ∧ b < w.heap.size) (some ⟨b, o, none⟩) 0 ((t :: f :: xs).drop E)) := HVE
        clear HVE
        go_enter Tryd.func9, Tryd.ntmps9
        go_wp2_with fail
        go_region
        go_wp2_with fail
        refine bodyPost_ret (ret_tlv3 rfl _ _ w.heap.size _ _ rfl (Tl.set2 (v0 := .int .u8 0) (v1 := .slice none 0 0) (HS0.out.1.same rfl) _ _)) rfl ?_
        exact HE.out _ _ _ _ _ (Below.refl _ _).drew (by rw [← qe]; exact HA.out) HB.out
      rw [if_neg qe, Option.map_some, Addr.add_mid] at HVE
      have HB : Hid (ByV w (fun b => P b ∧ b < w.heap.size) (some ⟨b, o + E, none⟩) (c - E) ((t :: f :: xs).drop E)) := HVE
      clear HVE
      go_enter Tryd.func9, Tryd.ntmps9
      go_wp2_with fail
      go_region
      go_wp2_with fail
      refine bodyPost_ret (ret_tlv3 rfl _ _ w.heap.size _ _ rfl (Tl.set2 (v0 := .int .u8 0) (v1 := .slice none 0 0) (HS0.out.1.same rfl) _ _)) rfl ?_
      exact HE.out _ _ _ _ _ (Below.refl _ _).drew HA.out HB.out
    have q2I : (128 : Int) ≤ (F : Int) := by omega
    by_cases q3 : F = 129 ∨ F = 130
    rotate_left
    · have e1 : ((F : Int) != 129) = true := by simp; omega
      have e2 : ((F : Int) != 130) = true := by simp; omega
      have hR3 : Hid (R = .error 30) := by show R = _; rw [HR0.out]; simp only [lenD]; rw [HX.out.2.1, if_neg q2, if_neg (by omega), if_neg (by omega)]
      clear q3
      go_enter Tryd.func9, Tryd.ntmps9
      go_wp2_with fail
      refine bodyPost_ret (ret_tlv3 rfl _ _ w.heap.size _ _ rfl (HS0.out.1.set2 _ _)) rfl ?_
      exact HBAD.out 30 hR3.out
    by_cases q4 : F = 129
    · have e1 : ((F : Int) != 129) = false := by simp; omega
      have eF : (F : Int) - 128 = 1 := by omega
      by_cases q6 : n < 3
      · have q6I : (n : Int) < 3 := by omega
        have hxe : xs = [] := List.eq_nil_of_length_eq_zero (by rw [HX.out.2.2.1]; omega)
        have hR3 : Hid (R = .error 30) := by show R = _; rw [HR0.out, hxe]; simp only [lenD, len1]; rw [HX.out.2.1, if_neg q2, if_pos q4]
        clear q4 q3 hxe
        go_enter Tryd.func9, Tryd.ntmps9
        go_wp2_with fail
        refine bodyPost_ret (ret_tlv3 rfl _ _ w.heap.size _ _ rfl (HS0.out.1.set2 _ _)) rfl ?_
        exact HBAD.out 30 hR3.out
      have q6I : ¬ (n : Int) < 3 := by omega
      have q7I : (2 : Int) < (n : Int) := by omega
      obtain ⟨a, ys, hxs⟩ : ∃ a ys, xs = a :: ys := by
        cases hx : xs with
        | nil => have := HX.out.2.2.1; rw [hx] at this; simp at this; omega
        | cons a ys => exact ⟨a, ys, rfl⟩
      have c2 : W0.cell? ⟨b, o + 2, none⟩ = some (.int .u8 (a.toNat : Int)) := by have := HCL.out 2 (by omega); rw [hxs] at this; simpa using this
      have ha := a.toNat_lt
      obtain ⟨A1, hA1⟩ : ∃ T, a.toNat = T := ⟨_, rfl⟩
      rw [hA1] at c2 ha
      have HRA : Hid (R = if A1 < 128 then .error 30 else if ((t :: f :: xs).drop 3).length < A1 then .error 30 else .ok ((t, ((t :: f :: xs).drop 3).take A1), ((t :: f :: xs).drop 3).drop A1)) := by
        show R = _
        rw [HR0.out, hxs]
        simp only [lenD, len1]
        rw [HX.out.2.1, if_neg q2, if_pos q4, hA1]
        by_cases h128 : A1 < 128
        · rw [if_pos h128, if_pos h128]
        · rw [if_neg h128, if_neg h128]
          rfl
      clear hxs hA1 q4 q3
      by_cases q8 : A1 < 128
      · have q8I : (A1 : Int) < 128 := by omega
        have hR3 : Hid (R = .error 30) := by show R = _; rw [HRA.out, if_pos q8]
        go_enter Tryd.func9, Tryd.ntmps9
        go_wp2_with fail
        refine bodyPost_ret (ret_tlv3 rfl _ _ w.heap.size _ _ rfl (HS0.out.1.set2 _ _)) rfl ?_
        exact HBAD.out 30 hR3.out
      have q8I : ¬ (A1 : Int) < 128 := by omega
      have HRN : Hid (R = if ((t :: f :: xs).drop 3).length < A1 then .error 30 else .ok ((t, ((t :: f :: xs).drop 3).take A1), ((t :: f :: xs).drop 3).drop A1)) := by show R = _; rw [HRA.out, if_neg q8]
      clear HRA
      by_cases q5 : n - 3 < A1
      · have q5I : (n : Int) - 3 < (A1 : Int) := by omega
        have hR3 : Hid (R = .error 30) := by show R = _; rw [HRN.out, if_pos (by rw [List.length_drop, HX.out.2.2.2.1]; exact q5)]
        go_enter Tryd.func9, Tryd.ntmps9
        go_wp2_with fail
        refine bodyPost_ret (ret_tlv3 rfl _ _ w.heap.size _ _ rfl (HS0.out.1.set2 _ _)) rfl ?_
        exact HBAD.out 30 hR3.out
      have q5I : ¬ (n : Int) - 3 < (A1 : Int) := by omega
      have hR3 : Hid (R = .ok ((t, ((t :: f :: xs).drop 3).take A1), ((t :: f :: xs).drop 3).drop A1)) := by show R = _; rw [HRN.out, if_neg (by rw [List.length_drop, HX.out.2.2.2.1]; exact q5)]
      obtain ⟨E, hE⟩ : ∃ E, 3 + A1 = E := ⟨_, rfl⟩
      have hEI : (3 : Int) + (A1 : Int) = (E : Int) := by omega
      have m1 : (E : Int) ≤ (n : Int) := by omega
      have m2 : (E : Int) ≤ (c : Int) := by omega
      have m3 : (3 : Int) ≤ (E : Int) := by omega
      have m4 : (3 : Int) ≤ (c : Int) := by omega
      have HE : Hid (∀ W p1 c1 p2 c2, Below W0.heap.size W0 W → ByV w (fun b => P b ∧ b < w.heap.size) p1 c1 (((t :: f :: xs).drop 3).take A1) → ByV w (fun b => P b ∧ b < w.heap.size) p2 c2 ((t :: f :: xs).drop E) → SpPost w (fun _ => P) R (.returned (.tuple #[.agg #[.int .u8 (TN : Int), .slice p1 (E - 3) c1], .slice p2 (n - E) c2, .int .i64 0])) ((W.setCell ⟨w.heap.size, 0, none⟩ (.int .u8 (TN : Int))).setCell ⟨w.heap.size, 1, none⟩ (.slice p1 (E - 3) c1))) := fun W p1 c1 p2 c2 hW hv1 hv2 => by
        have hb : Below w.heap.size w W := HS0.out.2.trans (hW.mono HS0.out.2.size)
        have hbut := but_set2 W w.heap.size (.int .u8 (TN : Int)) (.slice p1 (E - 3) c1)
        have hk2 : ∀ g, (P g ∧ g < w.heap.size) → g < w.heap.size → ((W.setCell ⟨w.heap.size, 0, none⟩ (.int .u8 (TN : Int))).setCell ⟨w.heap.size, 1, none⟩ (.slice p1 (E - 3) c1)).heap[g]? = w.heap[g]? := fun g _ hlt => (hbut.block g (Nat.lt_of_lt_of_le hlt hb.size) (by omega)).trans (hb.block g hlt)
        refine ⟨hb.trans (hbut.below (Nat.le_refl _) hb.size), .inl ⟨t, _, _, p1, c1, p2, c2, hR3.out, ?_, (hv1.keep hk2).mono (fun g hg _ => hg.1), ?_⟩⟩
        · have l1 : (((t :: f :: xs).drop 3).take A1).length = E - 3 := by rw [List.length_take, List.length_drop, HX.out.2.2.2.1]; omega
          have l2 : (((t :: f :: xs).drop 3).drop A1).length = n - E := by rw [List.length_drop, List.length_drop, HX.out.2.2.2.1]; omega
          rw [HX.out.1, l1, l2]
        · rw [List.drop_drop, hE]
          exact (hv2.keep hk2).mono (fun g hg _ => hg.1)
      have HV0 : ByV w (fun b => P b ∧ b < w.heap.size) (some ⟨b, o, none⟩) c (t :: f :: xs) := HX.out.2.2.2.2.mono (fun g hg hlt => ⟨hg, hlt⟩)
      have HVA := (HV0.drop 3 (by rw [HX.out.2.2.2.1]; omega)).take A1 (by rw [List.length_drop, HX.out.2.2.2.1]; omega)
      have HVE := HV0.drop E (by rw [HX.out.2.2.2.1]; omega)
      clear HV0 hE q5 hR3 HRN HR0
      have qa : ¬ c = 3 := by omega
      rw [if_neg qa] at HVA
      have HA : Hid (ByV w (fun b => P b ∧ b < w.heap.size) (some ⟨b, o + 3, none⟩) (c - 3) (((t :: f :: xs).drop 3).take A1)) := HVA
      clear HVA
      by_cases qe : c = E
      · rw [if_pos qe, show c - E = 0 by omega] at HVE
        have HB : Hid (ByV w (fun b => P b ∧ b < w.heap.size) (some ⟨b, o, none⟩) 0 ((t :: f :: xs).drop E)) := HVE
        clear HVE
        go_enter Tryd.func9, Tryd.ntmps9
        go_wp2_with fail
        go_region
        go_wp2_with fail
        refine bodyPost_ret (ret_tlv3 rfl _ _ w.heap.size _ _ rfl (Tl.set2 (v0 := .int .u8 0) (v1 := .slice none 0 0) (HS0.out.1.same rfl) _ _)) rfl ?_
        exact HE.out _ _ _ _ _ (Below.refl _ _).drew (by rw [← qe]; exact HA.out) HB.out
      rw [if_neg qe, Option.map_some, Addr.add_mid] at HVE
      have HB : Hid (ByV w (fun b => P b ∧ b < w.heap.size) (some ⟨b, o + E, none⟩) (c - E) ((t :: f :: xs).drop E)) := HVE
      clear HVE
      go_enter Tryd.func9, Tryd.ntmps9
      go_wp2_with fail
      go_region
      go_wp2_with fail
      refine bodyPost_ret (ret_tlv3 rfl _ _ w.heap.size _ _ rfl (Tl.set2 (v0 := .int .u8 0) (v1 := .slice none 0 0) (HS0.out.1.same rfl) _ _)) rfl ?_
      exact HE.out _ _ _ _ _ (Below.refl _ _).drew HA.out HB.out
    have q5 : F = 130 := by omega
    have e1 : ((F : Int) != 129) = true := by simp; omega
    have e2 : ((F : Int) != 130) = false := by simp; omega
    have eF : (F : Int) - 128 = 2 := by omega
    have HBQ : Hid (∀ W k, Below W0.heap.size W0 W → R = .error k → SpPost w (fun _ => P) R (.returned (.tuple #[.agg #[.int .u8 0, .slice none 0 0], .slice none 0 0, .int .i64 (k : Int)])) ((W.setCell ⟨w.heap.size, 0, none⟩ (.int .u8 0)).setCell ⟨w.heap.size, 1, none⟩ (.slice none 0 0))) := fun W k hW hk => SpPost.bad k hk ((HS0.out.2.trans (hW.mono HS0.out.2.size)).trans ((but_set2 W w.heap.size _ _).below (Nat.le_refl _) (Nat.le_trans HS0.out.2.size hW.size)))
    by_cases q6 : n < 4
    · have q6I : (n : Int) < 4 := by omega
      have hR3 : Hid (R = .error 30) := by
        show R = _
        rw [HR0.out]
        have hxl := HX.out.2.2.1
        have hlen2 : len2 xs = none := by
          match xs, hxl with
          | [], _ => rfl
          | [_], _ => rfl
          | a :: a2 :: ys, hxl => simp at hxl; omega
        simp only [lenD]
        rw [HX.out.2.1, if_neg q2, if_neg q4, if_pos q5, hlen2]
      clear q4 q3 q5
      go_enter Tryd.func9, Tryd.ntmps9
      go_wp2_with fail
      refine bodyPost_ret (ret_tlv3 rfl _ _ w.heap.size _ _ rfl (HS0.out.1.set2 _ _)) rfl ?_
      exact HBAD.out 30 hR3.out
    have q6I : ¬ (n : Int) < 4 := by omega
    have q7I : (2 : Int) < (n : Int) := by omega
    have q7J : (3 : Int) < (n : Int) := by omega
    obtain ⟨a, a2, ys, hxs⟩ : ∃ a a2 ys, xs = a :: a2 :: ys := by
      have hxl := HX.out.2.2.1
      match xs, hxl with
      | [], hxl => simp at hxl; omega
      | [_], hxl => simp at hxl; omega
      | a :: a2 :: ys, _ => exact ⟨a, a2, ys, rfl⟩
    have c2 : W0.cell? ⟨b, o + 2, none⟩ = some (.int .u8 (a.toNat : Int)) := by have := HCL.out 2 (by omega); rw [hxs] at this; simpa using this
    have c3 : W0.cell? ⟨b, o + 3, none⟩ = some (.int .u8 (a2.toNat : Int)) := by have := HCL.out 3 (by omega); rw [hxs] at this; simpa using this
    have ha := a.toNat_lt
    have ha2 := a2.toNat_lt
    obtain ⟨A1, hA1⟩ : ∃ T, a.toNat = T := ⟨_, rfl⟩
    obtain ⟨A2, hA2⟩ : ∃ T, a2.toNat = T := ⟨_, rfl⟩
    rw [hA1] at c2 ha
    rw [hA2] at c3 ha2
    obtain ⟨N4, hN4⟩ : ∃ N, A1 * 256 + A2 = N := ⟨_, rfl⟩
    have hN4I : (256 : Int) * (A1 : Int) + (A2 : Int) = (N4 : Int) := by omega
    have hN4b : (N4 : Int) < 65536 := by omega
    have HRA : Hid (R = if N4 < 256 then .error 30 else if ((t :: f :: xs).drop 4).length < N4 then .error 30 else .ok ((t, ((t :: f :: xs).drop 4).take N4), ((t :: f :: xs).drop 4).drop N4)) := by
      show R = _
      rw [HR0.out, hxs]
      simp only [lenD, len2]
      rw [HX.out.2.1, if_neg q2, if_neg q4, if_pos q5, hA1, hA2, hN4]
      by_cases h128 : N4 < 256
      · rw [if_pos h128, if_pos h128]
      · rw [if_neg h128, if_neg h128]
        rfl
    clear hxs hA1 hA2 q4 q3 q5 hN4
    by_cases q8 : N4 < 256
    · have q8I : (N4 : Int) < 256 := by omega
      have hR3 : Hid (R = .error 30) := by show R = _; rw [HRA.out, if_pos q8]
      go_enter Tryd.func9, Tryd.ntmps9
      go_wp2_with fail
      go_quiet (fail)
      generalize hwq : World.drewN W0 nq = wq
      have HS1 : Hid (Tl wq w.heap.size (.int .u8 0) (.slice none 0 0) ∧ Below W0.heap.size W0 wq) := by rw [← hwq]; exact ⟨HS0.out.1.below (below_drews (Below.refl _ _) _), below_drews (Below.refl _ _) _⟩
      have d0 : wq.cell? ⟨b, o, none⟩ = some (.int .u8 (TN : Int)) := by rw [← hwq]; exact c0
      obtain ⟨e0, e1', e2', e3'⟩ := HS1.out.1.facts
      obtain ⟨e4, e5⟩ := HS1.out.1.facts1 (.int .u8 0)
      clear hwq g0 g1 g2 g3 g4 g5 c0 c1 c2 c3 hN4I hN4b ha ha2
      go_wp2_with fail
      refine bodyPost_ret (ret_tlv3 rfl _ _ w.heap.size _ _ rfl (HS1.out.1.set2 _ _)) rfl ?_
      exact HBQ.out _ 30 HS1.out.2 hR3.out
    have q8I : ¬ (N4 : Int) < 256 := by omega
    have HRN : Hid (R = if ((t :: f :: xs).drop 4).length < N4 then .error 30 else .ok ((t, ((t :: f :: xs).drop 4).take N4), ((t :: f :: xs).drop 4).drop N4)) := by show R = _; rw [HRA.out, if_neg q8]
    clear HRA
    by_cases q5 : n - 4 < N4
    · have q5I : (n : Int) - 4 < (N4 : Int) := by omega
      have hR3 : Hid (R = .error 30) := by show R = _; rw [HRN.out, if_pos (by rw [List.length_drop, HX.out.2.2.2.1]; exact q5)]
      go_enter Tryd.func9, Tryd.ntmps9
      go_wp2_with fail
      go_quiet (fail)
      generalize hwq : World.drewN W0 nq = wq
      have HS1 : Hid (Tl wq w.heap.size (.int .u8 0) (.slice none 0 0) ∧ Below W0.heap.size W0 wq) := by rw [← hwq]; exact ⟨HS0.out.1.below (below_drews (Below.refl _ _) _), below_drews (Below.refl _ _) _⟩
      have d0 : wq.cell? ⟨b, o, none⟩ = some (.int .u8 (TN : Int)) := by rw [← hwq]; exact c0
      obtain ⟨e0, e1', e2', e3'⟩ := HS1.out.1.facts
      obtain ⟨e4, e5⟩ := HS1.out.1.facts1 (.int .u8 0)
      clear hwq g0 g1 g2 g3 g4 g5 c0 c1 c2 c3 hN4I hN4b ha ha2
      go_wp2_with fail
      refine bodyPost_ret (ret_tlv3 rfl _ _ w.heap.size _ _ rfl (HS1.out.1.set2 _ _)) rfl ?_
      exact HBQ.out _ 30 HS1.out.2 hR3.out
    have q5I : ¬ (n : Int) - 4 < (N4 : Int) := by omega
    have hR3 : Hid (R = .ok ((t, ((t :: f :: xs).drop 4).take N4), ((t :: f :: xs).drop 4).drop N4)) := by show R = _; rw [HRN.out, if_neg (by rw [List.length_drop, HX.out.2.2.2.1]; exact q5)]
    obtain ⟨E, hE⟩ : ∃ E, 4 + N4 = E := ⟨_, rfl⟩
    have hEI : (4 : Int) + (N4 : Int) = (E : Int) := by omega
    have m1 : (E : Int) ≤ (n : Int) := by omega
    have m2 : (E : Int) ≤ (c : Int) := by omega
    have m3 : (4 : Int) ≤ (E : Int) := by omega
    have m4 : (4 : Int) ≤ (c : Int) := by omega
    have HE : Hid (∀ W p1 c1 p2 c2, Below W0.heap.size W0 W → ByV w (fun b => P b ∧ b < w.heap.size) p1 c1 (((t :: f :: xs).drop 4).take N4) → ByV w (fun b => P b ∧ b < w.heap.size) p2 c2 ((t :: f :: xs).drop E) → SpPost w (fun _ => P) R (.returned (.tuple #[.agg #[.int .u8 (TN : Int), .slice p1 (E - 4) c1], .slice p2 (n - E) c2, .int .i64 0])) ((W.setCell ⟨w.heap.size, 0, none⟩ (.int .u8 (TN : Int))).setCell ⟨w.heap.size, 1, none⟩ (.slice p1 (E - 4) c1))) := fun W p1 c1 p2 c2 hW hv1 hv2 => by
      have hb : Below w.heap.size w W := HS0.out.2.trans (hW.mono HS0.out.2.size)
      have hbut := but_set2 W w.heap.size (.int .u8 (TN : Int)) (.slice p1 (E - 4) c1)
      have hk2 : ∀ g, (P g ∧ g < w.heap.size) → g < w.heap.size → ((W.setCell ⟨w.heap.size, 0, none⟩ (.int .u8 (TN : Int))).setCell ⟨w.heap.size, 1, none⟩ (.slice p1 (E - 4) c1)).heap[g]? = w.heap[g]? := fun g _ hlt => (hbut.block g (Nat.lt_of_lt_of_le hlt hb.size) (by omega)).trans (hb.block g hlt)
      refine ⟨hb.trans (hbut.below (Nat.le_refl _) hb.size), .inl ⟨t, _, _, p1, c1, p2, c2, hR3.out, ?_, (hv1.keep hk2).mono (fun g hg _ => hg.1), ?_⟩⟩
      · have l1 : (((t :: f :: xs).drop 4).take N4).length = E - 4 := by rw [List.length_take, List.length_drop, HX.out.2.2.2.1]; omega
        have l2 : (((t :: f :: xs).drop 4).drop N4).length = n - E := by rw [List.length_drop, List.length_drop, HX.out.2.2.2.1]; omega
        rw [HX.out.1, l1, l2]
      · rw [List.drop_drop, hE]
        exact (hv2.keep hk2).mono (fun g hg _ => hg.1)
    have HV0 : ByV w (fun b => P b ∧ b < w.heap.size) (some ⟨b, o, none⟩) c (t :: f :: xs) := HX.out.2.2.2.2.mono (fun g hg hlt => ⟨hg, hlt⟩)
    have HVA := (HV0.drop 4 (by rw [HX.out.2.2.2.1]; omega)).take N4 (by rw [List.length_drop, HX.out.2.2.2.1]; omega)
    have HVE := HV0.drop E (by rw [HX.out.2.2.2.1]; omega)
    clear HV0 hE q5 hR3 HRN HR0
    have qa : ¬ c = 4 := by omega
    rw [if_neg qa] at HVA
    have HA : Hid (ByV w (fun b => P b ∧ b < w.heap.size) (some ⟨b, o + 4, none⟩) (c - 4) (((t :: f :: xs).drop 4).take N4)) := HVA
    clear HVA
    by_cases qe : c = E
    · rw [if_pos qe, show c - E = 0 by omega] at HVE
      have HB : Hid (ByV w (fun b => P b ∧ b < w.heap.size) (some ⟨b, o, none⟩) 0 ((t :: f :: xs).drop E)) := HVE
      clear HVE
      go_enter Tryd.func9, Tryd.ntmps9
      go_wp2_with fail
      go_quiet (fail)
      generalize hwq : World.drewN W0 nq = wq
      have HS1 : Hid (Tl wq w.heap.size (.int .u8 0) (.slice none 0 0) ∧ Below W0.heap.size W0 wq) := by rw [← hwq]; exact ⟨HS0.out.1.below (below_drews (Below.refl _ _) _), below_drews (Below.refl _ _) _⟩
      have d0 : wq.cell? ⟨b, o, none⟩ = some (.int .u8 (TN : Int)) := by rw [← hwq]; exact c0
      obtain ⟨e0, e1', e2', e3'⟩ := HS1.out.1.facts
      obtain ⟨e4, e5⟩ := HS1.out.1.facts1 (.int .u8 0)
      clear hwq g0 g1 g2 g3 g4 g5 c0 c1 c2 c3 hN4I hN4b ha ha2
      go_wp2_with fail
      go_region
      go_wp2_with fail
      refine bodyPost_ret (ret_tlv3 rfl _ _ w.heap.size _ _ rfl (Tl.set2 (v0 := .int .u8 0) (v1 := .slice none 0 0) (HS1.out.1.same rfl) _ _)) rfl ?_
      exact HE.out _ _ _ _ _ HS1.out.2.drew (by rw [← qe]; exact HA.out) HB.out
    rw [if_neg qe, Option.map_some, Addr.add_mid] at HVE
    have HB : Hid (ByV w (fun b => P b ∧ b < w.heap.size) (some ⟨b, o + E, none⟩) (c - E) ((t :: f :: xs).drop E)) := HVE
    clear HVE
    go_enter Tryd.func9, Tryd.ntmps9
    go_wp2_with fail
    go_quiet (fail)
    generalize hwq : World.drewN W0 nq = wq
    have HS1 : Hid (Tl wq w.heap.size (.int .u8 0) (.slice none 0 0) ∧ Below W0.heap.size W0 wq) := by rw [← hwq]; exact ⟨HS0.out.1.below (below_drews (Below.refl _ _) _), below_drews (Below.refl _ _) _⟩
    have d0 : wq.cell? ⟨b, o, none⟩ = some (.int .u8 (TN : Int)) := by rw [← hwq]; exact c0
    obtain ⟨e0, e1', e2', e3'⟩ := HS1.out.1.facts
    obtain ⟨e4, e5⟩ := HS1.out.1.facts1 (.int .u8 0)
    clear hwq g0 g1 g2 g3 g4 g5 c0 c1 c2 c3 hN4I hN4b ha ha2
    go_wp2_with fail
    go_region
    go_wp2_with fail
    refine bodyPost_ret (ret_tlv3 rfl _ _ w.heap.size _ _ rfl (Tl.set2 (v0 := .int .u8 0) (v1 := .slice none 0 0) (HS1.out.1.same rfl) _ _)) rfl ?_
    exact HE.out _ _ _ _ _ HS1.out.2.drew HA.out HB.out
end Go.Proofs.YtnckmcmobkpdcaaDoor
/-
  Pieces one behind the other in memory; the document's List.
-/
namespace Go.Proofs.YtnckmcmobkpdcaaDoor
open Go.Shelf Go.RowKit
set_option linter.unusedVariables false
set_option linter.unusedSimpArgs false

/-- A piece, and where its body lies. -/
structure Pc where
  t : UInt8
  b : Bs
  p : Option Addr
  c : Nat
def Pc.cells (x : Pc) : List Value := [.int .u8 (x.t.toNat : Int), .slice x.p x.b.length x.c]
def cellsP (l : List Pc) : List Value := l.flatMap Pc.cells
/-- The pieces themselves. -/
def pcsOf (l : List Pc) : List (UInt8 × Bs) := l.map fun x => (x.t, x.b)
theorem cellsP_len : ∀ (l : List Pc), (cellsP l).length = l.length * 2
  | [] => rfl
  | x :: l => by
    have := cellsP_len l
    simp only [cellsP, List.flatMap_cons, List.length_append] at this ⊢
    rw [this]
    simp [Pc.cells]
    omega
theorem cellsP_app (a b : List Pc) : cellsP a ++ cellsP b = cellsP (a ++ b) := by simp [cellsP]
theorem infoTlv : ∃ z, (Tryd.prog.info? 24).map (fun i => (i.zero, i.size, i.bytes)) = some (some z, 2, 32) ∧ z.cells.size = 2 := ⟨.agg #[.int .u8 0, .slice none 0 0], by kernel_rfl, rfl⟩
/-- Pieces in a list of the call's own. -/
structure Pcs (w : World) (B : Nat) (P : Nat → Prop) (v : Value) (l : List Pc) : Prop where
  own : w.ownsRow B 24 2 v l.length (cellsP l)
  at_ : ∀ x ∈ l, ByV w P x.p x.c x.b
/-- A piece appended. -/
theorem wpList_append_pc {w : World} {ops : Array Oper} {rest : List Oper} {o : Oper} {a : Act} {Q : Exit → Act → World → Prop} (hgd : o.guard = none) (s x : Operand)
    (ho : o.op = .call { callee := .builtin .append, args := #[s, x], argTypes := #[27, 27] }) (base : Nat) (v : Value) (hs : a.eval s = v) (old : List Pc) (m : Nat) (hown : w.ownsRow base 24 2 v m (cellsP old)) (ad : Addr) (c : Nat) (y : Pc) (hx : a.eval x = .slice (some ad) 1 c) (h0 : w.cell? (ad.add 0) = some (.int .u8 (y.t.toNat : Int))) (h1 : w.cell? (ad.add 1) = some (.slice y.p y.b.length y.c)) (hlen : m + 1 ≤ 1000000) (hbase : base ≤ w.heap.size)
    (h : ∀ v' w', w'.ownsRow base 24 2 v' (m + 1) (cellsP (old ++ [y])) → w.grownBy w' v.ownBlock → wpList Tryd.prog ops Q rest (a.put o.dst v') w') : wpList Tryd.prog ops Q (o :: rest) a w := by
  obtain ⟨z, hz, hzs⟩ := infoTlv
  obtain ⟨i0, hi0, hz0, hz1, hz2⟩ := info_parts hz
  refine wpList_append_own (w := w) hgd s x _ ho base 24 i0 z 2 32 Tryd.underlying27 hi0 hz0 hz1 hz2 hzs (by decide) v m (cellsP old) hs hown ad 1 c (cellsP [y]) hx rfl ?_ (by intro u hu; simp [cellsP, Pc.cells] at hu; rcases hu with rfl | rfl <;> rfl) (by unfold maxLen; omega) (by omega) hbase ?_
  · intro j u hj
    match j with
    | 0 => simp [cellsP, Pc.cells] at hj; subst hj; exact h0
    | 1 => simp [cellsP, Pc.cells] at hj; subst hj; exact h1
    | j + 2 => simp [cellsP, Pc.cells] at hj
  · intro v' w' hown' hgr _
    rw [cellsP_app] at hown'
    exact h v' w' hown' hgr
theorem allD_more : ∀ (m k : Nat) (bs : Bs), bs.length ≤ m → bs.length ≤ k → allD m bs = allD k bs
  | 0, k, bs, hm, hk => by
    have : bs = [] := List.eq_nil_of_length_eq_zero (by omega)
    subst this
    cases k with
    | zero => rfl
    | succ k => rfl
  | m + 1, 0, bs, hm, hk => by
    have : bs = [] := List.eq_nil_of_length_eq_zero (by omega)
    subst this
    rfl
  | m + 1, k + 1, bs, hm, hk => by
    simp only [allD]
    by_cases h : bs = []
    · rw [if_pos h, if_pos h]
    rw [if_neg h, if_neg h]
    cases hr : readD bs with
    | error e => rfl
    | ok q =>
      obtain ⟨⟨t, b⟩, r⟩ := q
      have := (read_len hr).1
      simp only []
      rw [allD_more m k r (by omega) (by omega)]
/-- All pieces of bytes, and the first fault. -/
def pcsD (bs : Bs) : List (UInt8 × Bs) × Nat := allD bs.length bs
theorem pcsD_nil : pcsD [] = ([], 0) := rfl
theorem pcsD_err {bs : Bs} {k : Nat} (h0 : bs ≠ []) (h : readD bs = .error k) : pcsD bs = ([], k) := by
  obtain ⟨m, hm⟩ : ∃ m, bs.length = m + 1 := ⟨bs.length - 1, by have : bs.length ≠ 0 := fun e => h0 (List.eq_nil_of_length_eq_zero e); omega⟩
  unfold pcsD
  rw [hm]
  simp only [allD]
  rw [if_neg h0, h]
theorem pcsD_ok {bs : Bs} {t : UInt8} {b r : Bs} (h : readD bs = .ok ((t, b), r)) : pcsD bs = ((t, b) :: (pcsD r).1, (pcsD r).2) := by
  have hl := (read_len h).1
  obtain ⟨m, hm⟩ : ∃ m, bs.length = m + 1 := ⟨bs.length - 1, by omega⟩
  have h0 : bs ≠ [] := by intro e; rw [e] at hm; cases hm
  unfold pcsD
  rw [hm]
  simp only [allD]
  rw [if_neg h0, h]
  simp only []
  rw [allD_more m r.length r (by omega) (Nat.le_refl _)]
/-- A slice's length. -/
def lenOfS : Value → Nat
  | .slice _ n _ => n
  | _ => 0
/-- What List answers. -/
def LsPost (w : World) (P : World → Nat → Prop) (R : List (UInt8 × Bs) × Nat) (e : Ending) (w' : World) : Prop :=
  Below w.heap.size w w' ∧ ((R.2 ≠ 0 ∧ e = .returned (.tuple #[.slice none 0 0, .int .i64 (R.2 : Int)])) ∨ (R.2 = 0 ∧ ∃ l v, pcsOf l = R.1 ∧ e = .returned (.tuple #[v, .int .i64 0]) ∧ Pcs w' w.heap.size (P w) v l))
end Go.Proofs.YtnckmcmobkpdcaaDoor
/-
  The code's pieces gone over.
-/
namespace Go.Proofs.YtnckmcmobkpdcaaDoor
open Go.Shelf Go.RowKit
set_option linter.unusedVariables false
set_option linter.unusedSimpArgs false
attribute [local go_sem] Oper.semAt_some

/-- What is yielded: a piece, or an error. -/
structure Ye where
  pc : Pc
  k : Nat
abbrev encY (y : Ye) : Array Value := #[.agg #[.int .u8 (y.pc.t.toNat : Int), .slice y.pc.p y.pc.b.length y.pc.c], .int .i64 (y.k : Int)]
/-- What is to be yielded. -/
def seqD (bs : Bs) : List ((UInt8 × Bs) × Nat) := (pcsD bs).1.map (fun x => (x, 0)) ++ (if (pcsD bs).2 = 0 then [] else [((0, []), (pcsD bs).2)])
def yOf (l : List Ye) : List ((UInt8 × Bs) × Nat) := l.map fun y => ((y.pc.t, y.pc.b), y.k)
theorem yOf_app (a b : List Ye) : yOf (a ++ b) = yOf a ++ yOf b := by simp [yOf]
theorem seqD_nil : seqD [] = [] := rfl
theorem seqD_err {bs : Bs} {k : Nat} (h0 : bs ≠ []) (h : readD bs = .error k) : seqD bs = [((0, []), k)] := by
  unfold seqD
  rw [pcsD_err h0 h]
  have := read_err h
  simp
  omega
theorem seqD_ok {bs : Bs} {t : UInt8} {b r : Bs} (h : readD bs = .ok ((t, b), r)) : seqD bs = ((t, b), 0) :: seqD r := by
  unfold seqD
  rw [pcsD_ok h]
  rfl
theorem seqD_len : ∀ (bs : Bs), (seqD bs).length ≤ bs.length := by
  intro bs
  induction hn : bs.length using Nat.strongRecOn generalizing bs with
  | _ n ih =>
    by_cases h0 : bs = []
    · subst h0; simp [seqD_nil]
    cases hr : readD bs with
    | error k =>
      rw [seqD_err h0 hr]
      have : bs.length ≠ 0 := fun e => h0 (List.eq_nil_of_length_eq_zero e)
      simp
      omega
    | ok q =>
      obtain ⟨⟨t, b⟩, r⟩ := q
      have hl := read_len hr
      rw [seqD_ok hr]
      have := ih r.length (by omega) r rfl
      simp
      omega
theorem seqD_pos {bs : Bs} (h0 : bs ≠ []) : 0 < (seqD bs).length := by
  cases hr : readD bs with
  | error k => rw [seqD_err h0 hr]; simp
  | ok q =>
    obtain ⟨⟨t, b⟩, r⟩ := q
    rw [seqD_ok hr]
    simp
/-- Where a yielded piece lies: in memory from M on. -/
def Yn (M : Nat) (y : Ye) (W : World) : Prop := ByV W (fun b => M ≤ b) y.pc.p y.pc.c y.pc.b

end Go.Proofs.YtnckmcmobkpdcaaDoor
/-
  The code's All and List.
-/
namespace Go.Proofs.YtnckmcmobkpdcaaDoor
open Go.Shelf Go.RowKit
set_option linter.unusedVariables false
set_option linter.unusedSimpArgs false
attribute [local go_sem] Oper.semAt_some

/-- A cell of the call's own, with what it holds. -/
def Kx (W : World) (b : Nat) (v : Value) : Prop := W.cell? ⟨b, 0, none⟩ = some v ∧ W.frozen? ⟨b, 0, none⟩ = false
theorem kx_new (W : World) (v : Value) (t : TypeId) : Kx (W.alloc (.cells #[v] t)) W.heap.size v := ⟨by simp, by simp⟩
theorem kx_block {W W' : World} {b : Nat} {v : Value} (h : Kx W b v) (hb : W'.heap[b]? = W.heap[b]?) : Kx W' b v := ⟨(World.cell?_of_block (w := W) hb).trans h.1, (World.frozen?_of_block (w := W) hb).trans h.2⟩
theorem kx_lt {W : World} {b : Nat} {v : Value} (h : Kx W b v) : b < W.heap.size := World.block_lt_of_cell? W _ h.1
theorem kx_below {W W' : World} {b : Nat} {v : Value} (h : Kx W b v) (hb : Below W.heap.size W W') : Kx W' b v := kx_block h (hb.block b (kx_lt h))
theorem kx_put {W : World} {b : Nat} {v : Value} (h : Kx W b v) {r : Nat} {o : Obj} (o' : Obj) (hr : W.heap[r]? = some o) (ho : o.isCells = false) : Kx (W.putObj r o') b v :=
  ⟨cell_kept h.1 (grownBy_putObj' W r o') (fun k e => by cases e; exact ⟨o, hr, ho⟩), (frozen_kept h.1 (grownBy_putObj' W r o') (fun k e => by cases e; exact ⟨o, hr, ho⟩)).trans h.2⟩
theorem kx_set {W : World} {b : Nat} {v : Value} (h : Kx W b v) (u : Value) : Kx (W.setCell ⟨b, 0, none⟩ u) b u := ⟨World.cell?_setCell_same _ _ _ h.1, by rw [World.frozen?_setCell]; exact h.2⟩
theorem kx_other {W : World} {b c : Nat} {v : Value} (h : Kx W b v) (hne : c ≠ b) (u : Value) : Kx (W.setCell ⟨c, 0, none⟩ u) b v := kx_block h (Below.heap_setCell _ _ _ _ (fun e => hne e.symm))
theorem ByV.put {W : World} {P : Nat → Prop} {p : Option Addr} {c : Nat} {l : Bs} (h : ByV W P p c l) {r : Nat} {o : Obj} (o' : Obj) (hr : W.heap[r]? = some o) (ho : o.isCells = false) : ByV (W.putObj r o') P p c l :=
  ⟨h.cap, h.big, fun h0 => by
    obtain ⟨b, f, e, hc⟩ := h.lies h0
    exact ⟨b, f, e, fun i hi => cell_kept (hc i hi) (grownBy_putObj' W r o') (fun k e => by cases e; exact ⟨o, hr, ho⟩)⟩, h.ok⟩
theorem owns_put {W : World} {base : Nat} {e : TypeId} {s : Nat} {v : Value} {n : Nat} {xs : List Value} (h : W.ownsRow base e s v n xs) {r : Nat} {o : Obj} (o' : Obj) (hr : W.heap[r]? = some o) (ho : o.isCells = false) : (W.putObj r o').ownsRow base e s v n xs :=
  owns_keep h (fun g hg => by
    have hne : g ≠ r := by
      rintro rfl
      obtain ⟨_, _, cur, hc⟩ := owns_lt h hg
      rw [hc] at hr
      cases hr
      cases ho
    exact (grownBy_putObj' W r o').block g (owns_lt h hg).2.1 (fun e => hne (by injection e)))
theorem seqD_take (bs : Bs) : seqD (bs.take 4097) = seqD bs := by
  by_cases h : bs.length ≤ 4097
  · rw [List.take_of_length_le h]
  have h1 : readD bs = .error 3 := by unfold readD; rw [if_pos (by omega)]
  have h2 : readD (bs.take 4097) = .error 3 := by unfold readD; rw [if_pos (by rw [List.length_take]; omega)]
  rw [seqD_err (by intro e; rw [e] at h; simp at h) h1, seqD_err (by intro e; have := congrArg List.length e; rw [List.length_take] at this; simp at this; rw [this] at h; simp at h) h2]
/-- A piece appended, within a fence. -/
theorem wpListIn_append_pc {F : Fence} {nF : Nat} {w : World} {ops : Array Oper} {rest : List Oper} {o : Oper} {a : Act} {Q : Exit → Act → World → Prop} (hgd : o.guard = none) (s x : Operand)
    (ho : o.op = .call { callee := .builtin .append, args := #[s, x], argTypes := #[27, 27] }) (base : Nat) (v : Value) (hs : a.eval s = v) (old : List Pc) (m : Nat) (hown : w.ownsRow base 24 2 v m (cellsP old)) (ad : Addr) (c : Nat) (y : Pc) (hx : a.eval x = .slice (some ad) 1 c) (h0 : w.cell? (ad.add 0) = some (.int .u8 (y.t.toNat : Int))) (h1 : w.cell? (ad.add 1) = some (.slice y.p y.b.length y.c)) (hlen : m + 1 ≤ 1000000) (hbase : base ≤ w.heap.size)
    (h : ∀ v' w', w'.ownsRow base 24 2 v' (m + 1) (cellsP (old ++ [y])) → w.grownBy w' v.ownBlock → (v'.ownBlock = v.ownBlock ∨ v'.ownBlock = some w.heap.size) → wpListIn F nF Tryd.prog ops Q rest (a.put o.dst v') w') : wpListIn F nF Tryd.prog ops Q (o :: rest) a w := by
  obtain ⟨z, hz, hzs⟩ := infoTlv
  obtain ⟨i0, hi0, hz0, hz1, hz2⟩ := info_parts hz
  refine wpListIn_append_own_at (w := w) hgd s x _ ho base 24 i0 z 2 32 Tryd.underlying27 hi0 hz0 hz1 hz2 hzs (by decide) v m (cellsP old) hs hown ad 1 c (cellsP [y]) hx rfl ?_ (by intro u hu; simp [cellsP, Pc.cells] at hu; rcases hu with rfl | rfl <;> rfl) (by unfold maxLen; omega) (by omega) hbase ?_
  · intro j u hj
    match j with
    | 0 => simp [cellsP, Pc.cells] at hj; subst hj; exact h0
    | 1 => simp [cellsP, Pc.cells] at hj; subst hj; exact h1
    | j + 2 => simp [cellsP, Pc.cells] at hj
  · intro v' w' hown' hgr _ hat
    rw [cellsP_app] at hown'
    exact h v' w' hown' hgr hat
/-- Between two rounds of List. -/
structure LIv (w w6 : World) (pre : List Ye) (v : Value) (W : World) : Prop where
  r0 : Kx W w.heap.size (.slice none 0 0)
  r1 : Kx W (w.heap.size + 1) (.int .i64 0)
  r2 : Kx W (w.heap.size + 1 + 1) v
  own : W.ownsRow w6.heap.size 24 2 v pre.length (cellsP (pre.map Ye.pc))
  at_ : ∀ y ∈ pre, y.k = 0 ∧ ByV W (fun b => w6.heap.size ≤ b ∧ v.ownBlock ≠ some b) y.pc.p y.pc.c y.pc.b
  low : Below w.heap.size w W
  sz : w6.heap.size ≤ W.heap.size
  mid : ∀ k, w.heap.size + 1 + 1 + 1 ≤ k → k < w6.heap.size → W.heap[k]? = w6.heap[k]?
theorem LIv.below {w w6 : World} {pre : List Ye} {v : Value} {W W' : World} (h : LIv w w6 pre v W) (hb : Below W.heap.size W W') : LIv w w6 pre v W' :=
  ⟨kx_below h.r0 hb, kx_below h.r1 hb, kx_below h.r2 hb, owns_keep h.own (fun g hg => hb.block g (owns_lt h.own hg).2.1), fun y hy => ⟨(h.at_ y hy).1, (h.at_ y hy).2.keep (fun g _ hlt => hb.block g hlt)⟩, h.low.trans (hb.mono h.low.size), Nat.le_trans h.sz hb.size, fun k h1 h2 => (hb.block k (Nat.lt_of_lt_of_le h2 h.sz)).trans (h.mid k h1 h2)⟩
theorem LIv.put {w w6 : World} {pre : List Ye} {v : Value} {W : World} (h : LIv w w6 pre v W) {r : Nat} {o : Obj} (o' : Obj) (h6 : w.heap.size ≤ w6.heap.size) (hr6 : w6.heap.size ≤ r) (hr : W.heap[r]? = some o) (ho : o.isCells = false) : LIv w w6 pre v (W.putObj r o') :=
  ⟨kx_put h.r0 o' hr ho, kx_put h.r1 o' hr ho, kx_put h.r2 o' hr ho, owns_put h.own o' hr ho, fun y hy => ⟨(h.at_ y hy).1, (h.at_ y hy).2.put o' hr ho⟩,
    h.low.trans ⟨rfl, rfl, rfl, (grownBy_putObj' W r o').size, fun k hk => (grownBy_putObj' W r o').block k (by have := h.low.size; omega) (fun e => by injection e with e; omega)⟩, Nat.le_trans h.sz (grownBy_putObj' W r o').size, fun k h1 h2 => ((grownBy_putObj' W r o').block k (by have := h.sz; omega) (fun e => by injection e with e; omega)).trans (h.mid k h1 h2)⟩
theorem LIv.app {w w6 : World} {pre : List Ye} {v : Value} {W2 W3 : World} (h : LIv w w6 pre v W2) (o : Obj) (gr : (W2.alloc o).grownBy W3 v.ownBlock) {v3 : Value} {y : Ye} (o3 : W3.ownsRow w6.heap.size 24 2 v3 (pre.length + 1) (cellsP (pre.map Ye.pc ++ [y.pc]))) (hk : y.k = 0) (hy : ByV W2 (fun b => w6.heap.size ≤ b ∧ v.ownBlock ≠ some b) y.pc.p y.pc.c y.pc.b) (hv3 : v3.ownBlock = v.ownBlock ∨ v3.ownBlock = some (W2.alloc o).heap.size) (h6 : w.heap.size + 1 + 1 + 1 ≤ w6.heap.size) : LIv w w6 (pre ++ [y]) v3 (W3.setCell ⟨w.heap.size + 1 + 1, 0, none⟩ v3) := by
  have hsz := h.sz
  have haz := alloc_sz W2 o
  have low : ∀ k, k < W2.heap.size → v.ownBlock ≠ some k → W3.heap[k]? = W2.heap[k]? := fun k hk hne => (gr.block k (by omega) (fun e => hne e.symm)).trans (Below.heap_alloc _ _ _ hk)
  have hob : ∀ k, k < w6.heap.size → v.ownBlock ≠ some k := fun k hk e => by have := (owns_lt h.own e).1; omega
  have hgz := gr.size
  have st : ∀ k, k ≠ w.heap.size + 1 + 1 → (W3.setCell ⟨w.heap.size + 1 + 1, 0, none⟩ v3).heap[k]? = W3.heap[k]? := fun k hk => Below.heap_setCell _ _ _ _ hk
  have kz : ∀ u : Ye, ByV W2 (fun b => w6.heap.size ≤ b ∧ v.ownBlock ≠ some b) u.pc.p u.pc.c u.pc.b → ByV (W3.setCell ⟨w.heap.size + 1 + 1, 0, none⟩ v3) (fun b => w6.heap.size ≤ b ∧ v3.ownBlock ≠ some b) u.pc.p u.pc.c u.pc.b := fun u hu => by
    have h1 : ByV W2 (fun b => (w6.heap.size ≤ b ∧ v.ownBlock ≠ some b) ∧ b < W2.heap.size) u.pc.p u.pc.c u.pc.b := hu.mono (fun g hg hlt => ⟨hg, hlt⟩)
    refine (h1.keep (fun g hg hlt => (st g (by omega)).trans (low g hlt hg.1.2))).mono (fun g hg _ => ⟨hg.1.1, fun e => ?_⟩)
    rcases hv3 with e3 | e3
    · exact hg.1.2 (e3 ▸ e)
    · rw [e3] at e
      injection e with e
      omega
  refine ⟨kx_other (kx_block h.r0 (low _ (kx_lt h.r0) (hob _ (by omega)))) (by omega) _, kx_other (kx_block h.r1 (low _ (kx_lt h.r1) (hob _ (by omega)))) (by omega) _, kx_set (kx_block h.r2 (low _ (kx_lt h.r2) (hob _ (by omega)))) _, ?_, ?_, ?_, ?_, ?_⟩
  · rw [List.length_append, List.map_append]
    exact owns_keep o3 (fun g hg => st g (by have := (owns_lt o3 hg).1; omega))
  · intro u hu
    rcases List.mem_append.1 hu with hu | hu
    · exact ⟨(h.at_ u hu).1, kz u (h.at_ u hu).2⟩
    · simp at hu
      subst hu
      exact ⟨hk, kz u hy⟩
  · have hl := h.low.size
    exact h.low.trans ⟨gr.os, gr.tape, gr.output, by show _ ≤ (W3.heap.modify _ _).size; rw [Array.size_modify]; omega, fun k hk => (st k (by omega)).trans (low k (by omega) (hob k (by omega)))⟩
  · show _ ≤ (W3.heap.modify _ _).size
    rw [Array.size_modify]
    omega
  · intro k h1 h2
    exact (st k (by omega)).trans ((low k (by omega) (hob k h2)).trans (h.mid k h1 h2))
end Go.Proofs.YtnckmcmobkpdcaaDoor
/-
  The code's List.
-/
namespace Go.Proofs.YtnckmcmobkpdcaaDoor
open Go.Shelf Go.RowKit
set_option linter.unusedVariables false
set_option linter.unusedSimpArgs false
attribute [local go_sem] Oper.semAt_some

theorem seqD_mem {bs : Bs} {x : UInt8 × Bs} {k : Nat} (h : (x, k) ∈ seqD bs) (hk : k ≠ 0) : (pcsD bs).2 = k := by
  unfold seqD at h
  rcases List.mem_append.1 h with h | h
  · simp at h
    omega
  · by_cases h0 : (pcsD bs).2 = 0
    · rw [if_pos h0] at h; simp at h
    · rw [if_neg h0] at h
      simp at h
      exact h.2.symm
theorem seqD_whole {bs : Bs} {xs : List Ye} (h : yOf xs = seqD bs) (h0 : ∀ y ∈ xs, y.k = 0) : (pcsD bs).2 = 0 ∧ pcsOf (xs.map Ye.pc) = (pcsD bs).1 := by
  have hz : (pcsD bs).2 = 0 := by
    rcases Nat.eq_zero_or_pos (pcsD bs).2 with h1 | h1
    · exact h1
    · have hm : (((0 : UInt8), ([] : Bs)), (pcsD bs).2) ∈ yOf xs := by
        rw [h]
        unfold seqD
        rw [if_neg (by omega)]
        simp
      unfold yOf at hm
      obtain ⟨y, hy, e⟩ := List.mem_map.1 hm
      have := h0 y hy
      injection e with e1 e2
      omega
  refine ⟨hz, ?_⟩
  unfold seqD at h
  rw [if_pos hz, List.append_nil] at h
  have h2 := congrArg (List.map Prod.fst) h
  simp only [yOf, List.map_map] at h2
  have e1 : ((fun x : (UInt8 × Bs) × Nat => x.1) ∘ fun x : UInt8 × Bs => (x, 0)) = id := rfl
  rw [show (Prod.fst ∘ fun x : UInt8 × Bs => (x, (0 : Nat))) = id from rfl, List.map_id] at h2
  rw [← h2]
  simp [pcsOf]
/-- Between two rounds. -/
def LI (w w6 : World) (pre : List Ye) (W : World) : Prop := ∃ v, LIv w w6 pre v W
/-- A round has left. -/
def LIx (w w6 : World) (c : Code) (pre : List Ye) (W : World) : Prop := c = .ret ∧ Kx W w.heap.size (.slice none 0 0) ∧ (∃ q y, pre = q ++ [y] ∧ y.k ≠ 0 ∧ Kx W (w.heap.size + 1) (.int .i64 (y.k : Int))) ∧ Below w.heap.size w W
end Go.Proofs.YtnckmcmobkpdcaaDoor
/-
  The document's Same and Write.
-/
namespace Go.Proofs.YtnckmcmobkpdcaaDoor
open Go.Shelf Go.RowKit
set_option linter.unusedVariables false
set_option linter.unusedSimpArgs false
theorem bat_cells (W : World) (l : Bs) (cs : Array Value) (n : Nat) (hc : u8sC l = cs) (hn : l.length = n) (hl : n ≤ 1000) : BAt (W.alloc (.cells cs 5)) (some ⟨W.heap.size, 0, none⟩) n l := by
  subst hc hn
  exact (byv_lit W l hl).lies
theorem u8_of_mod (n : Nat) : ((UInt8.ofNat n).toNat : Int) = (n : Int) % 256 := by rw [UInt8.toNat_ofNat']; omega
set_option maxRecDepth 100000 in
set_option maxHeartbeats 4000000 in
/-- Write. -/
theorem rWrite_any (t : Nat) (ht : t < 256) (p : Option Addr) (n c : Nat) (l : Bs) (w : World) (hl : l.length = n) (h : BAt w p n l) (hn : n < 65536) :
    Calls Tryd.prog 17 #[.int .u8 (t : Int), .slice p n c] w fun e w' => Below w.heap.size w w' ∧ ∃ v, e = .returned v ∧ w'.ownsRow w.heap.size 5 1 v (1 + (headD n).length + n) (Lib.byteCells (UInt8.ofNat t :: (headD n ++ l))) := by
  have hOA := owns_lit1 w w.heap.size t ht (Nat.le_refl _)
  have b1 : Below w.heap.size w (w.alloc (.cells #[.int .u8 (t : Int)] 5)) := (Below.refl _ _).alloc (Nat.le_refl _) _
  generalize hA1 : w.alloc (.cells #[.int .u8 (t : Int)] 5) = A1 at hOA b1
  have HA : Hid (Below w.heap.size w A1 ∧ A1.ownsRow w.heap.size 5 1 (.slice (some ⟨w.heap.size, 0, none⟩) 1 1) 1 (Lib.byteCells [UInt8.ofNat t])) := ⟨b1, hOA⟩
  have HH : Hid (BAt w p n l ∧ l.length = n) := ⟨h, hl⟩
  clear hOA b1 h hl
  by_cases q1 : n < 128
  · have q1I : (n : Int) < 128 := by omega
    have hh : headD n = [UInt8.ofNat n] := by unfold headD; rw [if_pos q1]
    rw [hh]
    go_enter Tryd.func17, Tryd.ntmps17
    go_wp2_with (at_builtin; first
      | (refine wpList_append_wt rfl (.tmp 23) (.tmp 26) rfl w.heap.size (.slice (some ⟨w.heap.size, 0, none⟩) 1 1) rfl [UInt8.ofNat t] 1 rfl (HA.out.2.alloc _) (some ⟨A1.heap.size, 0, none⟩) 1 1 [UInt8.ofNat n] rfl rfl (bat_lit _ _ _ (by rw [UInt8.toNat_ofNat']; omega)) (by omega) (Nat.le_trans HA.out.1.size (alloc_le _ _)) ?_; intro v1 w2 o1 gr1 _; obtain ⟨p2, c2, rfl⟩ := owns_slice o1; have HB2 : Hid (Below w.heap.size w w2 ∧ w2.ownsRow w.heap.size 5 1 (.slice p2 2 c2) 2 (Lib.byteCells ([UInt8.ofNat t] ++ [UInt8.ofNat n]))) := ⟨below_grownT (HA.out.1.alloc HA.out.1.size _) (Nat.le_refl _) (HA.out.2.alloc _) gr1, o1⟩; clear o1 gr1)
      | (refine wpList_append_wt rfl (.tmp 36) (.tmp 37) rfl w.heap.size (.slice p2 2 c2) rfl ([UInt8.ofNat t] ++ [UInt8.ofNat n]) 2 rfl HB2.out.2 p n c l HH.out.2 rfl (HH.out.1.below HB2.out.1) (by omega) HB2.out.1.size ?_; intro v3 w3 o3 gr3 _; have HB3 : Hid (Below w.heap.size w w3 ∧ w3.ownsRow w.heap.size 5 1 v3 (2 + n) (Lib.byteCells ([UInt8.ofNat t] ++ [UInt8.ofNat n] ++ l))) := ⟨below_grownT HB2.out.1 (Nat.le_refl _) HB2.out.2 gr3, o3⟩; clear o3 gr3))
    go_ret
    exact ⟨HB3.out.1, v3, rfl, HB3.out.2⟩
  have q1I : ¬ (n : Int) < 128 := by omega
  by_cases q2 : n < 256
  · have q2I : (n : Int) < 256 := by omega
    have hh : headD n = [129, UInt8.ofNat n] := by unfold headD; rw [if_neg q1, if_pos q2]
    rw [hh]
    go_enter Tryd.func17, Tryd.ntmps17
    go_wp2_with (at_builtin; first
      | (refine wpList_append_wt rfl (.tmp 31) (.tmp 34) rfl w.heap.size (.slice (some ⟨w.heap.size, 0, none⟩) 1 1) rfl [UInt8.ofNat t] 1 rfl (HA.out.2.alloc _) (some ⟨A1.heap.size, 0, none⟩) 2 2 [129, UInt8.ofNat n] rfl rfl (bat_cells _ _ _ _ (by show #[_, Value.int .u8 ((UInt8.ofNat n).toNat : Int)] = _; rw [u8_of_mod, show (n : Int) % 256 = (n : Int) by omega]; rfl) rfl (by omega)) (by omega) (Nat.le_trans HA.out.1.size (alloc_le _ _)) ?_; intro v1 w2 o1 gr1 _; obtain ⟨p2, c2, rfl⟩ := owns_slice o1; have HB2 : Hid (Below w.heap.size w w2 ∧ w2.ownsRow w.heap.size 5 1 (.slice p2 3 c2) 3 (Lib.byteCells ([UInt8.ofNat t] ++ [129, UInt8.ofNat n]))) := ⟨below_grownT (HA.out.1.alloc HA.out.1.size _) (Nat.le_refl _) (HA.out.2.alloc _) gr1, o1⟩; clear o1 gr1)
      | (refine wpList_append_wt rfl (.tmp 36) (.tmp 37) rfl w.heap.size (.slice p2 3 c2) rfl ([UInt8.ofNat t] ++ [129, UInt8.ofNat n]) 3 rfl HB2.out.2 p n c l HH.out.2 rfl (HH.out.1.below HB2.out.1) (by omega) HB2.out.1.size ?_; intro v3 w3 o3 gr3 _; have HB3 : Hid (Below w.heap.size w w3 ∧ w3.ownsRow w.heap.size 5 1 v3 (3 + n) (Lib.byteCells ([UInt8.ofNat t] ++ [129, UInt8.ofNat n] ++ l))) := ⟨below_grownT HB2.out.1 (Nat.le_refl _) HB2.out.2 gr3, o3⟩; clear o3 gr3))
    go_ret
    exact ⟨HB3.out.1, v3, rfl, HB3.out.2⟩
  have q2I : ¬ (n : Int) < 256 := by omega
  have hh : headD n = [130, UInt8.ofNat (n / 256), UInt8.ofNat n] := by unfold headD; rw [if_neg q1, if_neg q2]
  rw [hh]
  go_enter Tryd.func17, Tryd.ntmps17
  go_wp2_with (at_builtin; first
    | (refine wpList_append_wt rfl (.tmp 11) (.tmp 18) rfl w.heap.size (.slice (some ⟨w.heap.size, 0, none⟩) 1 1) rfl [UInt8.ofNat t] 1 rfl (HA.out.2.alloc _) (some ⟨A1.heap.size, 0, none⟩) 3 3 [130, UInt8.ofNat (n / 256), UInt8.ofNat n] rfl rfl (bat_cells _ _ _ _ (by show #[_, Value.int .u8 ((UInt8.ofNat (n / 256)).toNat : Int), Value.int .u8 ((UInt8.ofNat n).toNat : Int)] = _; rw [u8_of_mod, u8_of_mod, show ((n / 256 : Nat) : Int) % 256 = (n : Int) / 256 by omega]; rfl) rfl (by omega)) (by omega) (Nat.le_trans HA.out.1.size (alloc_le _ _)) ?_; intro v1 w2 o1 gr1 _; obtain ⟨p2, c2, rfl⟩ := owns_slice o1; have HB2 : Hid (Below w.heap.size w w2 ∧ w2.ownsRow w.heap.size 5 1 (.slice p2 4 c2) 4 (Lib.byteCells ([UInt8.ofNat t] ++ [130, UInt8.ofNat (n / 256), UInt8.ofNat n]))) := ⟨below_grownT (HA.out.1.alloc HA.out.1.size _) (Nat.le_refl _) (HA.out.2.alloc _) gr1, o1⟩; clear o1 gr1)
    | (refine wpList_append_wt rfl (.tmp 36) (.tmp 37) rfl w.heap.size (.slice p2 4 c2) rfl ([UInt8.ofNat t] ++ [130, UInt8.ofNat (n / 256), UInt8.ofNat n]) 4 rfl HB2.out.2 p n c l HH.out.2 rfl (HH.out.1.below HB2.out.1) (by omega) HB2.out.1.size ?_; intro v3 w3 o3 gr3 _; have HB3 : Hid (Below w.heap.size w w3 ∧ w3.ownsRow w.heap.size 5 1 v3 (4 + n) (Lib.byteCells ([UInt8.ofNat t] ++ [130, UInt8.ofNat (n / 256), UInt8.ofNat n] ++ l))) := ⟨below_grownT HB2.out.1 (Nat.le_refl _) HB2.out.2 gr3, o3⟩; clear o3 gr3))
  go_ret
  exact ⟨HB3.out.1, v3, rfl, HB3.out.2⟩
end Go.Proofs.YtnckmcmobkpdcaaDoor
/-
  The document's SameLists, of the same pieces.
-/
namespace Go.Proofs.YtnckmcmobkpdcaaDoor
open Go.Shelf Go.RowKit
set_option linter.unusedVariables false
set_option linter.unusedSimpArgs false

theorem cellsP_get : ∀ (l : List Pc) (j : Nat) (x : Pc), l[j]? = some x → (cellsP l)[j * 2]? = some (.int .u8 (x.t.toNat : Int)) ∧ (cellsP l)[j * 2 + 1]? = some (.slice x.p x.b.length x.c)
  | [], j, x, h => by simp at h
  | y :: l, 0, x, h => by
    simp at h
    subst h
    exact ⟨rfl, rfl⟩
  | y :: l, j + 1, x, h => by
    have := cellsP_get l j x (by simpa using h)
    rw [show cellsP (y :: l) = Pc.cells y ++ cellsP l from rfl]
    have hl : (Pc.cells y).length = 2 := rfl
    rw [List.getElem?_append_right (by rw [hl]; omega), List.getElem?_append_right (by rw [hl]; omega), hl, show (j + 1) * 2 - 2 = j * 2 by omega, show (j + 1) * 2 + 1 - 2 = j * 2 + 1 by omega]
    exact this
theorem own_pc {w : World} {B g m cap : Nat} {l : List Pc} (h : w.ownsRow B 24 2 (.slice (some ⟨g, 0, none⟩) m cap) m (cellsP l)) (hl : l.length = m) (j : Nat) (x : Pc) (hx : l[j]? = some x) : w.cell? ⟨g, j * 2, none⟩ = some (.int .u8 (x.t.toNat : Int)) ∧ w.cell? ⟨g, j * 2 + 1, none⟩ = some (.slice x.p x.b.length x.c) := by
  have hj : j < l.length := (List.getElem?_eq_some_iff.1 hx).1
  obtain ⟨h1, h2⟩ := cellsP_get l j x hx
  exact ⟨by rw [owns_cell h (j * 2) (by omega), h1], by rw [owns_cell h (j * 2 + 1) (by omega), h2]⟩
end Go.Proofs.YtnckmcmobkpdcaaDoor
/-
  The code's Seq; DerReads.
-/
namespace Go.Proofs.YtnckmcmobkpdcaaDoor
open Go.Shelf Go.RowKit
set_option linter.unusedVariables false
set_option linter.unusedSimpArgs false

theorem own_nil0 (w : World) : (w.alloc (.cells #[] 5)).ownsRow w.heap.size 5 1 (.slice (some ⟨w.heap.size, 0, none⟩) 0 0) 0 (Lib.byteCells []) := World.ownsRow_lit w #[] 0 (Nat.le_refl _) (Nat.zero_le _) (by simp)
theorem Pcs.mono {w : World} {B B' : Nat} {P Q : Nat → Prop} {v : Value} {l : List Pc} (h : Pcs w B P v l) (hB : B' ≤ B) (hPQ : ∀ g, P g → g < w.heap.size → Q g) : Pcs w B' Q v l :=
  ⟨⟨h.own.1, by
    rcases h.own.2 with h1 | ⟨g1, cap, cur, e1, h1, h2⟩
    · exact .inl h1
    · exact .inr ⟨g1, cap, cur, e1, by omega, h2⟩⟩, fun x hx => (h.at_ x hx).mono hPQ⟩
theorem Pcs.below {w w' : World} {B : Nat} {P : Nat → Prop} {v : Value} {l : List Pc} (h : Pcs w B P v l) (hb : Below w.heap.size w w') : Pcs w' B P v l :=
  ⟨owns_keep h.own (fun g hg => hb.block g (owns_lt h.own hg).2.1), fun x hx => (h.at_ x hx).keep (fun g _ hlt => hb.block g hlt)⟩
theorem ByV.below {w w' : World} {P : Nat → Prop} {p : Option Addr} {c : Nat} {l : Bs} (h : ByV w P p c l) (hb : Below w.heap.size w w') : ByV w' P p c l := h.keep (fun g _ hlt => hb.block g hlt)
/-- The pieces of a sequence, or the first fault. -/
def sqD (bs : Bs) : List (UInt8 × Bs) × Nat := match readD bs with
  | .error k => ([], k)
  | .ok ((t, b), r) => if t.toNat ≠ 48 ∨ 0 < r.length then ([], 30) else pcsD b
/-- What is answered, as one form. -/
def okP (R : List (UInt8 × Bs) × Nat) : List (UInt8 × Bs) := if R.2 = 0 then R.1 else []
theorem LsPost.uni {w w' : World} {P : World → Nat → Prop} {R : List (UInt8 × Bs) × Nat} {e : Ending} (h : LsPost w P R e w') : Below w.heap.size w w' ∧ ∃ l v, e = .returned (.tuple #[v, .int .i64 (R.2 : Int)]) ∧ pcsOf l = okP R ∧ Pcs w' w.heap.size (P w) v l ∧ (R.2 ≠ 0 → v = .slice none 0 0) := by
  obtain ⟨hb, (⟨h1, he⟩ | ⟨h1, l, v, h2, he, h3⟩)⟩ := h
  · exact ⟨hb, [], .slice none 0 0, he, by unfold okP; rw [if_neg h1]; rfl, ⟨World.ownsRow_nil _ _ _ _, fun x hx => by cases hx⟩, fun _ => rfl⟩
  · exact ⟨hb, l, v, by rw [h1]; exact he, by unfold okP; rw [if_pos h1]; exact h2, h3, fun h => absurd h1 h⟩
def spT : Except Nat ((UInt8 × Bs) × Bs) → Nat
  | .error _ => 0
  | .ok ((t, _), _) => t.toNat
def spB : Except Nat ((UInt8 × Bs) × Bs) → Bs
  | .error _ => []
  | .ok ((_, b), _) => b
def spR : Except Nat ((UInt8 × Bs) × Bs) → Bs
  | .error _ => []
  | .ok (_, r) => r
def spK : Except Nat ((UInt8 × Bs) × Bs) → Nat
  | .error k => k
  | .ok _ => 0
theorem SpPost.uni {w w' : World} {P : World → Nat → Prop} {R : Except Nat ((UInt8 × Bs) × Bs)} {e : Ending} (h : SpPost w P R e w') : Below w.heap.size w w' ∧ ∃ p1 c1 p2 c2, e = .returned (.tuple #[.agg #[.int .u8 (spT R : Int), .slice p1 (spB R).length c1], .slice p2 (spR R).length c2, .int .i64 (spK R : Int)]) ∧ ByV w' (P w) p1 c1 (spB R) ∧ ByV w' (P w) p2 c2 (spR R) := by
  obtain ⟨hb, (⟨t, b, r, p1, c1, p2, c2, rfl, he, h1, h2⟩ | ⟨k, rfl, he⟩)⟩ := h
  · exact ⟨hb, p1, c1, p2, c2, he, h1, h2⟩
  · exact ⟨hb, none, 0, none, 0, he, ByV.nil _ _, ByV.nil _ _⟩
end Go.Proofs.YtnckmcmobkpdcaaDoor
/-
  Pieces in a row.
-/
namespace Go.Proofs.YtnckmcmobkpdcaaDoor
open Go.Shelf Go.RowKit
set_option linter.unusedVariables false
/-- A piece in a row of them. -/
def PieceAt (w : World) (g i : Nat) : Prop := ∃ (T : Nat) (p : Option Addr) (n c : Nat) (l : Bs), w.cell? ⟨g, i * 2, none⟩ = some (.int .u8 (T : Int)) ∧ w.cell? ⟨g, i * 2 + 1, none⟩ = some (.slice p n c) ∧ T < 256 ∧ l.length = n ∧ n ≤ 1001 ∧ ByV w (fun b => b < w.heap.size) p c l
theorem PieceAt.below {w w' : World} {g i : Nat} (h : PieceAt w g i) (hb : Below w.heap.size w w') : PieceAt w' g i := by
  obtain ⟨T, p, n, c, l, h1, h2, h3, h4, h5, h6⟩ := h
  exact ⟨T, p, n, c, l, (hb.cell (World.block_lt_of_cell? w _ h1)).trans h1, (hb.cell (World.block_lt_of_cell? w _ h2)).trans h2, h3, h4, h5, (h6.below hb).mono (fun b hlt _ => Nat.lt_of_lt_of_le hlt hb.size)⟩
end Go.Proofs.YtnckmcmobkpdcaaDoor
/-
  append(b, make([]byte, n)...) onto bytes of the call's own; a piece that came in.
-/
namespace Go.Proofs.YtnckmcmobkpdcaaDoor
open Go.RowKit Go.ChangeShapes Go.WideShapes
set_option linter.unusedVariables false
set_option linter.unusedSimpArgs false

theorem zeroCells_u8 (m : Nat) : Builtin.zeroCells #[Value.int .u8 0] m = (Lib.byteCells (List.replicate m 0)).toArray := by
  unfold Builtin.zeroCells Lib.byteCells
  apply Array.ext'
  simp [Array.toList_map, Nat.mod_one]
  apply List.ext_getElem?
  intro i
  simp [List.getElem?_range, List.getElem?_replicate]
  by_cases h : i < m <;> simp [h]
theorem underInt : Tryd.prog.underlying 3 = some (.int .i64) := by kernel_rfl
/-- Zeros appended to bytes of the call's own. -/
theorem run_append_zeros {w : World} (base : Nat) (ty : TypeId) (g n cap : Nat) (old : Bs) (hown : w.ownsRow base 5 1 (.slice (some ⟨g, 0, none⟩) n cap) n (Lib.byteCells old)) (m : Nat) (hlen : n + m ≤ 10000000) (hbase : base ≤ w.heap.size) :
    ∃ v' w', (Builtin.append_ #[22, 3] ty #[.slice (some ⟨g, 0, none⟩) n cap, .int .i64 (m : Int)]).run Tryd.prog w = .ok v' w' ∧ w'.ownsRow base 5 1 v' (n + m) (Lib.byteCells (old ++ List.replicate m 0)) ∧ w.grownBy w' (some g) ∧ (v'.ownBlock = some g ∨ v'.ownBlock = some w.heap.size) := by
  obtain ⟨i0, hi0, hz0, hz1, hz2⟩ := info_parts infoU8
  rcases hown.2 with ⟨e, _⟩ | ⟨g', cap', cur, e, hbg, hg, hnc, hcm, hcs, htake⟩
  · cases e
  cases e
  have hlo : (Lib.byteCells old).length = n := by have := hown.1; omega
  have hwr : IntKind.i64.wrap (m : Int) = (m : Int) := by
    have : (m : Int) < 9223372036854775807 := by omega
    exact IntWalk.i64_in _ (by omega)
  have hai : ∀ W, (asInt (Value.int .i64 (m : Int))).run Tryd.prog W = .ok (m : Int) W := fun _ => rfl
  have hneg : ¬ ((m : Int) < 0) := by omega
  have hbig : ¬ (281474976710656 < (m : Int)) := by omega
  have hw0 : IntKind.i64.wrap 0 = 0 := by kernel_rfl
  have hone : ∀ u ∈ Lib.byteCells (List.replicate m 0), u.oneCell' = true := by intro u hu; simp only [Lib.byteCells, List.mem_map] at hu; obtain ⟨x, _, rfl⟩ := hu; rfl
  have hml : (Lib.byteCells (List.replicate m 0)).length = m := by simp [Lib.byteCells]
  have hcs1 : cur.size = cap := by omega
  have hzc : Builtin.zeroCells (Value.int .u8 0).cells m = (Lib.byteCells (List.replicate m 0)).toArray := zeroCells_u8 m
  have hcat : Lib.byteCells (old ++ List.replicate m 0) = Lib.byteCells old ++ Lib.byteCells (List.replicate m 0) := (byteCells_app _ _).symm
  have htk : cur.toList.take n = Lib.byteCells old := by rw [Nat.mul_one] at htake; exact htake
  by_cases hroom : n + m ≤ cap
  · have hst := run_storeCells_at Tryd.prog g n 5 (Lib.byteCells (List.replicate m 0)) 0 cur w hg (by rw [hml, hcs1]; omega) hone
    simp only [Nat.add_zero] at hst
    refine ⟨.slice (some ⟨g, 0, none⟩) (n + m) cap, w.setRow g (cur.toList.take n ++ Lib.byteCells (List.replicate m 0) ++ cur.toList.drop (n + (Lib.byteCells (List.replicate m 0)).length)).toArray, ?_, ?_, ?_, .inl rfl⟩
    · by_cases hm0 : m = 0
      · subst hm0
        have hroom' : n ≤ cap := by omega
        simp [Builtin.append_, run_underlying Tryd.underlying22, run_underlying underInt, sizeOf, typeInfo, hi0, hz1, hz2, hroom, storeCells]
        rw [show (0 : Int) = ((0 : Nat) : Int) from rfl, hai]
        simp [Result.andThen, hw0, hroom']
        have h9 := hst
        simp [Lib.byteCells, storeCells] at h9
        simp [Lib.byteCells]
        exact h9
      · simp [Builtin.append_, run_underlying Tryd.underlying22, run_underlying underInt, sizeOf, typeInfo, zeroValue, hi0, hz0, hz1, hz2, hai, hwr, hneg, hbig, hroom, hm0, hzc, Addr.add_lit, hst]
    · refine ⟨by rw [hcat, List.length_append, hlo, hml, Nat.mul_one], .inr ⟨g, cap, _, rfl, hbg, setRow_heap w g cur _ _ _ hg, hroom, hcm, ?_, ?_⟩⟩
      · simp only [List.size_toArray, List.length_append, List.length_take, List.length_drop, Array.length_toList, hml]
        omega
      · rw [hcat, htk, Nat.mul_one]
        have : (Lib.byteCells old ++ Lib.byteCells (List.replicate m 0)).length = n + m := by rw [List.length_append, hlo, hml]
        rw [← this]
        exact List.take_left
    · exact ⟨rfl, rfl, rfl, by simp, fun k _ hk => setRow_other w g k _ (fun e => hk (by rw [e]))⟩
  · have hm0 : m ≠ 0 := by omega
    have hn' : ¬ (n + m ≤ cap) := hroom
    have h63' : ¬ (9223372036854775807 < ((n : Int) + (m : Int))) := by omega
    have hfit : Builtin.nextslicecap (n + m) cap * 1 ≤ 281474976710656 := growslice_fits (by omega) (by omega)
    have h48' : ¬ (281474976710656 < Builtin.nextslicecap (n + m) cap) := by omega
    have holds : ∀ j u, (Lib.byteCells old)[j]? = some u → w.drew.cell? ((⟨g, 0, none⟩ : Addr).add j) = some u := by
      intro j u hj
      have := hown.cells (g := g) rfl j u hj
      simpa using this
    have hfo := run_firstCells_some (P := Tryd.prog) w.drew 1 n ⟨g, 0, none⟩ n cap (Lib.byteCells old) (by rw [hlo, Nat.mul_one]) holds
    refine ⟨.slice (some ⟨w.heap.size, 0, none⟩) (n + m) (grownCap w (n + m) cap 5), w.drew.alloc (.cells ((Lib.byteCells old).toArray ++ (Lib.byteCells (List.replicate m 0)).toArray ++ Builtin.zeroCells (Value.int .u8 0).cells (grownCap w (n + m) cap 5 - (n + m))) 5), ?_, ?_, ?_, .inr rfl⟩
    · simp [Builtin.append_, run_underlying Tryd.underlying22, run_underlying underInt, sizeOf, typeInfo, zeroValue, hi0, hz0, hz1, hz2, hai, hwr, hneg, hbig, hn', hm0, hzc, h63', h48', Question.forced, hfo, newRow, grownCap]
      have ee : ∀ Z : Array Value, (Lib.byteCells old).toArray ++ ((Lib.byteCells (List.replicate m 0)).toArray ++ Z) = (Lib.byteCells old ++ Lib.byteCells (List.replicate m 0)).toArray ++ Z := fun Z => by apply Array.ext'; simp
      rw [ee]
    · have hge := grownCap_ge w (n + m) cap 5
      have hcm2 : grownCap w (n + m) cap 5 ≤ maxLen := grownCap_le_maxLen w (n + m) cap 5 (by unfold maxLen; omega)
      refine ⟨by rw [hcat, List.length_append, hlo, hml, Nat.mul_one], .inr ⟨w.heap.size, _, _, rfl, hbase, heap_alloc_new w.drew _, hge, hcm2, ?_, ?_⟩⟩
      · simp only [Array.size_append, List.size_toArray, size_zeroCells, hlo, hml]
        show n + m + (grownCap w (n + m) cap 5 - (n + m)) * 1 = _
        omega
      · rw [hcat, Nat.mul_one]
        have : (Lib.byteCells old ++ Lib.byteCells (List.replicate m 0)).length = n + m := by rw [List.length_append, hlo, hml]
        simp only [Array.toList_append, List.append_assoc]
        rw [← List.append_assoc, ← this]
        exact List.take_left
    · exact ⟨rfl, rfl, rfl, by simp, fun k hk _ => Below.heap_alloc w.drew _ k hk⟩
theorem tlvFields : ∃ f0 f1 : Field, Tryd.prog.underlying 24 = some (.struct #[f0, f1]) ∧ f0.offset = 0 ∧ f1.offset = 1 ∧ f0.type = 5 ∧ f1.type = 22 := ⟨_, _, Tryd.underlying24, rfl, rfl, rfl, rfl⟩
/-- A piece that came in. -/
theorem open_tlv {H : Type} {enc : TypeId × Value → H} {w : World} {held : Bool} {fuel : Nat} {cs : Array Value} {x : DataW H × List MemPlace} (h : DataW.trod enc Tryd.prog w 0 (fun _ => true) held fuel 24 cs.toList = some x) :
    ∃ (t : Int) (a1 : Option Addr) (l1 c1 : Nat) (z1 : List Int), cs = #[.int .u8 t, .slice a1 l1 c1] ∧ (0 ≤ t ∧ t < 256) ∧ CameJ .u8 w a1 l1 c1 z1 := by
  obtain ⟨f0, f1, hu, o0, o1, t0, t1⟩ := tlvFields
  have hc : Tryd.prog.cellsOf 5 = 1 := by kernel_rfl
  have hc1 : Tryd.prog.cellsOf 22 = 1 := by kernel_rfl
  have hc2 : Tryd.prog.cellsOf 24 = 2 := by kernel_rfl
  obtain ⟨y0, y1, n, _, hl, g0, g1⟩ := trod_struct2 hu h
  rw [hc2] at hl
  rw [o0, t0, hc] at g0
  rw [o1, t1, hc1] at g1
  obtain ⟨v0, v1, hcs⟩ : ∃ v0 v1, cs.toList = [v0, v1] := by
    match hh : cs.toList, hl with
    | [v0, v1], _ => exact ⟨v0, v1, rfl⟩
  rw [hcs] at g0 g1
  simp only [List.drop_zero, List.drop_succ_cons, List.take_succ_cons, List.take_zero] at g0 g1
  obtain ⟨t, rfl, ht⟩ : ∃ t, v0 = .int .u8 t ∧ (0 ≤ t ∧ t < 256) := by
    obtain ⟨z, e0, _, hz⟩ := DataW.trod_int (k := .u8) Tryd.underlying5 g0
    cases e0
    exact ⟨z, rfl, byte_wf hz⟩
  obtain ⟨a1, l1, c1, z1, rfl, w1⟩ : ∃ a l c z, v1 = .slice a l c ∧ CameJ .u8 w a l c z := by
    rcases open_ints Tryd.underlying22 Tryd.underlying5 (by kernel_rfl) g1 with ⟨hcs, _⟩ | ⟨x, l, c, zs, hcs, _, hl, hm, hz, _, hcell, hwz⟩
    · cases hcs
      exact ⟨none, 0, 0, [], rfl, .inl ⟨rfl, rfl, rfl, rfl⟩⟩
    · cases hcs
      exact ⟨_, _, _, zs, rfl, .inr ⟨_, rfl, hl, hm, by simpa using hz, hcell, hwz⟩⟩
  exact ⟨t, a1, l1, c1, z1, Array.ext' hcs, ht, w1⟩
end Go.Proofs.YtnckmcmobkpdcaaDoor
