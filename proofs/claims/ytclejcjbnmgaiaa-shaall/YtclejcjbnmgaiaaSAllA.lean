/-
  sha.All over an iterator of either kind.
-/
import Derived.Test.YtclejcjbnmgaiaaSAllI
import Derived.RecoverIn
namespace Go.Proofs.Ytclejcjbnmgaiaa
open Go.RowKit Go.Shelf
set_option linter.unusedVariables false
set_option linter.unusedSimpArgs false
attribute [local go_sem] Oper.semAt_some
attribute [local go_sem ↓] keep_l8 keep_l64 keep_s8 keep_l32 keep_s32

/-- The deferred function of sha.All, where nothing panics. -/
theorem all_door (n : Nat) (p : Addr) (w : World) :
    CallsDIn Fence.wide n Try.prog 20 #[.pointer (some p)] .returning w fun e u' w' => e = .returned (.tuple #[]) ∧ u' = .returning ∧ w' = w := by
  refine callsDIn_of_wpSIn Try.func20 rfl trivial fun c₀ cs hu => ?_
  apply wpSIn_seq
  apply wpSIn_region
  simp [wpOpsSIn, go_sem, recoverD, hu, Try.ntmps20, Exit.thenS]
  refine wpSIn_cond (t := false) (by simp [Act.eval, Array.replicate]) ?_
  simp only [Bool.false_eq_true, if_false]
  refine wpSIn_of_wpIn rfl (wpIn_skip ?_)
  cases c₀
  simp_all [bodyPostS, results, Try.results20]

theorem Row.sta32 {w : World} {g : Nat} {old : List Int} (h : Row 24 .u8 w g old) (ho : old.length = 32) (vs : List Int) (hv : vs.length = 32) : (HST 24 (.pointer (some ⟨g, 0, none⟩)) (ag .u8 vs)).run Try.prog w = .ok () (w.setRow g ((vs.map (Value.int .u8)).toArray)) := by
  unfold HST ag
  simp only [Instr.storeAt, Instr.sureAddr, Sem.run_bind, Sem.run_pure, Result.andThen]
  exact run_storeVar_row _ _ _ _ _ _ h (by rw [Try.sizeB32]; simp [hv]) (by simp [ho, hv]) (ints_all _ _)

/-- One round of a range over a function that goes on. -/
theorem round_at {P : Program} {n fn D l : Nat} {ps : Array Tmp} {assign body : Code} {tmps : Array Value} {W : World} {x : Array Value} {R : World → Prop}
    (hl : W.heap[l]? = some (.loop { state := .ready, pending := none, fn := fn, tmps := tmps, params := ps, assign := assign, body := body, defers := D })) (hx : x.size = ps.size) (a1 : Act)
    (hassign : ∀ K : Act → World → Prop, K a1 W → assign.wpIn (Fence.wide.inRound l) n P (Exit.then K (fun _ _ _ => False)) { tmps := (ps.zip x).foldl (fun t (p, v) => t.setIfInBounds p v) tmps, defers := [] } W)
    (hbody : body.wpIn (Fence.wide.inRound l) n P (fun ex _ W3 => ex = .normal ∧ W3.heap[l]? = some (.loop { state := .busy, pending := none, fn := fn, tmps := tmps, params := ps, assign := assign, body := body, defers := D }) ∧
      R (W3.putObj l (.loop { state := .ready, pending := none, fn := fn, tmps := tmps, params := ps, assign := assign, body := body, defers := D }))) a1 (W.putObj l (.loop { state := .busy, pending := none, fn := fn, tmps := tmps, params := ps, assign := assign, body := body, defers := D }))) :
    YieldAt Fence.wide n P l x W fun e W' => e = .returned (.bool true) ∧ R W' := by
  refine ⟨fn, _, assign, body, run_yield hl hx, roundIn_of_wpIn trivial (hassign _ ⟨_, run_beginRound hl rfl, ?_⟩)⟩
  refine wpIn_mono hbody ?_
  rintro ex a3 W3 ⟨rfl, h3, hR⟩
  exact ⟨_, _, run_endRound none h3, rfl, hR⟩

/-- A range over a function whose rounds all go on; what the iterator does ahead of the first one is 'tw'. -/
theorem range_once {P : Program} {n : Nat} {g : Operand} {ps : Array Tmp} {assign body : Code} {Q : Exit → Act → World → Prop} {a : Act} {w : World} {gf : Nat} {lb : Array Value} (hn : 1 ≤ n)
    (hg : a.eval g = .func (.func gf) #[] lb) (eg : ∀ args w, (callFunc gf args).run P w = .ok (.enter gf args) w) (N : Nat) (E : Nat → Value) (hps : ps.size = 1) (I : Nat → World → Prop) (tw : World → World) (a1 : Nat → Act)
    (hit : ∀ (l : Nat) (r : Loop) (J : Nat → World → Prop), (∀ k W, J k W → I k W) →
      (∀ k W1, k < N → J k W1 → YieldAt Fence.wide (n - 1 - 1) P l #[E k] W1 fun e W' => e = .returned (.bool true) ∧ J (k + 1) W') → J 0 (tw ((w.alloc (.deferred (some []))).alloc (.loop r))) →
      CallsIn Fence.wide (n - 1) P gf (#[.func (.yield l) #[] #[]] ++ lb) ((w.alloc (.deferred (some []))).alloc (.loop r)) fun e W' => (∃ v, e = .returned v) ∧ J N W')
    (htw : ∀ W k o, W.heap[k]? = some o → w.heap.size ≤ k → (tw W).heap[k]? = some o)
    (hI : ∀ k W r o o', I k W → w.heap.size ≤ r → W.heap[r]? = some o → o.isCells = false → I k (W.putObj r o'))
    (h0 : ∀ r, I 0 (tw ((w.alloc (.deferred (some []))).alloc (.loop r))))
    (hassign : ∀ (l k : Nat) (W : World) (K : Act → World → Prop), K (a1 k) W → assign.wpIn (Fence.wide.inRound l) (n - 1 - 1) P (Exit.then K (fun _ _ _ => False)) { tmps := (ps.zip #[E k]).foldl (fun t (p, v) => t.setIfInBounds p v) a.tmps, defers := [] } W)
    (hbody : ∀ (l k : Nat) (W : World), k < N → I k W → body.wpIn (Fence.wide.inRound l) (n - 1 - 1) P (fun ex _ W' => ex = .normal ∧ KeepsOthers W W' ∧ I (k + 1) W') (a1 k) W)
    (hdone : ∀ (D : Nat) (W : World), w.heap.size ≤ D → I N W → W.heap[D]? = some (.deferred (some [])) → Q .normal { a with defers := { target := .collected D, args := #[] } :: a.defers } W) :
    (Code.rangeFunc g ps assign body).wpIn Fence.wide n P Q a w := by
  refine wpIn_rangeFunc ?_
  intro fn _
  obtain ⟨st, hst⟩ : ∃ st : LoopState → Loop, st = fun s => { state := s, pending := none, fn := fn, tmps := a.tmps, params := ps, assign := assign, body := body, defers := w.heap.size } := ⟨_, rfl⟩
  have hd1 : ((w.alloc (.deferred (some []))).alloc (.loop (st .ready))).heap[w.heap.size]? = some (.deferred (some [])) := (Below.heap_alloc _ _ _ (by simp)).trans (World.alloc_heap_new w _)
  have hl1 : ((w.alloc (.deferred (some []))).alloc (.loop (st .ready))).heap[w.heap.size + 1]? = some (.loop (st .ready)) := by
    have := World.alloc_heap_new (w.alloc (.deferred (some []))) (.loop (st .ready))
    rwa [World.size_alloc] at this
  refine ⟨w.heap.size + 1, [{ target := .collected w.heap.size, args := #[] }], (w.alloc (.deferred (some []))).alloc (.loop (st .ready)), { target := .fn (.func gf) lb, args := #[.func (.yield (w.heap.size + 1)) #[] #[]] }, (w.alloc (.deferred (some []))).alloc (.loop (st .ready)), gf, #[.func (.yield (w.heap.size + 1)) #[] #[]] ++ lb, (w.alloc (.deferred (some []))).alloc (.loop (st .ready)), by rw [hst]; exact run_enterLoop_outer _ _ _ _ _, by simp only [resolve, hg]; simp [go_sem], fun _ _ => trivial, by simp [invoke, go_sem, eg], fun _ => hn, ?_⟩
  refine (hit (w.heap.size + 1) (st .ready) (fun k W => I k W ∧ W.heap[w.heap.size + 1]? = some (.loop (st .ready)) ∧ W.heap[w.heap.size]? = some (.deferred (some []))) (fun _ _ h => h.1) ?_ ⟨h0 _, htw _ _ _ hl1 (by omega), htw _ _ _ hd1 (Nat.le_refl _)⟩).mono ?_
  · rintro k W hk ⟨hi, hl, hd⟩
    have hlt : w.heap.size + 1 < W.heap.size := (Array.getElem?_eq_some_iff.1 hl).1
    have hl' := hl
    rw [hst] at hl'
    refine round_at hl' (by rw [hps]; rfl) (a1 k) (hassign _ k W) ?_
    refine wpIn_mono (hbody _ k _ hk (hI k W _ _ _ hi (by omega) hl' rfl)) ?_
    rintro ex a3 W3 ⟨rfl, hko, hi3⟩
    have h3 := hko.same _ _ (World.putObj_heap_same (w := W) (o := .loop { state := .busy, pending := none, fn := fn, tmps := a.tmps, params := ps, assign := assign, body := body, defers := w.heap.size }) hlt) rfl
    have hd3 := hko.same _ _ ((World.putObj_heap_other (w := W) (r := w.heap.size + 1) (k := w.heap.size) (by omega)).trans hd) rfl
    refine ⟨rfl, h3, hI _ W3 _ _ _ hi3 (by omega) h3 rfl, ?_, (World.putObj_heap_other (by omega)).trans hd3⟩
    rw [hst]
    exact World.putObj_heap_same (Array.getElem?_eq_some_iff.1 h3).1
  · rintro e W2 ⟨⟨v, rfl⟩, hi, hl, hd⟩
    have hl' := hl
    rw [hst] at hl'
    exact ⟨none, _, run_endLoop hl' (by simp), hdone _ _ (Nat.le_refl _) (hI N W2 _ _ _ hi (by omega) hl' rfl) ((World.putObj_heap_other (by omega)).trans hd)⟩

theorem fn_not_nil_at (d : Nat) (f : Fn) (xs lb : Array Value) (w : World) : (Op.equalIn (d + 1) 34 (.func f xs lb) .nilFunc).run Try.prog w = .ok false w := by
  rw [Op.equalIn]
  simp only [Sem.run_bind, run_underlying Try.underlying34, Result.andThen_ok]
  rfl
/-- A function isn't nil. -/
theorem fn_not_nil (f : Fn) (xs lb : Array Value) (w : World) : (binOp .eql 34 (.func f xs lb) .nilFunc).run Try.prog w = .ok (.bool false) w := by
  have h := fn_not_nil_at 9999 f xs lb w
  simp only [Nat.reduceAdd] at h
  simp only [binOp]
  simp only [Op.equal, Op.maxDepth, Sem.run_bind, h, Result.andThen_ok, Sem.run_pure]

set_option maxRecDepth 100000 in
set_option maxHeartbeats 2000000 in
/-- Put of few bytes, wherever they lie. -/
theorem Put_few (g : Nat) (all bs : List Int) (ao : Option Addr) (len cap : Nat) (w : World) (h : HashAt w g all) (hd : Dg 256 bs) (hl : Lies .u8 w ao len bs) (hcm : len ≤ maxLen) (hsm : all.length + len ≤ 1000000000000000) (hfew : all.length % 64 + len < 64) :
    Calls Try.prog 10 #[.pointer (some ⟨g, 0, none⟩), .slice ao len cap] w fun e w' => (∃ v, e = .returned v) ∧ HashAt w' g (all ++ bs) ∧ But g w w' := by
  obtain ⟨ws, rs, hh, ho⟩ := h
  obtain ⟨s, hs⟩ : ∃ s, all.length = s := ⟨_, rfl⟩
  obtain ⟨r, hr⟩ : ∃ r, s % 64 = r := ⟨_, rfl⟩
  rw [hs] at hh hsm hfew
  rw [hr] at hfew
  have hsz := hh.size
  have hrI : (s : Int) % 64 = (r : Int) := by omega
  have hr64 : r < 64 := by omega
  have hbl := hl.len
  have hfI : ((len : Int) < 64 - (r : Int)) := by omega
  have hSR := slice_rest g r hr64
  have HH : Hid (HRow w g s ws rs ∧ Lies .u8 w ao len bs) := ⟨hh, hl⟩
  have HF : Hid (Holds (all ++ bs) ws (rs.take r ++ bs.take len ++ rs.drop (r + len)) ∧ all.length = s ∧ bs.length = len) := by
    have := holds_few ho hh.lr r (by rw [hs]; exact hr) (by rw [hbl]; exact hfew) hd (by rw [hs, hbl]; exact hsm)
    rw [hbl] at this
    exact ⟨this, hs, hbl⟩
  clear ho hs hr hl hh
  go_enter Try.func10, Try.ntmps10
  go_wp2_with ((with_reducible show wpList _ _ _ (Oper.mk _ (Op.call { callee := .builtin .copy, args := _, argTypes := _ }) _ _ _ _ :: _) _ _); refine wpList_copy_rest (w := w) (by with_reducible rfl) _ _ 22 22 (by with_reducible rfl) 5 Try.underlying22 Try.sizeB g r ao _ _ _ _ (by rfl) (by rfl) (s : Int) ws rs bs HH.out.1 HH.out.2 (by omega) len (by omega) ?_; intro wZ hhZ hbZ hsZ; have hcz := hhZ.size; have hfz := hhZ.frozen 0)
  exact ⟨rfl, _, results_none rfl _ _, ⟨_, rfl⟩, put_grow HF.out.2.1 HF.out.2.2 (hhZ.setSize _) HF.out.1, hbZ.trans (But.setCell _ _ _ _)⟩

theorem HashAt.kept {w w' : World} {g : Nat} {all : List Int} (h : HashAt w g all) (hk : w'.heap[g]? = w.heap[g]?) : HashAt w' g all := by
  obtain ⟨ws, rs, h1, h2⟩ := h
  exact ⟨ws, rs, ⟨by rw [hk]; exact h1.blk, h1.lw, h1.lr⟩, h2⟩
theorem Row.samed {e : TypeId} {k : IntKind} {w w' : World} {g : Nat} {xs : List Int} (h : Row e k w g xs) (hk : w'.heap[g]? = w.heap[g]?) : Row e k w' g xs := by
  unfold Row
  rw [hk]
  exact h
theorem below_putObj {B r : Nat} {a w : World} (h : Below B a w) (hr : B ≤ r) (o : Obj) : Below B a (w.putObj r o) :=
  h.trans ⟨rfl, rfl, rfl, by simp, fun k hk => World.putObj_heap_other (by omega)⟩
theorem keeps_but {g : Nat} {w w' : World} (h : But g w w') (hg : ∃ c t f, w.heap[g]? = some (.cells c t f)) : KeepsOthers w w' := by
  refine ⟨h.size, fun k o hk ho => ?_⟩
  have hne : k ≠ g := by
    rintro rfl
    obtain ⟨c, t, f, hc⟩ := hg
    rw [hc] at hk
    cases hk
    cases ho
  rw [h.block k (Array.getElem?_eq_some_iff.1 hk).1 hne]
  exact hk

/-- All the bytes of the first k pieces. -/
def catP (L : Nat → Nat) (Z : Nat → List Int) (k : Nat) : List Int := ((List.range k).map fun r => (Z r).take (L r)).flatten
theorem catP_zero (L : Nat → Nat) (Z : Nat → List Int) : catP L Z 0 = [] := rfl
theorem Came.tlen {k : IntKind} {w : World} {a : Option Addr} {len cap : Nat} {zs : List Int} (h : Came k w a len cap zs) : (zs.take len).length = len := by
  rcases h with ⟨_, rfl, _, rfl⟩ | ⟨x, _, h1, _, h3, _⟩
  · rfl
  · rw [List.length_take]; omega
theorem catP_succ (L : Nat → Nat) (Z : Nat → List Int) (k : Nat) : catP L Z (k + 1) = catP L Z k ++ (Z k).take (L k) := by simp [catP, List.range_succ]
theorem catP_mono (L : Nat → Nat) (Z : Nat → List Int) {k m : Nat} (h : k ≤ m) : (catP L Z k).length ≤ (catP L Z m).length := by
  induction m with
  | zero => have : k = 0 := by omega
            subst this; exact Nat.le_refl _
  | succ m ih =>
    by_cases e : k = m + 1
    · subst e; exact Nat.le_refl _
    · have := ih (by omega)
      rw [catP_succ, List.length_append]
      omega

end Go.Proofs.Ytclejcjbnmgaiaa
