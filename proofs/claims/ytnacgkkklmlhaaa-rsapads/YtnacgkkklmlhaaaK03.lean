import Derived.Test.YtnacgkkklmlhaaaK02
import Derived.Laws.ResultCell
/-
  A region that draws its order and makes memory: facts, one an operation, told once for all orders. No program in sight.
-/
namespace Go.Proofs.Ytnacgkkklmlhaaa
open Go.Shelf Go.RowKit
set_option linter.unusedVariables false
set_option linter.unusedSimpArgs false

/-- Where operation i puts what it yields. -/
def dstOf (ops : Array Oper) (i : Nat) : Nat := ((ops[i]?).bind (·.dst)).getD 0
def depsOf (ops : Array Oper) (i : Nat) : List Nat := ((ops[i]?).map (fun o => o.after.toList.map (·.on))).getD []
def reachL (ops : Array Oper) : Nat → List Nat → List Nat
  | 0, S => S
  | n + 1, S => reachL ops n (S ++ S.flatMap (depsOf ops))
/-- What is asked of the text of such a region: of the operations below m, and of those behind. -/
def opOk (md : Region.Mode) (ops : Array Oper) (i : Nat) : Bool :=
  match ops[i]? with
  | some o => o.dst.isSome && o.guard.isNone && o.after.all (fun e => Region.binds md e && decide (e.on < i))
  | none => false
def lateOk (md : Region.Mode) (ops : Array Oper) (m n i : Nat) : Bool :=
  match ops[i]? with
  | some o => o.after.all (fun e => Region.binds md e) && (o.after.any (fun e => decide (m ≤ e.on)) || (List.range m).all (fun j => (reachL ops n (depsOf ops i)).contains j))
  | none => false
def factsOk (md : Region.Mode) (ops : Array Oper) (m n : Nat) : Bool :=
  decide (m ≤ ops.size) && (List.range m).all (opOk md ops) && (List.range m).all (fun i => (List.range m).all fun j => decide (i = j) || !(dstOf ops i == dstOf ops j)) && (List.range ops.size).all (fun i => decide (i < m) || lateOk md ops m n i)
theorem put_get (a : Act) (d s : Nat) (v : Value) (h : d ≠ s) : (a.put (some d) v).tmps.getD s undef = a.tmps.getD s undef := by
  simp only [Act.put, Array.getD_eq_getD_getElem?]
  rw [Array.getElem?_setIfInBounds_ne h]
theorem put_self (a : Act) (d : Nat) (v : Value) (h : d < a.tmps.size) : (a.put (some d) v).tmps.getD d undef = v := by
  simp only [Act.put, Array.getD_eq_getD_getElem?]
  rw [Array.getElem?_setIfInBounds_self_of_lt h]
  rfl
section
variable {P : Program} {ops : Array Oper} {Q : Exit → Act → World → Prop} {md : Region.Mode}
theorem reach_sound {T : Nat → Prop} (dc : ∀ i, T i → ∀ j ∈ depsOf ops i, T j) : ∀ (n : Nat) (S : List Nat), (∀ i ∈ S, T i) → ∀ i ∈ reachL ops n S, T i
  | 0, S, h, i, hi => h i hi
  | n + 1, S, h, i, hi => by
    refine reach_sound dc n _ ?_ i hi
    intro j hj
    rcases List.mem_append.1 hj with hj | hj
    · exact h j hj
    · obtain ⟨k, hk, hj⟩ := List.mem_flatMap.1 hj
      exact dc k (h k hk) j hj
/-- What holds while operations below m have come, those that are listed. -/
structure FInv (ops : Array Oper) (m : Nat) (F : Nat → Value → World → Prop) (a0 : Act) (w0 : World) (listed : Array Bool) (a : Act) (w : World) : Prop where
  size : listed.size = ops.size
  defers : a.defers = a0.defers
  slots : a.tmps.size = a0.tmps.size
  old : ∀ s, (∀ j, j < m → dstOf ops j ≠ s) → a.tmps.getD s undef = a0.tmps.getD s undef
  below : Below w0.heap.size w0 w
  facts : ∀ i, i < m → listed.getD i false = true → F i (a.tmps.getD (dstOf ops i) undef) w
  none : ∀ i, m ≤ i → listed.getD i false = false
  down : ∀ i, i < m → listed.getD i false = true → ∀ j ∈ depsOf ops i, listed.getD j false = true
theorem lget_set (l : Array Bool) (i j : Nat) (hi : i < l.size) : (l.setIfInBounds i true).getD j false = if i = j then true else l.getD j false := by
  simp only [Array.getD_eq_getD_getElem?]
  by_cases h : i = j
  · subst h
    rw [if_pos rfl, Array.getElem?_setIfInBounds_self_of_lt hi]
    rfl
  · rw [if_neg h, Array.getElem?_setIfInBounds_ne h]
theorem ready_mem {listed : Array Bool} {i : Nat} (h : i ∈ Region.ready md ops listed) : i < ops.size ∧ listed.getD i true = false ∧ ∃ o, ops[i]? = some o ∧ ∀ e ∈ o.after, Region.binds md e = true → listed.getD e.on false = true := by
  unfold Region.ready at h
  rw [List.mem_filter, List.mem_range] at h
  obtain ⟨h1, h2⟩ := h
  rw [Bool.and_eq_true] at h2
  obtain ⟨h2, h3⟩ := h2
  refine ⟨h1, by simpa using h2, ops[i], Array.getElem?_eq_getElem h1, ?_⟩
  rw [Array.getElem?_eq_getElem h1] at h3
  simp only [Option.map_some, Option.getD_some] at h3
  intro e he hb
  rw [Array.all_eq_true'] at h3
  have := h3 e he
  rw [hb] at this
  simpa using this
/-- How many of the first m have not come. -/
def unl (m : Nat) (listed : Array Bool) : Nat := ((List.range m).filter (fun j => !listed.getD j false)).length
theorem filter_drop (l : List Nat) (p q : Nat → Bool) (i : Nat) (hn : l.Nodup) (hi : i ∈ l) (hp : p i = true) (hq : ∀ j, q j = if i = j then false else p j) : (l.filter q).length + 1 = (l.filter p).length := by
  induction l with
  | nil => cases hi
  | cons x l ih =>
    rw [List.nodup_cons] at hn
    by_cases hx : x = i
    · subst hx
      have hqx : q x = false := by rw [hq, if_pos rfl]
      rw [List.filter_cons, List.filter_cons, hqx, hp]
      simp only [if_true, List.length_cons]
      have : l.filter q = l.filter p := by
        apply List.filter_congr
        intro j hj
        rw [hq, if_neg (by rintro rfl; exact hn.1 hj)]
      simp [this]
    · have hi' : i ∈ l := by
        rcases List.mem_cons.1 hi with h | h
        · exact absurd h.symm hx
        · exact h
      have hqx : q x = p x := by rw [hq, if_neg (fun h => hx h.symm)]
      rw [List.filter_cons, List.filter_cons, hqx]
      have := ih hn.2 hi'
      by_cases hpx : p x = true
      · rw [if_pos hpx, if_pos hpx, List.length_cons, List.length_cons]; omega
      · rw [if_neg hpx, if_neg hpx]; exact this
theorem unl_set (m : Nat) (listed : Array Bool) (i : Nat) (hi : i < m) (hs : i < listed.size) (h : listed.getD i false = false) : unl m (listed.setIfInBounds i true) + 1 = unl m listed := by
  unfold unl
  apply filter_drop (i := i)
  · exact List.nodup_range
  · exact List.mem_range.2 hi
  · rw [h]; rfl
  · intro j
    rw [lget_set _ _ _ hs]
    by_cases hj : i = j
    · rw [if_pos hj, if_pos hj]; rfl
    · rw [if_neg hj, if_neg hj]
theorem getD_or (l : Array Bool) (i : Nat) (hi : i < l.size) : l.getD i true = l.getD i false := by
  simp only [Array.getD_eq_getD_getElem?]
  rw [Array.getElem?_eq_getElem hi]
  rfl
/-- The rule. -/
theorem wpAny_facts (m n : Nat) (F : Nat → Value → World → Prop) (a0 : Act) (w0 : World) (hok : factsOk md ops m n = true) (hsl : ∀ i, i < m → dstOf ops i < a0.tmps.size)
    (keep : ∀ i v w w', i < m → F i v w → Below w.heap.size w w' → F i v w')
    (step : ∀ i o, i < m → ops[i]? = some o → ∀ a w, a.defers = a0.defers → a.tmps.size = a0.tmps.size → Below w0.heap.size w0 w → (∀ s, (∀ j, j < m → dstOf ops j ≠ s) → a.tmps.getD s undef = a0.tmps.getD s undef) → (∀ j ∈ depsOf ops i, F j (a.tmps.getD (dstOf ops j) undef) w) →
      ∀ KK : Act → World → Prop, (∀ v w', Below w.heap.size w w' → F i v w' → KK (a.put o.dst v) w') → o.wp P a w KK Q)
    (rest : ∀ listed a w, FInv ops m F a0 w0 listed a w → (∀ i, i < m → listed.getD i false = true) → wpAny P md ops Q (ops.size - m) listed a w) :
    ∀ k listed a w, FInv ops m F a0 w0 listed a w → unl m listed = k → wpAny P md ops Q (k + (ops.size - m)) listed a w
  | 0, listed, a, w, h, hk => by
    rw [Nat.zero_add]
    refine rest listed a w h fun i hi => ?_
    have h1 : (List.range m).filter (fun j => !listed.getD j false) = [] := List.length_eq_zero_iff.1 hk
    rw [List.filter_eq_nil_iff] at h1
    have := h1 i (List.mem_range.2 hi)
    simpa using this
  | k + 1, listed, a, w, h, hk => by
    unfold factsOk at hok
    simp only [Bool.and_eq_true, decide_eq_true_eq, List.all_eq_true, List.mem_range, Bool.or_eq_true] at hok
    obtain ⟨⟨⟨hm, h1⟩, h2⟩, h3⟩ := hok
    have hop : ∀ i, i < m → ∃ o, ops[i]? = some o ∧ o.dst = some (dstOf ops i) ∧ o.guard = none ∧ ∀ e ∈ o.after, Region.binds md e = true ∧ e.on < i := by
      intro i hi
      have h4 := h1 i hi
      unfold opOk at h4
      rw [Array.getElem?_eq_getElem (show i < ops.size by omega)] at h4
      simp only [Bool.and_eq_true, Array.all_eq_true', decide_eq_true_eq] at h4
      refine ⟨_, Array.getElem?_eq_getElem (show i < ops.size by omega), ?_, ?_, h4.2⟩
      · unfold dstOf
        rw [Array.getElem?_eq_getElem (show i < ops.size by omega)]
        have := h4.1.1
        show (ops[i]).dst = some (((ops[i]).dst).getD 0)
        revert this
        cases (ops[i]).dst with
        | none => intro h; cases h
        | some d => intro _; rfl
      · have := h4.1.2
        revert this
        cases (ops[i]).guard with
        | none => intro _; rfl
        | some d => intro h; cases h
    have hdep : ∀ i o, ops[i]? = some o → ∀ j, j ∈ depsOf ops i ↔ ∃ e ∈ o.after, e.on = j := by
      intro i o ho j
      unfold depsOf
      rw [ho]
      simp
    -- one of them has not come
    obtain ⟨u, hu, hun, hul⟩ : ∃ u, u < m ∧ listed.getD u false = false ∧ ∀ v, v < u → listed.getD v false = true := by
      have hex : ∃ u, u < m ∧ listed.getD u false = false := by
        have h4 : 0 < unl m listed := by omega
        obtain ⟨x, hx⟩ := List.exists_mem_of_length_pos h4
        rw [List.mem_filter, List.mem_range] at hx
        exact ⟨x, hx.1, by simpa using hx.2⟩
      obtain ⟨u, hu⟩ := hex
      induction u using Nat.strongRecOn with
      | ind u ih =>
        by_cases hv : ∃ v, v < u ∧ listed.getD v false = false
        · obtain ⟨v, hv1, hv2⟩ := hv
          exact ih v hv1 ⟨by omega, hv2⟩
        · refine ⟨u, hu.1, hu.2, fun v hvu => ?_⟩
          cases hq : listed.getD v false with
          | true => rfl
          | false => exact absurd ⟨v, hvu, hq⟩ hv
    rw [show k + 1 + (ops.size - m) = (k + (ops.size - m)) + 1 by omega]
    refine ⟨fun hr => ?_, fun i hi => ?_⟩
    · -- the least of them is ready
      exfalso
      have hmem : u ∈ Region.ready md ops listed := by
        unfold Region.ready
        rw [List.mem_filter, List.mem_range]
        obtain ⟨o, ho, _, _, hd⟩ := hop u hu
        refine ⟨by omega, ?_⟩
        rw [Bool.and_eq_true]
        refine ⟨by rw [getD_or _ _ (by rw [h.size]; omega), hun]; rfl, ?_⟩
        rw [ho]
        simp only [Option.map_some, Option.getD_some]
        rw [Array.all_eq_true']
        intro e he
        rw [hul _ (hd e he).2]
        simp
      rw [hr] at hmem
      cases hmem
    · obtain ⟨hi1, hi2, o, ho, hd⟩ := ready_mem hi
      rw [getD_or _ _ (by rw [h.size]; omega)] at hi2
      by_cases him : i < m
      · obtain ⟨o', ho', hdst, hg, hb⟩ := hop i him
        rw [ho] at ho'
        cases ho'
        unfold wpOp
        rw [ho]
        simp only
        rw [if_pos (by unfold Region.wanted; rw [hg])]
        refine .inl (Oper.wp_mono ?_ (step i o him ho a w h.defers h.slots h.below h.old ?_ (fun a' w' => ∃ v, a' = a.put o.dst v ∧ Below w.heap.size w w' ∧ F i v w') (fun v w' h1 h2 => ⟨v, rfl, h1, h2⟩)))
        · rintro a' w' ⟨v, rfl, hbw, hv⟩
          refine wpAny_facts m n F a0 w0 (by unfold factsOk; simp only [Bool.and_eq_true, decide_eq_true_eq, List.all_eq_true, List.mem_range, Bool.or_eq_true]; exact ⟨⟨⟨hm, h1⟩, h2⟩, h3⟩) hsl keep step rest k _ _ _ ?_ ?_
          · rw [hdst]
            refine ⟨by simp [h.size], h.defers, by simp [Act.put, h.slots], ?_, h.below.trans (hbw.mono h.below.size), ?_, ?_, ?_⟩
            · intro s hs
              rw [put_get _ _ _ _ (hs i him)]
              exact h.old s hs
            · intro j hj hl
              rw [lget_set _ _ _ (by rw [h.size]; omega)] at hl
              by_cases hij : i = j
              · subst hij
                rw [put_self _ _ _ (by rw [h.slots]; exact hsl i him)]
                exact hv
              · rw [if_neg hij] at hl
                have h5 := h2 i him j hj
                rcases h5 with h5 | h5
                · exact absurd h5 hij
                · rw [put_get _ _ _ _ (by intro e; rw [e] at h5; simp at h5)]
                  exact keep j _ _ _ hj (h.facts j hj hl) hbw
            · intro j hj
              rw [lget_set _ _ _ (by rw [h.size]; omega), if_neg (by omega)]
              exact h.none j hj
            · intro j hj hl x hx
              rw [lget_set _ _ _ (by rw [h.size]; omega)] at hl ⊢
              by_cases hix : i = x
              · rw [if_pos hix]
              · rw [if_neg hix]
                by_cases hij : i = j
                · subst hij
                  obtain ⟨e, he, rfl⟩ := (hdep i o ho x).1 hx
                  exact hd e he (hb e he).1
                · rw [if_neg hij] at hl
                  exact h.down j hj hl x hx
          · have := unl_set m listed i him (by rw [h.size]; omega) hi2
            omega
        · intro j hj
          obtain ⟨e, he, rfl⟩ := (hdep i o ho j).1 hj
          exact h.facts _ (by have := (hb e he).2; omega) (hd e he (hb e he).1)
      · exfalso
        have h4 := h3 i hi1
        rcases h4 with h4 | h4
        · omega
        · unfold lateOk at h4
          rw [ho] at h4
          simp only [Bool.and_eq_true, Array.all_eq_true', Bool.or_eq_true, Array.any_eq_true', decide_eq_true_eq, List.all_eq_true, List.mem_range] at h4
          obtain ⟨hbi, h4⟩ := h4
          rcases h4 with ⟨e, he, hem⟩ | h4
          · have h5 := hd e he (hbi e he)
            rw [h.none _ hem] at h5
            cases h5
          · have h5 := h4 u hu
            have h6 : u ∈ reachL ops n (depsOf ops i) := by simpa using h5
            have h7 := reach_sound (ops := ops) (T := fun j => listed.getD j false = true) (by
              intro x hx j hj
              by_cases hxm : x < m
              · exact h.down x hxm hx j hj
              · rw [h.none x (by omega)] at hx; cases hx) n (depsOf ops i) (by
              intro j hj
              obtain ⟨e, he, rfl⟩ := (hdep i o ho j).1 hj
              exact hd e he (hbi e he)) u h6
            rw [hun] at h7
            cases h7
theorem FInv.list {m : Nat} {F : Nat → Value → World → Prop} {a0 : Act} {w0 : World} {listed : Array Bool} {a : Act} {w : World} (h : FInv ops m F a0 w0 listed a w) (hm : m ≤ ops.size) (hall : ∀ i, i < m → listed.getD i false = true) : listed = (List.replicate m true ++ List.replicate (ops.size - m) false).toArray := by
  apply Array.ext
  · simp [h.size]; omega
  · intro i h1 h2
    have h3 : listed.getD i false = listed[i] := by
      simp only [Array.getD_eq_getD_getElem?]
      rw [Array.getElem?_eq_getElem h1]
      rfl
    rw [← h3]
    by_cases hi : i < m
    · rw [hall i hi]
      simp [List.getElem_append, hi]
    · rw [h.none i (by omega)]
      simp [List.getElem_append, hi]
/-- An array as it stands. -/
theorem arr_of (t : Array Value) (n : Nat) (h : t.size = n) : t = ((List.range n).map fun i => t.getD i undef).toArray := by
  apply Array.ext
  · simp [h]
  · intro i h1 h2
    simp [Array.getD_eq_getD_getElem?, h1]
/-- The rule, from the region's beginning on. -/
theorem wp_region_facts {id : Nat} {a0 : Act} {w0 : World} (m n : Nat) (F : Nat → Value → World → Prop) (hmx : P.follows .mixedOrders = true) (hok : factsOk .any ops m n = true) (hsa : (List.range m).all (fun i => decide (dstOf ops i < a0.tmps.size)) = true)
    (keep : ∀ i v w w', i < m → F i v w → Below w.heap.size w w' → F i v w')
    (step : ∀ i o, i < m → ops[i]? = some o → ∀ a w, a.defers = a0.defers → a.tmps.size = a0.tmps.size → Below w0.heap.size w0 w → (∀ s, (∀ j, j < m → dstOf ops j ≠ s) → a.tmps.getD s undef = a0.tmps.getD s undef) → (∀ j ∈ depsOf ops i, F j (a.tmps.getD (dstOf ops j) undef) w) →
      ∀ KK : Act → World → Prop, (∀ v w', Below w.heap.size w w' → F i v w' → KK (a.put o.dst v) w') → o.wp P a w KK Q)
    (rest : ∀ listed a w, FInv ops m F a0 w0.drew listed a w → (∀ i, i < m → listed.getD i false = true) → wpAny P .any ops Q (ops.size - m) listed a w) : (Code.region id ops true).wp P Q a0 w0 := by
  have hm : m ≤ ops.size := by
    unfold factsOk at hok
    simp only [Bool.and_eq_true, decide_eq_true_eq] at hok
    exact hok.1.1.1
  have hrep : ∀ i, (Array.replicate ops.size false).getD i false = false := fun i => by
    simp only [Array.getD_eq_getD_getElem?]
    by_cases h : i < ops.size
    · rw [Array.getElem?_eq_getElem (by simpa using h)]; simp
    · rw [Array.getElem?_eq_none (by simpa using Nat.le_of_not_lt h)]; rfl
  have hsl : ∀ i, i < m → dstOf ops i < a0.tmps.size := fun i hi => by
    rw [List.all_eq_true] at hsa
    simpa using hsa i (List.mem_range.2 hi)
  refine wp_region_any hmx ?_
  have hu : unl m (Array.replicate ops.size false) = m := by
    unfold unl
    have : (List.range m).filter (fun j => !(Array.replicate ops.size false).getD j false) = List.range m := by
      rw [List.filter_eq_self]
      intro j _
      rw [hrep]
      rfl
    rw [this, List.length_range]
  have h := wpAny_facts (P := P) (Q := Q) (md := .any) m n F a0 w0.drew hok hsl keep (fun i o hi ho a w h1 h2 h3 => step i o hi ho a w h1 h2 ((Below.refl _ _).drew.trans h3)) rest m (Array.replicate ops.size false) a0 w0.drew ⟨by simp, rfl, rfl, fun _ _ => rfl, Below.refl _ _, fun i _ hl => (by rw [hrep] at hl; cases hl), fun i _ => hrep i, fun i _ hl => (by rw [hrep] at hl; cases hl)⟩ hu
  rw [show m + (ops.size - m) = ops.size by omega] at h
  exact h
end
end Go.Proofs.Ytnacgkkklmlhaaa
/-
  A region that draws its order, whatever it does: facts on slots and the world, one an operation, told once for all orders. No program in sight.
-/
namespace Go.Proofs.Ytnacgkkklmlhaaa
open Go.Shelf Go.RowKit
set_option linter.unusedVariables false
set_option linter.unusedSimpArgs false

/-- What operation i must come behind. -/
def needsOf (md : Region.Mode) (ops : Array Oper) (i : Nat) : List Nat := ((ops[i]?).map (fun o => (o.after.toList.filter (Region.binds md)).map (·.on))).getD []
def reachN (md : Region.Mode) (ops : Array Oper) : Nat → List Nat → List Nat
  | 0, S => S
  | n + 1, S => reachN md ops n ((S ++ S.flatMap (needsOf md ops)).eraseDups)
/-- What operation i stands on. -/
def reachOf (md : Region.Mode) (ops : Array Oper) (n i : Nat) : List Nat := reachN md ops n (needsOf md ops i)
def dstIs (ops : Array Oper) (i s : Nat) : Bool := match ops[i]? with
  | some o => o.dst == some s
  | none => false
/-- What is asked of the text. -/
def framesOk (md : Region.Mode) (ops : Array Oper) (n : Nat) (rd : List (List Nat)) : Bool :=
  (List.range ops.size).all fun i => (needsOf md ops i).all (fun e => decide (e < i) || !decide (e < ops.size) || (needsOf md ops e).all (fun x => decide (x ≠ i))) && (List.range ops.size).all fun j => (rd.getD j []).all fun s => !dstIs ops i s || decide (i = j) || (reachOf md ops n j).contains i
/-- There is a way: the operations in this order. -/
def orderOk (md : Region.Mode) (ops : Array Oper) : List Nat → List Nat → Bool
  | [], seen => (List.range ops.size).all fun i => seen.contains i
  | i :: l, seen => decide (i < ops.size) && (needsOf md ops i).all (fun e => seen.contains e) && orderOk md ops l (i :: seen)
section
variable {P : Program} {ops : Array Oper} {Q : Exit → Act → World → Prop} {md : Region.Mode}
theorem reachN_sound {T : Nat → Prop} (dc : ∀ i, T i → ∀ j ∈ needsOf md ops i, T j) : ∀ (n : Nat) (S : List Nat), (∀ i ∈ S, T i) → ∀ i ∈ reachN md ops n S, T i
  | 0, S, h, i, hi => h i hi
  | n + 1, S, h, i, hi => by
    refine reachN_sound dc n _ ?_ i hi
    intro j hj
    rw [List.mem_eraseDups] at hj
    rcases List.mem_append.1 hj with hj | hj
    · exact h j hj
    · obtain ⟨k, hk, hj⟩ := List.mem_flatMap.1 hj
      exact dc k (h k hk) j hj
/-- What holds while some have come. -/
structure GInv (md : Region.Mode) (ops : Array Oper) (rd : List (List Nat)) (Fs : List (List Value → World → Prop)) (a0 : Act) (w0 : World) (listed : Array Bool) (a : Act) (w : World) : Prop where
  size : listed.size = ops.size
  defers : a.defers = a0.defers
  slots : a.tmps.size = a0.tmps.size
  old : ∀ s, (∀ j, listed.getD j false = true → dstIs ops j s = false) → a.tmps.getD s undef = a0.tmps.getD s undef
  below : Below w0.heap.size w0 w
  facts : ∀ j, listed.getD j false = true → Fs.getD j (fun _ _ => True) ((rd.getD j []).map fun s => a.tmps.getD s undef) w
  down : ∀ j, listed.getD j false = true → ∀ e ∈ needsOf md ops j, listed.getD e false = true
/-- All that stands behind operation i. -/
theorem GInv.deep {rd : List (List Nat)} {Fs : List (List Value → World → Prop)} {a0 : Act} {w0 : World} {listed : Array Bool} {a : Act} {w : World} (h : GInv md ops rd Fs a0 w0 listed a w) {i : Nat} (hr : ∀ e ∈ needsOf md ops i, listed.getD e false = true) (n e : Nat) (he : e ∈ reachOf md ops n i) : Fs.getD e (fun _ _ => True) ((rd.getD e []).map fun s => a.tmps.getD s undef) w :=
  h.facts e (reachN_sound (T := fun j => listed.getD j false = true) (fun x hx j hj => h.down x hx j hj) n _ hr e he)
theorem GInv.stays {rd : List (List Nat)} {Fs : List (List Value → World → Prop)} {a0 : Act} {w0 : World} {listed : Array Bool} {a : Act} {w : World} (h : GInv md ops rd Fs a0 w0 listed a w) {i : Nat} (hi : listed.getD i false = false) (n s : Nat) (hs : (List.range ops.size).all (fun j => !dstIs ops j s || (reachOf md ops n j).contains i || decide (i = j)) = true) : a.tmps.getD s undef = a0.tmps.getD s undef := by
  refine h.old s fun j hj => ?_
  rw [List.all_eq_true] at hs
  by_cases hjs : j < ops.size
  · have := hs j (List.mem_range.2 hjs)
    rw [Bool.or_eq_true, Bool.or_eq_true] at this
    rcases this with (this | this) | this
    · simpa using this
    · have hm : i ∈ reachOf md ops n j := by simpa using this
      have := reachN_sound (md := md) (ops := ops) (T := fun j => listed.getD j false = true) (fun x hx j hj => h.down x hx j hj) n _ (h.down j hj) i hm
      rw [hi] at this
      cases this
    · have : i = j := by simpa using this
      rw [this, hj] at hi
      cases hi
  · unfold dstIs
    rw [Array.getElem?_eq_none (by omega)]
theorem needs_mem (i : Nat) (o : Oper) (ho : ops[i]? = some o) (j : Nat) : j ∈ needsOf md ops i ↔ ∃ e ∈ o.after, Region.binds md e = true ∧ e.on = j := by
  unfold needsOf
  rw [ho]
  simp [and_assoc]
theorem order_all : ∀ (l seen : List Nat) (listed : Array Bool), orderOk md ops l seen = true → (∀ i ∈ seen, listed.getD i false = true) → listed.size = ops.size → (∀ i, i < ops.size → listed.getD i false = true) ∨ ∃ i, i ∈ Region.ready md ops listed
  | [], seen, listed, h, hs, hz => by
    left
    intro i hi
    unfold orderOk at h
    rw [List.all_eq_true] at h
    exact hs i (by simpa using h i (List.mem_range.2 hi))
  | i :: l, seen, listed, h, hs, hz => by
    unfold orderOk at h
    simp only [Bool.and_eq_true, decide_eq_true_eq, List.all_eq_true] at h
    obtain ⟨⟨h1, h2⟩, h3⟩ := h
    cases hl : listed.getD i false with
    | true =>
      refine order_all l (i :: seen) listed h3 ?_ hz
      intro j hj
      rcases List.mem_cons.1 hj with rfl | hj
      · exact hl
      · exact hs j hj
    | false =>
      right
      refine ⟨i, ?_⟩
      unfold Region.ready
      rw [List.mem_filter, List.mem_range]
      refine ⟨h1, ?_⟩
      rw [Bool.and_eq_true]
      refine ⟨by rw [getD_or _ _ (by omega), hl]; rfl, ?_⟩
      rw [Array.getElem?_eq_getElem h1]
      simp only [Option.map_some, Option.getD_some]
      rw [Array.all_eq_true']
      intro e he
      by_cases hb : Region.binds md e = true
      · have := h2 e.on ((needs_mem i _ (Array.getElem?_eq_getElem h1) e.on).2 ⟨e, he, hb, rfl⟩)
        rw [hs e.on (by simpa using this)]
        simp
      · simp [hb]
/-- One step, and what is then asked. -/
def GStep (P : Program) (Q : Exit → Act → World → Prop) (ops : Array Oper) (rd : List (List Nat)) (Fs : List (List Value → World → Prop)) (w0 : World) (i : Nat) (o : Oper) (listed : Array Bool) (a : Act) (w : World) : Prop :=
  ∀ KK : Act → World → Prop,
    (∀ v w', Below w0.heap.size w0 w' → (∀ j vs, listed.getD j false = true → Fs.getD j (fun _ _ => True) vs w → Fs.getD j (fun _ _ => True) vs w') → Fs.getD i (fun _ _ => True) ((rd.getD i []).map fun s => (a.put o.dst v).tmps.getD s undef) w' → KK (a.put o.dst v) w') →
    if Region.wanted o (yielded ops a.tmps) = true then o.wp P a w KK Q else KK (a.put o.dst undef) w
theorem wpAny_frames (n : Nat) (rd : List (List Nat)) (Fs : List (List Value → World → Prop)) (ord : List Nat) (a0 : Act) (w0 : World) (hok : framesOk md ops n rd = true) (hord : orderOk md ops ord [] = true)
    (step : ∀ i o, ops[i]? = some o → ∀ listed a w, GInv md ops rd Fs a0 w0 listed a w → listed.getD i false = false → (∀ e ∈ needsOf md ops i, listed.getD e false = true) → GStep P Q ops rd Fs w0 i o listed a w)
    (done : ∀ listed a w, GInv md ops rd Fs a0 w0 listed a w → (∀ i, i < ops.size → listed.getD i false = true) → Q .normal a w) :
    ∀ k listed a w, GInv md ops rd Fs a0 w0 listed a w → unl ops.size listed = k → wpAny P md ops Q k listed a w
  | 0, listed, a, w, h, hk => by
    have hall : ∀ i, i < ops.size → listed.getD i false = true := fun i hi => by
      have h1 : (List.range ops.size).filter (fun j => !listed.getD j false) = [] := List.length_eq_zero_iff.1 hk
      rw [List.filter_eq_nil_iff] at h1
      have := h1 i (List.mem_range.2 hi)
      simpa using this
    refine ⟨?_, done listed a w h hall⟩
    cases hr : Region.ready md ops listed with
    | nil => rfl
    | cons i l =>
      obtain ⟨h1, h2, _⟩ := ready_mem (md := md) (ops := ops) (listed := listed) (i := i) (by rw [hr]; exact List.mem_cons_self)
      rw [getD_or _ _ (by rw [h.size]; exact h1), hall i h1] at h2
      cases h2
  | k + 1, listed, a, w, h, hk => by
    refine ⟨fun hr => ?_, fun i hi => ?_⟩
    · rcases order_all ord [] listed hord (fun i hi => by cases hi) h.size with h1 | ⟨i, hi⟩
      · exact done listed a w h h1
      · rw [hr] at hi; cases hi
    · obtain ⟨hi1, hi2, o, ho, hd⟩ := ready_mem hi
      rw [getD_or _ _ (by rw [h.size]; omega)] at hi2
      have hneed : ∀ e ∈ needsOf md ops i, listed.getD e false = true := fun e he => by
        obtain ⟨e', h1, h2, rfl⟩ := (needs_mem i o ho e).1 he
        exact hd e' h1 h2
      unfold wpOp
      rw [ho]
      simp only
      have hs := step i o ho listed a w h hi2 hneed (wpAny P md ops Q k (listed.setIfInBounds i true)) (by
        intro v w' hb hkeep hnew
        refine wpAny_frames n rd Fs ord a0 w0 hok hord step done k _ _ _ ?_ ?_
        · have hput : ∀ s, dstIs ops i s = false → (a.put o.dst v).tmps.getD s undef = a.tmps.getD s undef := fun s hs => by
            unfold dstIs at hs
            rw [ho] at hs
            cases hdst : o.dst with
            | none => rfl
            | some d =>
              refine put_get _ _ _ _ ?_
              rintro rfl
              simp [hdst] at hs
          refine ⟨by simp [h.size], ?_, ?_, ?_, hb, ?_, ?_⟩
          · cases hdst : o.dst <;> exact h.defers
          · rw [← h.slots]
            cases hdst : o.dst with
            | none => rfl
            | some d => simp [Act.put]
          · intro s hs
            have h1 := hs i (by rw [lget_set _ _ _ (by rw [h.size]; omega), if_pos rfl])
            rw [hput s h1]
            refine h.old s fun j hj => hs j ?_
            rw [lget_set _ _ _ (by rw [h.size]; omega)]
            split
            · rfl
            · exact hj
          · intro j hj
            rw [lget_set _ _ _ (by rw [h.size]; omega)] at hj
            by_cases hij : i = j
            · subst hij
              exact hnew
            · rw [if_neg hij] at hj
              have h5 := hkeep j _ hj (h.facts j hj)
              have e : ((rd.getD j []).map fun s => (a.put o.dst v).tmps.getD s undef) = ((rd.getD j []).map fun s => a.tmps.getD s undef) := by
                apply List.map_congr_left
                intro s hs
                refine hput s ?_
                unfold framesOk at hok
                rw [List.all_eq_true] at hok
                have h6 := hok i (List.mem_range.2 hi1)
                rw [Bool.and_eq_true, List.all_eq_true, List.all_eq_true] at h6
                by_cases hjs : j < ops.size
                · have h7 := h6.2 j (List.mem_range.2 hjs)
                  rw [List.all_eq_true] at h7
                  have h8 := h7 s hs
                  rw [Bool.or_eq_true, Bool.or_eq_true] at h8
                  rcases h8 with (h8 | h8) | h8
                  · simpa using h8
                  · exact absurd (by simpa using h8) hij
                  · have hm : i ∈ reachOf md ops n j := by simpa using h8
                    have := reachN_sound (md := md) (ops := ops) (T := fun j => listed.getD j false = true) (fun x hx j hj => h.down x hx j hj) n _ (h.down j hj) i hm
                    rw [hi2] at this
                    cases this
                · have : listed.getD j false = false := by
                    simp only [Array.getD_eq_getD_getElem?]
                    rw [Array.getElem?_eq_none (by rw [h.size]; omega)]
                    rfl
                  rw [this] at hj
                  cases hj
              rw [e]
              exact h5
          · intro j hj e he
            rw [lget_set _ _ _ (by rw [h.size]; omega)] at hj ⊢
            by_cases hie : i = e
            · rw [if_pos hie]
            · rw [if_neg hie]
              by_cases hij : i = j
              · subst hij
                exact hneed e he
              · rw [if_neg hij] at hj
                exact h.down j hj e he
        · have := unl_set ops.size listed i hi1 (by rw [h.size]; omega) hi2
          omega)
      by_cases hw : Region.wanted o (yielded ops a.tmps) = true
      · rw [if_pos hw] at hs ⊢
        exact .inl hs
      · rw [if_neg hw] at hs ⊢
        exact hs
/-- The rule. -/
theorem wp_region_frames {id : Nat} {a0 : Act} {w0 : World} (n : Nat) (rd : List (List Nat)) (Fs : List (List Value → World → Prop)) (ord : List Nat) (hmx : P.follows .mixedOrders = true) (hok : framesOk .any ops n rd = true) (hord : orderOk .any ops ord [] = true)
    (step : ∀ i o, ops[i]? = some o → ∀ listed a w, GInv .any ops rd Fs a0 w0.drew listed a w → listed.getD i false = false → (∀ e ∈ needsOf .any ops i, listed.getD e false = true) → GStep P Q ops rd Fs w0.drew i o listed a w)
    (done : ∀ listed a w, GInv .any ops rd Fs a0 w0.drew listed a w → (∀ i, i < ops.size → listed.getD i false = true) → Q .normal a w) : (Code.region id ops true).wp P Q a0 w0 := by
  have hrep : ∀ i, (Array.replicate ops.size false).getD i false = false := fun i => by
    simp only [Array.getD_eq_getD_getElem?]
    by_cases h : i < ops.size
    · rw [Array.getElem?_eq_getElem (by simpa using h)]; simp
    · rw [Array.getElem?_eq_none (by simpa using Nat.le_of_not_lt h)]; rfl
  refine wp_region_any hmx ?_
  have hu : unl ops.size (Array.replicate ops.size false) = ops.size := by
    unfold unl
    have : (List.range ops.size).filter (fun j => !(Array.replicate ops.size false).getD j false) = List.range ops.size := by
      rw [List.filter_eq_self]
      intro j _
      rw [hrep]
      rfl
    rw [this, List.length_range]
  exact wpAny_frames (P := P) (Q := Q) (md := .any) n rd Fs ord a0 w0.drew hok hord step done ops.size (Array.replicate ops.size false) a0 w0.drew ⟨by simp, rfl, rfl, fun _ _ => rfl, Below.refl _ _, fun i hl => (by rw [hrep] at hl; cases hl), fun i hl => (by rw [hrep] at hl; cases hl)⟩ hu
end
end Go.Proofs.Ytnacgkkklmlhaaa
/-
  The code's sum of two points.
-/
namespace Go.Proofs.Ytnacgkkklmlhaaa
open Go.Shelf Go.RowKit
set_option linter.unusedVariables false
set_option linter.unusedSimpArgs false

def noZ : Pz := ⟨0, 0, true⟩
def ownZ (p : Pz) : Pz := if p.inf then noZ else p
/-- The sum's numbers; s: the slope. -/
def sumX (K : Cz) (p q : Pz) (s : Int) : Int := (((s * s) % K.p - p.x) % K.p - q.x) % K.p
def sumY (K : Cz) (p q : Pz) (s : Int) : Int := ((s * ((p.x - sumX K p q s) % K.p)) % K.p - p.y) % K.p
/-- The sum of two points that have numbers. -/
def AddN (K : Cz) (p q : Pz) (r : Option Pz) : Prop :=
  if runZ K p q = 0 then r = some noZ else if gd K.p (runZ K p q % K.p) ≠ 1 then r = none else ∃ n, 0 ≤ n ∧ n < K.p ∧ Cg K.p (n * runZ K p q) 1 ∧ r = some ⟨sumX K p q ((riseZ K p q * n) % K.p), sumY K p q ((riseZ K p q * n) % K.p), false⟩
/-- The sum. -/
def AddZ (K : Cz) (p q : Pz) (r : Option Pz) : Prop :=
  if K.p = 0 then r = none else if p.inf then r = some (ownZ q) else if q.inf then r = some (ownZ p) else AddN K p q r
/-- A point that was answered, or none. -/
def Pa (w w' : World) (e : Ending) (r : Option Pz) (L : Nat) : Prop := Below w.heap.size w w' ∧ ((∃ v p, r = some p ∧ e = .returned (.tuple #[v, .bool true]) ∧ Pv w' v p L) ∨ (r = none ∧ e = .returned (.tuple #[.agg #[.slice none 0 0, .slice none 0 0, .bool false], .bool false])))
theorem nv_nil (w : World) (L : Nat) : Nv w (.slice none 0 0) 0 L := ⟨none, 0, 0, [], rfl, NumIn.nil, rfl, Nat.zero_le _⟩
theorem pv_no (w : World) (L : Nat) : Pv w (.agg #[.slice none 0 0, .slice none 0 0, .bool true]) noZ L := ⟨_, _, rfl, nv_nil w L, nv_nil w L⟩
/-- But for block g the world w' is as w was. -/
structure Bt (g : Nat) (w w' : World) : Prop where
  os : w'.os = w.os
  tape : w'.tape = w.tape
  output : w'.output = w.output
  size : w.heap.size ≤ w'.heap.size
  block : ∀ k, k < w.heap.size → k ≠ g → w'.heap[k]? = w.heap[k]?
theorem Bt.below {g B : Nat} {w w' : World} (h : Bt g w w') (hB : B ≤ g) (hw : B ≤ w.heap.size) : Below B w w' := ⟨h.os, h.tape, h.output, h.size, fun k hk => h.block k (by omega) (by omega)⟩
theorem Bt.trans {g : Nat} {a b c : World} (h : Bt g a b) (k : Bt g b c) : Bt g a c :=
  ⟨k.os.trans h.os, k.tape.trans h.tape, k.output.trans h.output, Nat.le_trans h.size k.size, fun i hi hg => (k.block i (Nat.lt_of_lt_of_le hi h.size) hg).trans (h.block i hi hg)⟩
theorem Bt.setCell (g : Nat) (w : World) (j : Nat) (v : Value) : Bt g w (w.setCell ⟨g, j, none⟩ v) := ⟨rfl, rfl, rfl, by simp [World.setCell], fun k _ hk => Below.heap_setCell w ⟨g, j, none⟩ v k hk⟩
/-- A point's place. -/
def PSl (w : World) (r : Nat) (c0 c1 c2 : Value) : Prop := w.heap[r]? = some (.cells #[c0, c1, c2] 30 (0, 0))
theorem PSl.lt {w : World} {r : Nat} {c0 c1 c2 : Value} (h : PSl w r c0 c1 c2) : r < w.heap.size := (Array.getElem?_eq_some_iff.1 h).1
theorem PSl.keep {w w' : World} {r : Nat} {c0 c1 c2 : Value} (h : PSl w r c0 c1 c2) (hb : Below w.heap.size w w') : PSl w' r c0 c1 c2 := (hb.block _ h.lt).trans h
theorem PSl.facts {w : World} {r : Nat} {c0 c1 c2 : Value} (h : PSl w r c0 c1 c2) : w.cell? ⟨r, 0, none⟩ = some c0 ∧ w.cell? ⟨r, 1, none⟩ = some c1 ∧ w.cell? ⟨r, 2, none⟩ = some c2 ∧ w.frozen? ⟨r, 0, none⟩ = false ∧ w.frozen? ⟨r, 1, none⟩ = false ∧ w.frozen? ⟨r, 2, none⟩ = false :=
  ⟨by rw [cell_of_row _ _ _ _ _ _ h]; rfl, by rw [cell_of_row _ _ _ _ _ _ h]; rfl, by rw [cell_of_row _ _ _ _ _ _ h]; rfl, frozen_of_row w r 0 _ _ h, frozen_of_row w r 1 _ _ h, frozen_of_row w r 2 _ _ h⟩
theorem heap_set7 (w : World) (g j : Nat) (v : Value) (cs : Array Value) (t : TypeId) (fr : Nat × Nat) (h : w.heap[g]? = some (.cells cs t fr)) : (w.setCell ⟨g, j, none⟩ v).heap[g]? = some (.cells (cs.setIfInBounds j v) t fr) := by
  have hlt := (Array.getElem?_eq_some_iff.1 h).1
  have he : w.heap[g] = .cells cs t fr := (Array.getElem?_eq_some_iff.1 h).2
  simp [World.setCell, hlt]
  rw [Array.getElem_modify]
  simp [he]
theorem PSl.set3 {w : World} {r : Nat} {c0 c1 c2 : Value} (h : PSl w r c0 c1 c2) (d0 d1 d2 : Value) : PSl (((w.setCell ⟨r, 0, none⟩ d0).setCell ⟨r, 1, none⟩ d1).setCell ⟨r, 2, none⟩ d2) r d0 d1 d2 := by
  have h1 := heap_set7 w r 0 d0 _ _ _ h
  have h2 := heap_set7 _ r 1 d1 _ _ _ h1
  exact heap_set7 _ r 2 d2 _ _ _ h2
theorem Bt.set3 (w : World) (r : Nat) (d0 d1 d2 : Value) : Bt r w (((w.setCell ⟨r, 0, none⟩ d0).setCell ⟨r, 1, none⟩ d1).setCell ⟨r, 2, none⟩ d2) := ((Bt.setCell r w 0 d0).trans (Bt.setCell r _ 1 d1)).trans (Bt.setCell r _ 2 d2)
/-- Numbers don't lie where a point does. -/
theorem Nv.apart {w w' : World} {v : Value} {n : Int} {L r : Nat} {a1 a2 : Option Addr} {l1 k1 l2 k2 : Nat} {b : Bool} (h : Nv w v n L) (hs : PSl w r (.slice a1 l1 k1) (.slice a2 l2 k2) (.bool b)) (hb : Bt r w w') : Nv w' v n L := by
  obtain ⟨ao, len, cap, xs, e, h1, h2, h3⟩ := h
  refine ⟨ao, len, cap, xs, e, ⟨⟨h1.len, ?_⟩, h1.lc, h1.cm, h1.nn, h1.dg, h1.sm⟩, h2, h3⟩
  by_cases h0 : len = 0
  · exact .inl h0
  · obtain ⟨b', off, e2, hlt, hc⟩ := h1.lies.at (by omega)
    have hne : b' ≠ r := fun e3 => by
      subst e3
      have h4 := hc 0 (by omega)
      rw [cell_of_row _ _ _ _ _ _ hs] at h4
      obtain ⟨o, ho⟩ : ∃ o, off + 0 = o := ⟨_, rfl⟩
      rw [ho] at h4
      match o, h4 with
      | 0, h4 => cases h4
      | 1, h4 => cases h4
      | 2, h4 => cases h4
      | k + 3, h4 => simp at h4
    exact .inr ⟨b', off, e2, Nat.lt_of_lt_of_le hlt hb.size, fun i hi => (World.cell?_of_block (w := w) (hb.block b' hlt hne)).trans (hc i hi)⟩
theorem sizePt : (Try.prog.info? 30).map (·.size) = some 3 := by kernel_rfl
theorem ret_pt {fn : Func} {p u : Tmp} (h : fn.results = #[.cell p 30, .tmp u]) (tmps : Array Value) (w : World) (g : Nat) (c0 c1 c2 : Value) (hp : tmps.getD p undef = .pointer (some ⟨g, 0, none⟩)) (hg : PSl w g c0 c1 c2) :
    (results fn tmps).run Try.prog w = .ok (.tuple #[.agg #[c0, c1, c2], tmps.getD u undef]) w := by
  rw [results_cell_tmp h, hp]
  have hl := run_loadVar_row (P := Try.prog) w g 30 30 #[c0, c1, c2] (0, 0) _ hg Try.underlying30 rfl sizePt
  simp [asAddr, Result.andThen, hl]
theorem ret_pt1 {fn : Func} {p : Tmp} (h : fn.results = #[.cell p 30]) (tmps : Array Value) (w : World) (g : Nat) (c0 c1 c2 : Value) (hp : tmps.getD p undef = .pointer (some ⟨g, 0, none⟩)) (hg : PSl w g c0 c1 c2) :
    (results fn tmps).run Try.prog w = .ok (.agg #[c0, c1, c2]) w :=
  results_cell_row h tmps w g 30 _ (0, 0) _ hp hg Try.underlying30 rfl sizePt
end Go.Proofs.Ytnacgkkklmlhaaa
/-
  The code's Add, Base, Size, On.
-/
namespace Go.Proofs.Ytnacgkkklmlhaaa
open Go.Shelf Go.RowKit
set_option linter.unusedVariables false
set_option linter.unusedSimpArgs false

theorem norm_nv (a : Value) (x : Int) (L : Nat) (w : World) (ha : Nv w a x L) : Calls Try.prog 72 #[a] w fun e w' => ∃ v, e = .returned v ∧ Na w w' v x L := by
  obtain ⟨ao, la, ca, xs, rfl, h1, rfl, h2⟩ := ha
  refine (Norm_any ao la ca xs w h1).mono ?_
  rintro e w' ⟨v, rfl, h⟩
  exact ⟨v, rfl, h.na.1.up h2, h.na.2⟩
theorem set3_other {w : World} {b j r : Nat} {v d0 d1 d2 : Value} (h : w.cell? ⟨b, j, none⟩ = some v) (hne : b ≠ r) : (((w.setCell ⟨r, 0, none⟩ d0).setCell ⟨r, 1, none⟩ d1).setCell ⟨r, 2, none⟩ d2).cell? ⟨b, j, none⟩ = some v :=
  (World.cell?_of_block (w := w) ((Bt.set3 w r d0 d1 d2).block b (World.block_lt_of_cell? w _ h) hne)).trans h
/-- Two places, one behind the other. -/
theorem two_new (w : World) (pv : Array Value) (t : TypeId) : ((w.alloc (.cells pv t)).alloc (.cells #[.slice none 0 0, .slice none 0 0, .bool false] 30)).heap[w.heap.size]? = some (.cells pv t (0, 0)) ∧ PSl ((w.alloc (.cells pv t)).alloc (.cells #[.slice none 0 0, .slice none 0 0, .bool false] 30)) (w.heap.size + 1) (.slice none 0 0) (.slice none 0 0) (.bool false) ∧ Below w.heap.size w ((w.alloc (.cells pv t)).alloc (.cells #[.slice none 0 0, .slice none 0 0, .bool false] 30)) := by
  have z1 := alloc_sz7 w (.cells pv t)
  have n1 := heap_alloc_new w (.cells pv t)
  have n2 := heap_alloc_new (w.alloc (.cells pv t)) (.cells #[.slice none 0 0, .slice none 0 0, .bool false] 30)
  rw [z1] at n2
  exact ⟨heap_new n1 (by omega), n2, ((Below.refl w.heap.size w).alloc (Nat.le_refl _) _).alloc (by omega) _⟩
theorem frB_new (w : World) (cv pv qv : Array Value) : PSl ((((w.alloc (.cells cv 70)).alloc (.cells pv 30)).alloc (.cells qv 30)).alloc (.cells #[.slice none 0 0, .slice none 0 0, .bool false] 30)) (w.heap.size + 1 + 1 + 1) (.slice none 0 0) (.slice none 0 0) (.bool false) ∧ Below w.heap.size w ((((w.alloc (.cells cv 70)).alloc (.cells pv 30)).alloc (.cells qv 30)).alloc (.cells #[.slice none 0 0, .slice none 0 0, .bool false] 30)) := by
  have n4 := heap_alloc_new (((w.alloc (.cells cv 70)).alloc (.cells pv 30)).alloc (.cells qv 30)) (.cells #[.slice none 0 0, .slice none 0 0, .bool false] 30)
  rw [alloc_sz7, alloc_sz7, alloc_sz7] at n4
  exact ⟨n4, ((((Below.refl w.heap.size w).alloc (Nat.le_refl _) _).alloc (by rw [alloc_sz7]; omega) _).alloc (by rw [alloc_sz7, alloc_sz7]; omega) _).alloc (by rw [alloc_sz7, alloc_sz7, alloc_sz7]; omega) _⟩
end Go.Proofs.Ytnacgkkklmlhaaa
/-
  The code's Mul.
-/
namespace Go.Proofs.Ytnacgkkklmlhaaa
open Go.RowKit Go.Shelf
set_option linter.unusedVariables false
set_option linter.unusedSimpArgs false
attribute [local go_sem] Oper.semAt_some

/-- What Mul keeps in memory from its beginning on. -/
structure FrC (W : World) (b : Nat) (cv pv : Array Value) : Prop where
  c : W.heap[b]? = some (.cells cv 70 (0, 0))
  p : W.heap[b + 1]? = some (.cells pv 30 (0, 0))
  r : PSl W (b + 1 + 1) (.slice none 0 0) (.slice none 0 0) (.bool false)
  o : W.heap[b + 1 + 1 + 1]? = some (.cells #[.bool false] 4 (0, 0))
theorem frC_new (w : World) (cv pv : Array Value) : FrC ((((w.alloc (.cells cv 70)).alloc (.cells pv 30)).alloc (.cells #[.slice none 0 0, .slice none 0 0, .bool false] 30)).alloc (.cells #[.bool false] 4)) w.heap.size cv pv ∧ Below w.heap.size w ((((w.alloc (.cells cv 70)).alloc (.cells pv 30)).alloc (.cells #[.slice none 0 0, .slice none 0 0, .bool false] 30)).alloc (.cells #[.bool false] 4)) := by
  obtain ⟨w1, e1⟩ : ∃ x, w.alloc (.cells cv 70) = x := ⟨_, rfl⟩
  obtain ⟨w2, e2⟩ : ∃ x, w1.alloc (.cells pv 30) = x := ⟨_, rfl⟩
  obtain ⟨w3, e3⟩ : ∃ x, w2.alloc (.cells #[.slice none 0 0, .slice none 0 0, .bool false] 30) = x := ⟨_, rfl⟩
  have z1 : w1.heap.size = w.heap.size + 1 := by rw [← e1]; exact alloc_sz7 _ _
  have z2 : w2.heap.size = w.heap.size + 1 + 1 := by rw [← e2, alloc_sz7, z1]
  have z3 : w3.heap.size = w.heap.size + 1 + 1 + 1 := by rw [← e3, alloc_sz7, z2]
  have n1 : w1.heap[w.heap.size]? = some (.cells cv 70 (0, 0)) := by rw [← e1]; exact heap_alloc_new w _
  have n2 : w2.heap[w.heap.size + 1]? = some (.cells pv 30 (0, 0)) := by rw [← e2, ← z1]; exact heap_alloc_new w1 _
  have n3 : w3.heap[w.heap.size + 1 + 1]? = some (.cells #[.slice none 0 0, .slice none 0 0, .bool false] 30 (0, 0)) := by rw [← e3, ← z2]; exact heap_alloc_new w2 _
  have n4 := heap_alloc_new w3 (.cells #[.bool false] 4)
  rw [z3] at n4
  have m1 : w2.heap[w.heap.size]? = some (.cells cv 70 (0, 0)) := by rw [← e2]; exact heap_new n1 (by omega)
  have k1 : w3.heap[w.heap.size]? = some (.cells cv 70 (0, 0)) := by rw [← e3]; exact heap_new m1 (by omega)
  have k2 : w3.heap[w.heap.size + 1]? = some (.cells pv 30 (0, 0)) := by rw [← e3]; exact heap_new n2 (by omega)
  have bb : Below w.heap.size w (w3.alloc (.cells #[.bool false] 4)) := by
    rw [← e3, ← e2, ← e1]
    exact ((((Below.refl w.heap.size w).alloc (Nat.le_refl _) _).alloc (by rw [alloc_sz7]; omega) _).alloc (by rw [alloc_sz7, alloc_sz7]; omega) _).alloc (by rw [alloc_sz7, alloc_sz7, alloc_sz7]; omega) _
  rw [e1, e2, e3]
  exact ⟨⟨heap_new k1 (by omega), heap_new k2 (by omega), heap_new n3 (by omega), n4⟩, bb⟩
theorem FrC.keep {W W' : World} {b : Nat} {cv pv : Array Value} (h : FrC W b cv pv) (hb : Below W.heap.size W W') : FrC W' b cv pv :=
  ⟨(hb.block _ (Array.getElem?_eq_some_iff.1 h.c).1).trans h.c, (hb.block _ (Array.getElem?_eq_some_iff.1 h.p).1).trans h.p, h.r.keep hb, (hb.block _ (Array.getElem?_eq_some_iff.1 h.o).1).trans h.o⟩
/-- One bit more. -/
def stepR (K : Cz) (P : Pz) (set : Bool) (q : Pz) (r : Option Pz) : Prop := ∃ d, AddZ K q q d ∧ ((d = none ∧ r = none) ∨ ∃ e, d = some e ∧ if set then AddZ K e P r else r = some e)
/-- What the bits so far make. -/
def MF (K : Cz) (P : Pz) (pre : List (Int × Bool)) : Pz → Prop := pre.foldl (fun S x => fun q' => ∃ q, S q ∧ stepR K P x.2 q (some q')) (fun q => q = noZ)
theorem MF_snoc (K : Cz) (P : Pz) (pre : List (Int × Bool)) (x : Int × Bool) (q' : Pz) : MF K P (pre ++ [x]) q' ↔ ∃ q, MF K P pre q ∧ stepR K P x.2 q (some q') := by
  unfold MF
  rw [List.foldl_append]
  exact Iff.rfl
/-- What Mul answers. -/
def MulZ (K : Cz) (P : Pz) (bits : List (Int × Bool)) (r : Option Pz) : Prop := (∃ q, r = some q ∧ MF K P bits q) ∨ (r = none ∧ ∃ pre x q, (pre ++ [x]) <+: bits ∧ MF K P pre q ∧ stepR K P x.2 q none)
theorem blk_kept {W W' : World} {k : Nat} {cs : Array Value} {t : TypeId} {row : Option Nat} (h : W.heap[k]? = some (.cells cs t (0, 0))) (hg : W.grownBy W' row) (hr : ∀ r, row = some r → ∃ o : Obj, W.heap[r]? = some o ∧ o.isCells = false) : W'.heap[k]? = some (.cells cs t (0, 0)) := by
  rw [hg.block k (Array.getElem?_eq_some_iff.1 h).1 (fun e => by
    obtain ⟨o, ho, hc⟩ := hr k e.symm
    rw [h] at ho
    cases ho
    cases hc), h]
theorem Nv.kept {W W' : World} {v : Value} {n : Int} {L : Nat} {row : Option Nat} (h : Nv W v n L) (hg : W.grownBy W' row) (hr : ∀ r, row = some r → ∃ o : Obj, W.heap[r]? = some o ∧ o.isCells = false) : Nv W' v n L := by
  obtain ⟨ao, len, cap, xs, e, h1, h2, h3⟩ := h
  exact ⟨ao, len, cap, xs, e, h1.keptc hg hr, h2, h3⟩
theorem Cu.kept {W W' : World} {c : Value} {K : Cz} {L : Nat} {row : Option Nat} (h : Cu W c K L) (hg : W.grownBy W' row) (hr : ∀ r, row = some r → ∃ o : Obj, W.heap[r]? = some o ∧ o.isCells = false) : Cu W' c K L := by
  obtain ⟨g1, g2, oo, lo, co, vp, va, vb, vx, vy, vn, e, h1, h2, h3, h4, h5, h6⟩ := h
  exact ⟨g1, g2, oo, lo, co, vp, va, vb, vx, vy, vn, e, h1.kept hg hr, h2.kept hg hr, h3.kept hg hr, h4.kept hg hr, h5.kept hg hr, h6.kept hg hr⟩
theorem Pv.kept {W W' : World} {c : Value} {p : Pz} {L : Nat} {row : Option Nat} (h : Pv W c p L) (hg : W.grownBy W' row) (hr : ∀ r, row = some r → ∃ o : Obj, W.heap[r]? = some o ∧ o.isCells = false) : Pv W' c p L := by
  obtain ⟨vx, vy, e, h1, h2⟩ := h
  exact ⟨vx, vy, e, h1.kept hg hr, h2.kept hg hr⟩
/-- A block of a truth alone. -/
def BBx (w : World) (g : Nat) (b : Bool) : Prop := w.heap[g]? = some (.cells #[.bool b] 4 (0, 0))
theorem Nv.apartB {w w' : World} {v : Value} {n : Int} {L r : Nat} {b : Bool} (h : Nv w v n L) (hs : BBx w r b) (hb : Bt r w w') : Nv w' v n L := by
  obtain ⟨ao, len, cap, xs, e, h1, h2, h3⟩ := h
  refine ⟨ao, len, cap, xs, e, ⟨⟨h1.len, ?_⟩, h1.lc, h1.cm, h1.nn, h1.dg, h1.sm⟩, h2, h3⟩
  by_cases h0 : len = 0
  · exact .inl h0
  · obtain ⟨b', off, e2, hlt, hc⟩ := h1.lies.at (by omega)
    have hne : b' ≠ r := fun e3 => by
      subst e3
      have h4 := hc 0 (by omega)
      rw [cell_of_row _ _ _ _ _ _ hs] at h4
      obtain ⟨o, ho⟩ : ∃ o, off + 0 = o := ⟨_, rfl⟩
      rw [ho] at h4
      match o, h4 with
      | 0, h4 => cases h4
      | k + 1, h4 => simp at h4
    exact .inr ⟨b', off, e2, Nat.lt_of_lt_of_le hlt hb.size, fun i hi => (World.cell?_of_block (w := w) (hb.block b' hlt hne)).trans (hc i hi)⟩
/-- The state between two bits. -/
structure MSt (w : World) (b gs go : Nat) (cv pv : Array Value) (K : Cz) (P : Pz) (L : Nat) (x1 y1 : Option Addr) (x2 x3 y2 y3 : Nat) (q : Pz) (W : World) : Prop where
  fr : FrC W b cv pv
  sum : PSl W gs (.slice x1 x2 x3) (.slice y1 y2 y3) (.bool q.inf)
  sx : Nv W (.slice x1 x2 x3) q.x L
  sy : Nv W (.slice y1 y2 y3) q.y L
  ok : BBx W go true
  cu : Cu W (.agg cv) K L
  pp : Pv W (.agg pv) P L
  low : Below w.heap.size w W
theorem MSt.old {w : World} {b gs go : Nat} {cv pv : Array Value} {K : Cz} {P : Pz} {L : Nat} {x1 y1 : Option Addr} {x2 x3 y2 y3 : Nat} {q : Pz} {W W' : World} (h : MSt w b gs go cv pv K P L x1 y1 x2 x3 y2 y3 q W) (hb : Below W.heap.size W W') : MSt w b gs go cv pv K P L x1 y1 x2 x3 y2 y3 q W' :=
  ⟨h.fr.keep hb, h.sum.keep hb, h.sx.old hb, h.sy.old hb, (hb.block _ (Array.getElem?_eq_some_iff.1 h.ok).1).trans h.ok, h.cu.old hb, h.pp.old hb, h.low.trans (hb.mono h.low.size)⟩
theorem MSt.kept {w : World} {b gs go : Nat} {cv pv : Array Value} {K : Cz} {P : Pz} {L : Nat} {x1 y1 : Option Addr} {x2 x3 y2 y3 : Nat} {q : Pz} {W W' : World} {row : Option Nat} {B : Nat} (hB : w.heap.size ≤ B) (h : MSt w b gs go cv pv K P L x1 y1 x2 x3 y2 y3 q W) (hg : W.grownBy W' row) (hr : ∀ r, row = some r → B ≤ r ∧ ∃ o : Obj, W.heap[r]? = some o ∧ o.isCells = false) : MSt w b gs go cv pv K P L x1 y1 x2 x3 y2 y3 q W' := by
  have hr2 := fun r e => (hr r e).2
  exact ⟨⟨blk_kept h.fr.c hg hr2, blk_kept h.fr.p hg hr2, blk_kept h.fr.r hg hr2, blk_kept h.fr.o hg hr2⟩, blk_kept h.sum hg hr2, h.sx.kept hg hr2, h.sy.kept hg hr2, blk_kept h.ok hg hr2, h.cu.kept hg hr2, h.pp.kept hg hr2, ownFrom_below (β := Unit) (Nat.le_refl _) hB () W W' row h.low hg hr⟩
/-- The world with another sum. -/
def sumW (W : World) (gs go : Nat) (vx vy : Value) (inf ok : Bool) : World := (((W.setCell ⟨gs, 0, none⟩ vx).setCell ⟨gs, 1, none⟩ vy).setCell ⟨gs, 2, none⟩ (.bool inf)).setCell ⟨go, 0, none⟩ (.bool ok)
theorem nv_sum {W : World} {v : Value} {n : Int} {L gs go : Nat} {a1 a2 : Option Addr} {l1 k1 l2 k2 : Nat} {b ok0 : Bool} (h : Nv W v n L) (hs : PSl W gs (.slice a1 l1 k1) (.slice a2 l2 k2) (.bool b)) (ho : BBx W go ok0) (hne : go ≠ gs) (vx vy : Value) (inf ok : Bool) : Nv (sumW W gs go vx vy inf ok) v n L := by
  have b3 := Bt.set3 W gs vx vy (.bool inf)
  have ho2 : BBx (((W.setCell ⟨gs, 0, none⟩ vx).setCell ⟨gs, 1, none⟩ vy).setCell ⟨gs, 2, none⟩ (.bool inf)) go ok0 := (b3.block go (Array.getElem?_eq_some_iff.1 ho).1 hne).trans ho
  exact (h.apart hs b3).apartB ho2 (Bt.setCell go _ 0 _)
theorem sumW_blocks {W : World} {gs go : Nat} (vx vy : Value) (inf ok : Bool) (k : Nat) (hk : k < W.heap.size) (h1 : k ≠ gs) (h2 : k ≠ go) : (sumW W gs go vx vy inf ok).heap[k]? = W.heap[k]? := by
  have b3 := Bt.set3 W gs vx vy (.bool inf)
  exact ((Bt.setCell go _ 0 (.bool ok)).block k (Nat.lt_of_lt_of_le hk b3.size) h2).trans (b3.block k hk h1)
theorem sumW_sum {W : World} {gs go : Nat} {c0 c1 c2 : Value} (hs : PSl W gs c0 c1 c2) (hne : go ≠ gs) (vx vy : Value) (inf ok : Bool) : PSl (sumW W gs go vx vy inf ok) gs vx vy (.bool inf) := by
  have s3 := hs.set3 vx vy (.bool inf)
  exact ((Bt.setCell go _ 0 (.bool ok)).block gs s3.lt (Ne.symm hne)).trans s3
theorem sumW_ok {W : World} {gs go : Nat} {ok0 : Bool} (ho : BBx W go ok0) (hne : go ≠ gs) (vx vy : Value) (inf ok : Bool) : BBx (sumW W gs go vx vy inf ok) go ok := by
  have b3 := Bt.set3 W gs vx vy (.bool inf)
  have ho2 : BBx (((W.setCell ⟨gs, 0, none⟩ vx).setCell ⟨gs, 1, none⟩ vy).setCell ⟨gs, 2, none⟩ (.bool inf)) go ok0 := (b3.block go (Array.getElem?_eq_some_iff.1 ho).1 hne).trans ho
  have := heap_set7 _ go 0 (.bool ok) _ _ _ ho2
  exact this
theorem sumW_below {w W : World} {gs go : Nat} (h : Below w.heap.size w W) (h1 : w.heap.size ≤ gs) (h2 : w.heap.size ≤ go) (vx vy : Value) (inf ok : Bool) : Below w.heap.size w (sumW W gs go vx vy inf ok) := by
  have b3 := Bt.set3 W gs vx vy (.bool inf)
  have b4 := Bt.setCell go (((W.setCell ⟨gs, 0, none⟩ vx).setCell ⟨gs, 1, none⟩ vy).setCell ⟨gs, 2, none⟩ (.bool inf)) 0 (.bool ok)
  exact h.trans ((b3.below h1 h.size).trans (b4.below h2 (Nat.le_trans h.size b3.size)))
theorem sumW_keeps (W : World) (gs go : Nat) (vx vy : Value) (inf ok : Bool) : KeepsOthers W (sumW W gs go vx vy inf ok) := (((KeepsOthers.setCell _ _ _).trans (KeepsOthers.setCell _ _ _)).trans (KeepsOthers.setCell _ _ _)).trans (KeepsOthers.setCell _ _ _)
theorem bitsAt_sum {W : World} {g3 g4 : Nat} {V : Int} {N gs go : Nat} {a1 a2 : Option Addr} {l1 k1 l2 k2 : Nat} {b ok0 : Bool} (h : BitsAt W g3 g4 V N) (hs : PSl W gs (.slice a1 l1 k1) (.slice a2 l2 k2) (.bool b)) (ho : BBx W go ok0) (hne : go ≠ gs) (h3 : gs ≠ g3 ∧ go ≠ g3) (vx vy : Value) (inf ok : Bool) : BitsAt (sumW W gs go vx vy inf ok) g3 g4 V N := by
  obtain ⟨ao, la, ca, xs, e1, e2, e3, e4, e5, e6, e7⟩ := h
  have hn4 : g4 ≠ gs := fun e => by
    subst e
    have := hs.facts.1.symm.trans e3
    cases this
  have hn5 : g4 ≠ go := fun e => by
    subst e
    rw [cell_of_row _ _ _ _ _ _ ho] at e3
    cases e3
  have hz := (sumW_keeps W gs go vx vy inf ok).size
  have hb := sumW_blocks (W := W) (gs := gs) (go := go) vx vy inf ok
  have hv := nv_sum (L := la) (v := .slice ao la ca) (n := val B64 xs) ⟨ao, la, ca, xs, rfl, e5, rfl, Nat.le_refl _⟩ hs ho hne vx vy inf ok
  generalize sumW W gs go vx vy inf ok = W' at *
  have c4 : W'.cell? ⟨g4, 0, none⟩ = some (.int .i64 N) := by rw [← e3]; exact World.cell?_of_block (w := W) (hb g4 e2 hn4 hn5)
  have c3 : W'.cell? ⟨g3, 0, none⟩ = some (.slice ao la ca) := by rw [← e4]; exact World.cell?_of_block (w := W) (hb g3 e1 (Ne.symm h3.1) (Ne.symm h3.2))
  obtain ⟨p1, p2, p3, p4, ee, q1, q2, q3⟩ := hv
  injection ee with u1 u2 u3
  subst u1 u2 u3
  exact ⟨ao, la, ca, p4, Nat.lt_of_lt_of_le e1 hz, Nat.lt_of_lt_of_le e2 hz, c4, c3, q1, by rw [q2]; exact e6, e7⟩
/-- The state with another sum. -/
theorem MSt.next {w : World} {b gs go : Nat} {cv pv : Array Value} {K : Cz} {P : Pz} {L : Nat} {x1 y1 x1' y1' : Option Addr} {x2 x3 y2 y3 x2' x3' y2' y3' : Nat} {q q' : Pz} {W : World} (h : MSt w b gs go cv pv K P L x1 y1 x2 x3 y2 y3 q W) (hg : b + 1 + 1 + 1 < gs ∧ gs + 1 = go ∧ w.heap.size = b) (nx : Nv W (.slice x1' x2' x3') q'.x L) (ny : Nv W (.slice y1' y2' y3') q'.y L) : MSt w b gs go cv pv K P L x1' y1' x2' x3' y2' y3' q' (sumW W gs go (.slice x1' x2' x3') (.slice y1' y2' y3') q'.inf true) := by
  have hne : go ≠ gs := by omega
  have nn : ∀ {v : Value} {n : Int}, Nv W v n L → Nv (sumW W gs go (.slice x1' x2' x3') (.slice y1' y2' y3') q'.inf true) v n L := fun hv => nv_sum hv h.sum h.ok hne _ _ _ _
  have bk := fun k hk h1 h2 => sumW_blocks (W := W) (gs := gs) (go := go) (.slice x1' x2' x3') (.slice y1' y2' y3') q'.inf true k hk h1 h2
  refine ⟨⟨(bk b (Array.getElem?_eq_some_iff.1 h.fr.c).1 (by omega) (by omega)).trans h.fr.c, (bk _ (Array.getElem?_eq_some_iff.1 h.fr.p).1 (by omega) (by omega)).trans h.fr.p, (bk _ h.fr.r.lt (by omega) (by omega)).trans h.fr.r, (bk _ (Array.getElem?_eq_some_iff.1 h.fr.o).1 (by omega) (by omega)).trans h.fr.o⟩, sumW_sum h.sum hne _ _ _ _, nn nx, nn ny, sumW_ok h.ok hne _ _ _ _, ?_, ?_, sumW_below h.low (by omega) (by omega) _ _ _ _⟩
  · obtain ⟨g1, g2, oo, lo, co, vp, va, vb, vx, vy, vn, e, h1, h2, h3, h4, h5, h6⟩ := h.cu
    exact ⟨g1, g2, oo, lo, co, vp, va, vb, vx, vy, vn, e, nn h1, nn h2, nn h3, nn h4, nn h5, nn h6⟩
  · obtain ⟨vx, vy, e, h1, h2⟩ := h.pp
    exact ⟨vx, vy, e, nn h1, nn h2⟩
/-- Between two bits. -/
def MGo (w : World) (b gs go : Nat) (cv pv : Array Value) (K : Cz) (P : Pz) (L : Nat) (pre : List (Int × Bool)) (W : World) : Prop := ∃ x1 y1 x2 x3 y2 y3 q, MF K P pre q ∧ MSt w b gs go cv pv K P L x1 y1 x2 x3 y2 y3 q W
/-- A sum that isn't. -/
def MEnd (w : World) (b : Nat) (K : Cz) (P : Pz) (c : Code) (pre : List (Int × Bool)) (W : World) : Prop := c = .ret ∧ (PSl W (b + 1 + 1) (.slice none 0 0) (.slice none 0 0) (.bool false) ∧ BBx W (b + 1 + 1 + 1) false) ∧ Below w.heap.size w W ∧ ∃ pre' x q, pre = pre' ++ [x] ∧ MF K P pre' q ∧ stepR K P x.2 q none
theorem MGo.kept {w : World} {b gs go : Nat} {cv pv : Array Value} {K : Cz} {P : Pz} {L B : Nat} (hB : w.heap.size ≤ B) : OwnFrom B (MGo w b gs go cv pv K P L) := by
  rintro pre A A' row ⟨x1, y1, x2, x3, y2, y3, q, h1, h2⟩ hg hr
  exact ⟨x1, y1, x2, x3, y2, y3, q, h1, h2.kept hB hg hr⟩
theorem MEnd.kept {w : World} {b : Nat} {K : Cz} {P : Pz} {B : Nat} (hB : w.heap.size ≤ B) (c : Code) : OwnFrom B (MEnd w b K P c) := by
  rintro pre A A' row ⟨h1, h2, h3, h4⟩ hg hr
  have hr2 := fun r e => (hr r e).2
  exact ⟨h1, ⟨blk_kept h2.1 hg hr2, blk_kept h2.2 hg hr2⟩, ownFrom_below (β := Unit) (Nat.le_refl _) hB () A A' row h3 hg hr, h4⟩
theorem BBx.facts {W : World} {g : Nat} {b : Bool} (h : BBx W g b) : W.cell? ⟨g, 0, none⟩ = some (.bool b) ∧ W.frozen? ⟨g, 0, none⟩ = false := by
  refine ⟨?_, ?_⟩
  · rw [cell_of_row _ _ _ _ _ _ h]; rfl
  · exact frozen_of_row W g 0 _ _ h
theorem FrC.cells {W : World} {b : Nat} {c0 c1 c2 c3 c4 c5 c6 c7 c8 p0 p1 p2 : Value} (h : FrC W b #[c0, c1, c2, c3, c4, c5, c6, c7, c8] #[p0, p1, p2]) : (W.cell? ⟨b, 0, none⟩ = some c0 ∧ W.cell? ⟨b, 1, none⟩ = some c1 ∧ W.cell? ⟨b, 2, none⟩ = some c2 ∧ W.cell? ⟨b, 3, none⟩ = some c3 ∧ W.cell? ⟨b, 4, none⟩ = some c4 ∧ W.cell? ⟨b, 5, none⟩ = some c5 ∧ W.cell? ⟨b, 6, none⟩ = some c6 ∧ W.cell? ⟨b, 7, none⟩ = some c7 ∧ W.cell? ⟨b, 8, none⟩ = some c8) ∧ W.cell? ⟨b + 1, 0, none⟩ = some p0 ∧ W.cell? ⟨b + 1, 1, none⟩ = some p1 ∧ W.cell? ⟨b + 1, 2, none⟩ = some p2 := by
  refine ⟨⟨?_, ?_, ?_, ?_, ?_, ?_, ?_, ?_, ?_⟩, ?_, ?_, ?_⟩
  all_goals first
    | (rw [cell_of_row _ _ _ _ _ _ h.c]; rfl)
    | (rw [cell_of_row _ _ _ _ _ _ h.p]; rfl)
/-- The end of a sum that isn't. -/
theorem MSt.fails {w : World} {b gs go : Nat} {cv pv : Array Value} {K : Cz} {P : Pz} {L : Nat} {x1 y1 : Option Addr} {x2 x3 y2 y3 : Nat} {q : Pz} {W : World} (h : MSt w b gs go cv pv K P L x1 y1 x2 x3 y2 y3 q W) (hg : b + 1 + 1 + 1 < gs ∧ gs + 1 = go ∧ w.heap.size = b) {pre : List (Int × Bool)} {x : Int × Bool} {q0 : Pz} (hm : MF K P pre q0) (hs : stepR K P x.2 q0 none) :
    KeepsOthers W (((((sumW W gs go (.slice none 0 0) (.slice none 0 0) false false).setCell ⟨b + 1 + 1, 0, none⟩ (.slice none 0 0)).setCell ⟨b + 1 + 1, 1, none⟩ (.slice none 0 0)).setCell ⟨b + 1 + 1, 2, none⟩ (.bool false)).setCell ⟨b + 1 + 1 + 1, 0, none⟩ (.bool false)) ∧ MEnd w b K P .ret (pre ++ [x]) (((((sumW W gs go (.slice none 0 0) (.slice none 0 0) false false).setCell ⟨b + 1 + 1, 0, none⟩ (.slice none 0 0)).setCell ⟨b + 1 + 1, 1, none⟩ (.slice none 0 0)).setCell ⟨b + 1 + 1, 2, none⟩ (.bool false)).setCell ⟨b + 1 + 1 + 1, 0, none⟩ (.bool false)) := by
  have ks := sumW_keeps W gs go (.slice none 0 0) (.slice none 0 0) false false
  have bk := fun k hk h1 h2 => sumW_blocks (W := W) (gs := gs) (go := go) (.slice none 0 0) (.slice none 0 0) false false k hk h1 h2
  have lo := sumW_below (gs := gs) (go := go) h.low (by omega) (by omega) (.slice none 0 0) (.slice none 0 0) false false
  have r1 : PSl _ (b + 1 + 1) (.slice none 0 0) (.slice none 0 0) (.bool false) := (bk _ h.fr.r.lt (by omega) (by omega)).trans h.fr.r
  have o1 : BBx _ (b + 1 + 1 + 1) false := (bk _ (Array.getElem?_eq_some_iff.1 h.fr.o).1 (by omega) (by omega)).trans h.fr.o
  generalize sumW W gs go (.slice none 0 0) (.slice none 0 0) false false = W2 at *
  refine ⟨ks.trans (sumW_keeps W2 (b + 1 + 1) (b + 1 + 1 + 1) _ _ false false), rfl, ⟨sumW_sum r1 (by omega) _ _ _ _, sumW_ok o1 (by omega) _ _ _ _⟩, sumW_below lo (by omega) (by omega) _ _ _ _, pre, x, q0, rfl, hm, hs⟩
theorem ret_ptb {fn : Func} {p u : Tmp} (h : fn.results = #[.cell p 30, .cell u 4]) (tmps : Array Value) (w : World) (g g' : Nat) (c0 c1 c2 : Value) (b : Bool) (hp : tmps.getD p undef = .pointer (some ⟨g, 0, none⟩)) (hu : tmps.getD u undef = .pointer (some ⟨g', 0, none⟩)) (hg : PSl w g c0 c1 c2) (hb : BBx w g' b) :
    (results fn tmps).run Try.prog w = .ok (.tuple #[.agg #[c0, c1, c2], .bool b]) w := by
  have hp' : tmps[p]?.getD undef = .pointer (some ⟨g, 0, none⟩) := by simpa using hp
  have hu' : tmps[u]?.getD undef = .pointer (some ⟨g', 0, none⟩) := by simpa using hu
  have hl := run_loadVar_row (P := Try.prog) w g 30 30 #[c0, c1, c2] (0, 0) _ hg Try.underlying30 rfl sizePt
  have hc := hb.facts.1
  obtain ⟨x0, x1, x2, _⟩ := hg.facts
  simp [results, h, hp', hu', asAddr, go_sem, x0, x1, x2, hc]
end Go.Proofs.Ytnacgkkklmlhaaa
/-
  The code's Base, Size, rightSide, On.
-/
namespace Go.Proofs.Ytnacgkkklmlhaaa
open Go.Shelf Go.RowKit
set_option linter.unusedVariables false
set_option linter.unusedSimpArgs false

/-- Two blocks, one behind the other. -/
theorem pair_new (w : World) (cv pv : Array Value) (t t' : TypeId) : ((w.alloc (.cells cv t)).alloc (.cells pv t')).heap[w.heap.size]? = some (.cells cv t (0, 0)) ∧ ((w.alloc (.cells cv t)).alloc (.cells pv t')).heap[w.heap.size + 1]? = some (.cells pv t' (0, 0)) ∧ Below w.heap.size w ((w.alloc (.cells cv t)).alloc (.cells pv t')) := by
  have z1 := alloc_sz7 w (.cells cv t)
  have n1 := heap_alloc_new w (.cells cv t)
  have n2 := heap_alloc_new (w.alloc (.cells cv t)) (.cells pv t')
  rw [z1] at n2
  exact ⟨heap_new n1 (by omega), n2, ((Below.refl w.heap.size w).alloc (Nat.le_refl _) _).alloc (by omega) _⟩
theorem blk_old {W W' : World} {k : Nat} {o : Obj} (h : W.heap[k]? = some o) (hb : Below W.heap.size W W') : W'.heap[k]? = some o := (hb.block _ (Array.getElem?_eq_some_iff.1 h).1).trans h
def baseZ (K : Cz) : Pz := ⟨K.gx, K.gy, false⟩
def rightZ (K : Cz) (x : Int) : Int := ((x * (((x * x) % K.p + K.a) % K.p)) % K.p + K.b) % K.p
/-- Is it on the curve? -/
def onB (K : Cz) (P : Pz) : Bool := decide (K.p ≠ 0) && (P.inf || (decide (P.x < K.p) && (decide (P.y < K.p) && decide ((P.y * P.y) % K.p = rightZ K P.x))))
theorem cmp_nv (a b : Value) (x y : Int) (L : Nat) (w : World) (ha : Nv w a x L) (hb : Nv w b y L) : Calls Try.prog 45 #[a, b] w fun e w' => e = .returned (.int .i64 (cmpI x y)) ∧ Below w.heap.size w w' := by
  obtain ⟨ao, la, ca, xs, rfl, h1, rfl, h2⟩ := ha
  obtain ⟨bo, lb, cb, ys, rfl, k1, rfl, k2⟩ := hb
  refine (Cmp_any ao bo la ca lb cb xs ys w h1 k1).mono ?_
  rintro e w' ⟨rfl, k, rfl⟩
  exact ⟨rfl, drew7 _ _⟩
end Go.Proofs.Ytnacgkkklmlhaaa
/-
  The code's Check.
-/
namespace Go.Proofs.Ytnacgkkklmlhaaa
open Go.Shelf Go.RowKit
set_option linter.unusedVariables false
set_option linter.unusedSimpArgs false

theorem of_nv (n : Int) (w : World) (h0 : 0 ≤ n) (h1 : n < 18446744073709551616) : Calls Try.prog 54 #[.int .u64 n] w fun e w' => ∃ v, e = .returned v ∧ Na w w' v n 1 := by
  refine (Of_any n w (by omega) (by omega)).mono ?_
  rintro e w' ⟨v, rfl, h⟩
  exact ⟨v, rfl, h.na⟩
def reducedB (K : Cz) : Bool := decide (K.a < K.p) && (decide (K.b < K.p) && (decide (K.gx < K.p) && decide (K.gy < K.p)))
end Go.Proofs.Ytnacgkkklmlhaaa
/-
  The code's discriminant; what isSized asks.
-/
namespace Go.Proofs.Ytnacgkkklmlhaaa
open Go.Shelf Go.RowKit
set_option linter.unusedVariables false
set_option linter.unusedSimpArgs false

def discZ (K : Cz) : Int := ((4 * ((K.a * ((K.a * K.a) % K.p)) % K.p)) % K.p + (27 * ((K.b * K.b) % K.p)) % K.p) % K.p
/-- Are the sizes right? -/
def sizedB (K : Cz) : Bool := decide (blen K.p.toNat ≤ 256) && (decide (blen K.n.toNat ≤ 257) && (decide (3 < K.p) && (decide (K.p % 2 = 1) && decide (1 < K.n))))
theorem len_nv (a : Value) (x : Int) (L : Nat) (w : World) (ha : Nv w a x L) (hL : L ≤ 1000) : Calls Try.prog 38 #[a] w fun e w' => (e = .returned (.int .i64 (blen x.toNat : Nat)) ∧ blen x.toNat ≤ 64000) ∧ w' = w := by
  obtain ⟨ao, la, ca, xs, rfl, h1, rfl, h2⟩ := ha
  refine (Len_any ao la ca xs w h1).mono ?_
  rintro e w' ⟨rfl, rfl⟩
  have := lenOf_le h1.dg 1000 (by have := h1.len; omega)
  rw [lenOf_eq xs h1.dg] at this ⊢
  exact ⟨⟨rfl, this⟩, rfl⟩
end Go.Proofs.Ytnacgkkklmlhaaa
