import Derived.Test.YtnacgkkklmlhaaaK02
import Derived.Laws.ResultCell
/-
  A region that draws its order and makes memory: facts, one an operation, told once for all orders. No program in sight.
-/
namespace Go.Proofs.Ytnacgkkklmlhaaa
open Go.Shelf Go.RowKit
set_option linter.unusedVariables false
set_option linter.unusedSimpArgs false

/-- Where operation i puts what it yields. -/
def dstOf (ops : Array Oper) (i : Nat) : Nat := ((ops[i]?).bind (·.dst)).getD 0
def depsOf (ops : Array Oper) (i : Nat) : List Nat := ((ops[i]?).map (fun o => o.after.toList.map (·.on))).getD []
def reachL (ops : Array Oper) : Nat → List Nat → List Nat
  | 0, S => S
  | n + 1, S => reachL ops n (S ++ S.flatMap (depsOf ops))
/-- What is asked of the text of such a region: of the operations below m, and of those behind. -/
def opOk (md : Region.Mode) (ops : Array Oper) (i : Nat) : Bool :=
  match ops[i]? with
  | some o => o.dst.isSome && o.guard.isNone && o.after.all (fun e => Region.binds md e && decide (e.on < i))
  | none => false
def lateOk (md : Region.Mode) (ops : Array Oper) (m n i : Nat) : Bool :=
  match ops[i]? with
  | some o => o.after.all (fun e => Region.binds md e) && (o.after.any (fun e => decide (m ≤ e.on)) || (List.range m).all (fun j => (reachL ops n (depsOf ops i)).contains j))
  | none => false
def factsOk (md : Region.Mode) (ops : Array Oper) (m n : Nat) : Bool :=
  decide (m ≤ ops.size) && (List.range m).all (opOk md ops) && (List.range m).all (fun i => (List.range m).all fun j => decide (i = j) || !(dstOf ops i == dstOf ops j)) && (List.range ops.size).all (fun i => decide (i < m) || lateOk md ops m n i)
theorem put_get (a : Act) (d s : Nat) (v : Value) (h : d ≠ s) : (a.put (some d) v).tmps.getD s undef = a.tmps.getD s undef := by
  simp only [Act.put, Array.getD_eq_getD_getElem?]
  rw [Array.getElem?_setIfInBounds_ne h]
theorem put_self (a : Act) (d : Nat) (v : Value) (h : d < a.tmps.size) : (a.put (some d) v).tmps.getD d undef = v := by
  simp only [Act.put, Array.getD_eq_getD_getElem?]
  rw [Array.getElem?_setIfInBounds_self_of_lt h]
  rfl
section
variable {P : Program} {ops : Array Oper} {Q : Exit → Act → World → Prop} {md : Region.Mode}
theorem reach_sound {T : Nat → Prop} (dc : ∀ i, T i → ∀ j ∈ depsOf ops i, T j) : ∀ (n : Nat) (S : List Nat), (∀ i ∈ S, T i) → ∀ i ∈ reachL ops n S, T i
  | 0, S, h, i, hi => h i hi
  | n + 1, S, h, i, hi => by
    refine reach_sound dc n _ ?_ i hi
    intro j hj
    rcases List.mem_append.1 hj with hj | hj
    · exact h j hj
    · obtain ⟨k, hk, hj⟩ := List.mem_flatMap.1 hj
      exact dc k (h k hk) j hj
/-- What holds while operations below m have come, those that are listed. -/
structure FInv (ops : Array Oper) (m : Nat) (F : Nat → Value → World → Prop) (a0 : Act) (w0 : World) (listed : Array Bool) (a : Act) (w : World) : Prop where
  size : listed.size = ops.size
  defers : a.defers = a0.defers
  slots : a.tmps.size = a0.tmps.size
  old : ∀ s, (∀ j, j < m → dstOf ops j ≠ s) → a.tmps.getD s undef = a0.tmps.getD s undef
  below : Below w0.heap.size w0 w
  facts : ∀ i, i < m → listed.getD i false = true → F i (a.tmps.getD (dstOf ops i) undef) w
  none : ∀ i, m ≤ i → listed.getD i false = false
  down : ∀ i, i < m → listed.getD i false = true → ∀ j ∈ depsOf ops i, listed.getD j false = true
theorem lget_set (l : Array Bool) (i j : Nat) (hi : i < l.size) : (l.setIfInBounds i true).getD j false = if i = j then true else l.getD j false := by
  simp only [Array.getD_eq_getD_getElem?]
  by_cases h : i = j
  · subst h
    rw [if_pos rfl, Array.getElem?_setIfInBounds_self_of_lt hi]
    rfl
  · rw [if_neg h, Array.getElem?_setIfInBounds_ne h]
theorem ready_mem {listed : Array Bool} {i : Nat} (h : i ∈ Region.ready md ops listed) : i < ops.size ∧ listed.getD i true = false ∧ ∃ o, ops[i]? = some o ∧ ∀ e ∈ o.after, Region.binds md e = true → listed.getD e.on false = true := by
  unfold Region.ready at h
  rw [List.mem_filter, List.mem_range] at h
  obtain ⟨h1, h2⟩ := h
  rw [Bool.and_eq_true] at h2
  obtain ⟨h2, h3⟩ := h2
  refine ⟨h1, by simpa using h2, ops[i], Array.getElem?_eq_getElem h1, ?_⟩
  rw [Array.getElem?_eq_getElem h1] at h3
  simp only [Option.map_some, Option.getD_some] at h3
  intro e he hb
  rw [Array.all_eq_true'] at h3
  have := h3 e he
  rw [hb] at this
  simpa using this
/-- How many of the first m have not come. -/
def unl (m : Nat) (listed : Array Bool) : Nat := ((List.range m).filter (fun j => !listed.getD j false)).length
theorem filter_drop (l : List Nat) (p q : Nat → Bool) (i : Nat) (hn : l.Nodup) (hi : i ∈ l) (hp : p i = true) (hq : ∀ j, q j = if i = j then false else p j) : (l.filter q).length + 1 = (l.filter p).length := by
  induction l with
  | nil => cases hi
  | cons x l ih =>
    rw [List.nodup_cons] at hn
    by_cases hx : x = i
    · subst hx
      have hqx : q x = false := by rw [hq, if_pos rfl]
      rw [List.filter_cons, List.filter_cons, hqx, hp]
      simp only [if_true, List.length_cons]
      have : l.filter q = l.filter p := by
        apply List.filter_congr
        intro j hj
        rw [hq, if_neg (by rintro rfl; exact hn.1 hj)]
      simp [this]
    · have hi' : i ∈ l := by
        rcases List.mem_cons.1 hi with h | h
        · exact absurd h.symm hx
        · exact h
      have hqx : q x = p x := by rw [hq, if_neg (fun h => hx h.symm)]
      rw [List.filter_cons, List.filter_cons, hqx]
      have := ih hn.2 hi'
      by_cases hpx : p x = true
      · rw [if_pos hpx, if_pos hpx, List.length_cons, List.length_cons]; omega
      · rw [if_neg hpx, if_neg hpx]; exact this
theorem unl_set (m : Nat) (listed : Array Bool) (i : Nat) (hi : i < m) (hs : i < listed.size) (h : listed.getD i false = false) : unl m (listed.setIfInBounds i true) + 1 = unl m listed := by
  unfold unl
  apply filter_drop (i := i)
  · exact List.nodup_range
  · exact List.mem_range.2 hi
  · rw [h]; rfl
  · intro j
    rw [lget_set _ _ _ hs]
    by_cases hj : i = j
    · rw [if_pos hj, if_pos hj]; rfl
    · rw [if_neg hj, if_neg hj]
theorem getD_or (l : Array Bool) (i : Nat) (hi : i < l.size) : l.getD i true = l.getD i false := by
  simp only [Array.getD_eq_getD_getElem?]
  rw [Array.getElem?_eq_getElem hi]
  rfl
/-- The rule. -/
theorem wpAny_facts (m n : Nat) (F : Nat → Value → World → Prop) (a0 : Act) (w0 : World) (hok : factsOk md ops m n = true) (hsl : ∀ i, i < m → dstOf ops i < a0.tmps.size)
    (keep : ∀ i v w w', i < m → F i v w → Below w.heap.size w w' → F i v w')
    (step : ∀ i o, i < m → ops[i]? = some o → ∀ a w, a.defers = a0.defers → a.tmps.size = a0.tmps.size → Below w0.heap.size w0 w → (∀ s, (∀ j, j < m → dstOf ops j ≠ s) → a.tmps.getD s undef = a0.tmps.getD s undef) → (∀ j ∈ depsOf ops i, F j (a.tmps.getD (dstOf ops j) undef) w) →
      ∀ KK : Act → World → Prop, (∀ v w', Below w.heap.size w w' → F i v w' → KK (a.put o.dst v) w') → o.wp P a w KK Q)
    (rest : ∀ listed a w, FInv ops m F a0 w0 listed a w → (∀ i, i < m → listed.getD i false = true) → wpAny P md ops Q (ops.size - m) listed a w) :
    ∀ k listed a w, FInv ops m F a0 w0 listed a w → unl m listed = k → wpAny P md ops Q (k + (ops.size - m)) listed a w
  | 0, listed, a, w, h, hk => by
    rw [Nat.zero_add]
    refine rest listed a w h fun i hi => ?_
    have h1 : (List.range m).filter (fun j => !listed.getD j false) = [] := List.length_eq_zero_iff.1 hk
    rw [List.filter_eq_nil_iff] at h1
    have := h1 i (List.mem_range.2 hi)
    simpa using this
  | k + 1, listed, a, w, h, hk => by
    unfold factsOk at hok
    simp only [Bool.and_eq_true, decide_eq_true_eq, List.all_eq_true, List.mem_range, Bool.or_eq_true] at hok
    obtain ⟨⟨⟨hm, h1⟩, h2⟩, h3⟩ := hok
    have hop : ∀ i, i < m → ∃ o, ops[i]? = some o ∧ o.dst = some (dstOf ops i) ∧ o.guard = none ∧ ∀ e ∈ o.after, Region.binds md e = true ∧ e.on < i := by
      intro i hi
      have h4 := h1 i hi
      unfold opOk at h4
      rw [Array.getElem?_eq_getElem (show i < ops.size by omega)] at h4
      simp only [Bool.and_eq_true, Array.all_eq_true', decide_eq_true_eq] at h4
      refine ⟨_, Array.getElem?_eq_getElem (show i < ops.size by omega), ?_, ?_, h4.2⟩
      · unfold dstOf
        rw [Array.getElem?_eq_getElem (show i < ops.size by omega)]
        have := h4.1.1
        show (ops[i]).dst = some (((ops[i]).dst).getD 0)
        revert this
        cases (ops[i]).dst with
        | none => intro h; cases h
        | some d => intro _; rfl
      · have := h4.1.2
        revert this
        cases (ops[i]).guard with
        | none => intro _; rfl
        | some d => intro h; cases h
    have hdep : ∀ i o, ops[i]? = some o → ∀ j, j ∈ depsOf ops i ↔ ∃ e ∈ o.after, e.on = j := by
      intro i o ho j
      unfold depsOf
      rw [ho]
      simp
    -- one of them has not come
    obtain ⟨u, hu, hun, hul⟩ : ∃ u, u < m ∧ listed.getD u false = false ∧ ∀ v, v < u → listed.getD v false = true := by
      have hex : ∃ u, u < m ∧ listed.getD u false = false := by
        have h4 : 0 < unl m listed := by omega
        obtain ⟨x, hx⟩ := List.exists_mem_of_length_pos h4
        rw [List.mem_filter, List.mem_range] at hx
        exact ⟨x, hx.1, by simpa using hx.2⟩
      obtain ⟨u, hu⟩ := hex
      induction u using Nat.strongRecOn with
      | ind u ih =>
        by_cases hv : ∃ v, v < u ∧ listed.getD v false = false
        · obtain ⟨v, hv1, hv2⟩ := hv
          exact ih v hv1 ⟨by omega, hv2⟩
        · refine ⟨u, hu.1, hu.2, fun v hvu => ?_⟩
          cases hq : listed.getD v false with
          | true => rfl
          | false => exact absurd ⟨v, hvu, hq⟩ hv
    rw [show k + 1 + (ops.size - m) = (k + (ops.size - m)) + 1 by omega]
    refine ⟨fun hr => ?_, fun i hi => ?_⟩
    · -- the least of them is ready
      exfalso
      have hmem : u ∈ Region.ready md ops listed := by
        unfold Region.ready
        rw [List.mem_filter, List.mem_range]
        obtain ⟨o, ho, _, _, hd⟩ := hop u hu
        refine ⟨by omega, ?_⟩
        rw [Bool.and_eq_true]
        refine ⟨by rw [getD_or _ _ (by rw [h.size]; omega), hun]; rfl, ?_⟩
        rw [ho]
        simp only [Option.map_some, Option.getD_some]
        rw [Array.all_eq_true']
        intro e he
        rw [hul _ (hd e he).2]
        simp
      rw [hr] at hmem
      cases hmem
    · obtain ⟨hi1, hi2, o, ho, hd⟩ := ready_mem hi
      rw [getD_or _ _ (by rw [h.size]; omega)] at hi2
      by_cases him : i < m
      · obtain ⟨o', ho', hdst, hg, hb⟩ := hop i him
        rw [ho] at ho'
        cases ho'
        unfold wpOp
        rw [ho]
        simp only
        rw [if_pos (by unfold Region.wanted; rw [hg])]
        refine .inl (Oper.wp_mono ?_ (step i o him ho a w h.defers h.slots h.below h.old ?_ (fun a' w' => ∃ v, a' = a.put o.dst v ∧ Below w.heap.size w w' ∧ F i v w') (fun v w' h1 h2 => ⟨v, rfl, h1, h2⟩)))
        · rintro a' w' ⟨v, rfl, hbw, hv⟩
          refine wpAny_facts m n F a0 w0 (by unfold factsOk; simp only [Bool.and_eq_true, decide_eq_true_eq, List.all_eq_true, List.mem_range, Bool.or_eq_true]; exact ⟨⟨⟨hm, h1⟩, h2⟩, h3⟩) hsl keep step rest k _ _ _ ?_ ?_
          · rw [hdst]
            refine ⟨by simp [h.size], h.defers, by simp [Act.put, h.slots], ?_, h.below.trans (hbw.mono h.below.size), ?_, ?_, ?_⟩
            · intro s hs
              rw [put_get _ _ _ _ (hs i him)]
              exact h.old s hs
            · intro j hj hl
              rw [lget_set _ _ _ (by rw [h.size]; omega)] at hl
              by_cases hij : i = j
              · subst hij
                rw [put_self _ _ _ (by rw [h.slots]; exact hsl i him)]
                exact hv
              · rw [if_neg hij] at hl
                have h5 := h2 i him j hj
                rcases h5 with h5 | h5
                · exact absurd h5 hij
                · rw [put_get _ _ _ _ (by intro e; rw [e] at h5; simp at h5)]
                  exact keep j _ _ _ hj (h.facts j hj hl) hbw
            · intro j hj
              rw [lget_set _ _ _ (by rw [h.size]; omega), if_neg (by omega)]
              exact h.none j hj
            · intro j hj hl x hx
              rw [lget_set _ _ _ (by rw [h.size]; omega)] at hl ⊢
              by_cases hix : i = x
              · rw [if_pos hix]
              · rw [if_neg hix]
                by_cases hij : i = j
                · subst hij
                  obtain ⟨e, he, rfl⟩ := (hdep i o ho x).1 hx
                  exact hd e he (hb e he).1
                · rw [if_neg hij] at hl
                  exact h.down j hj hl x hx
          · have := unl_set m listed i him (by rw [h.size]; omega) hi2
            omega
        · intro j hj
          obtain ⟨e, he, rfl⟩ := (hdep i o ho j).1 hj
          exact h.facts _ (by have := (hb e he).2; omega) (hd e he (hb e he).1)
      · exfalso
        have h4 := h3 i hi1
        rcases h4 with h4 | h4
        · omega
        · unfold lateOk at h4
          rw [ho] at h4
          simp only [Bool.and_eq_true, Array.all_eq_true', Bool.or_eq_true, Array.any_eq_true', decide_eq_true_eq, List.all_eq_true, List.mem_range] at h4
          obtain ⟨hbi, h4⟩ := h4
          rcases h4 with ⟨e, he, hem⟩ | h4
          · have h5 := hd e he (hbi e he)
            rw [h.none _ hem] at h5
            cases h5
          · have h5 := h4 u hu
            have h6 : u ∈ reachL ops n (depsOf ops i) := by simpa using h5
            have h7 := reach_sound (ops := ops) (T := fun j => listed.getD j false = true) (by
              intro x hx j hj
              by_cases hxm : x < m
              · exact h.down x hxm hx j hj
              · rw [h.none x (by omega)] at hx; cases hx) n (depsOf ops i) (by
              intro j hj
              obtain ⟨e, he, rfl⟩ := (hdep i o ho j).1 hj
              exact hd e he (hbi e he)) u h6
            rw [hun] at h7
            cases h7
theorem FInv.list {m : Nat} {F : Nat → Value → World → Prop} {a0 : Act} {w0 : World} {listed : Array Bool} {a : Act} {w : World} (h : FInv ops m F a0 w0 listed a w) (hm : m ≤ ops.size) (hall : ∀ i, i < m → listed.getD i false = true) : listed = (List.replicate m true ++ List.replicate (ops.size - m) false).toArray := by
  apply Array.ext
  · simp [h.size]; omega
  · intro i h1 h2
    have h3 : listed.getD i false = listed[i] := by
      simp only [Array.getD_eq_getD_getElem?]
      rw [Array.getElem?_eq_getElem h1]
      rfl
    rw [← h3]
    by_cases hi : i < m
    · rw [hall i hi]
      simp [List.getElem_append, hi]
    · rw [h.none i (by omega)]
      simp [List.getElem_append, hi]
/-- An array as it stands. -/
theorem arr_of (t : Array Value) (n : Nat) (h : t.size = n) : t = ((List.range n).map fun i => t.getD i undef).toArray := by
  apply Array.ext
  · simp [h]
  · intro i h1 h2
    simp [Array.getD_eq_getD_getElem?, h1]
/-- The rule, from the region's beginning on. -/
theorem wp_region_facts {id : Nat} {a0 : Act} {w0 : World} (m n : Nat) (F : Nat → Value → World → Prop) (hmx : P.follows .mixedOrders = true) (hok : factsOk .any ops m n = true) (hsa : (List.range m).all (fun i => decide (dstOf ops i < a0.tmps.size)) = true)
    (keep : ∀ i v w w', i < m → F i v w → Below w.heap.size w w' → F i v w')
    (step : ∀ i o, i < m → ops[i]? = some o → ∀ a w, a.defers = a0.defers → a.tmps.size = a0.tmps.size → Below w0.heap.size w0 w → (∀ s, (∀ j, j < m → dstOf ops j ≠ s) → a.tmps.getD s undef = a0.tmps.getD s undef) → (∀ j ∈ depsOf ops i, F j (a.tmps.getD (dstOf ops j) undef) w) →
      ∀ KK : Act → World → Prop, (∀ v w', Below w.heap.size w w' → F i v w' → KK (a.put o.dst v) w') → o.wp P a w KK Q)
    (rest : ∀ listed a w, FInv ops m F a0 w0.drew listed a w → (∀ i, i < m → listed.getD i false = true) → wpAny P .any ops Q (ops.size - m) listed a w) : (Code.region id ops true).wp P Q a0 w0 := by
  have hm : m ≤ ops.size := by
    unfold factsOk at hok
    simp only [Bool.and_eq_true, decide_eq_true_eq] at hok
    exact hok.1.1.1
  have hrep : ∀ i, (Array.replicate ops.size false).getD i false = false := fun i => by
    simp only [Array.getD_eq_getD_getElem?]
    by_cases h : i < ops.size
    · rw [Array.getElem?_eq_getElem (by simpa using h)]; simp
    · rw [Array.getElem?_eq_none (by simpa using Nat.le_of_not_lt h)]; rfl
  have hsl : ∀ i, i < m → dstOf ops i < a0.tmps.size := fun i hi => by
    rw [List.all_eq_true] at hsa
    simpa using hsa i (List.mem_range.2 hi)
  refine wp_region_any hmx ?_
  have hu : unl m (Array.replicate ops.size false) = m := by
    unfold unl
    have : (List.range m).filter (fun j => !(Array.replicate ops.size false).getD j false) = List.range m := by
      rw [List.filter_eq_self]
      intro j _
      rw [hrep]
      rfl
    rw [this, List.length_range]
  have h := wpAny_facts (P := P) (Q := Q) (md := .any) m n F a0 w0.drew hok hsl keep (fun i o hi ho a w h1 h2 h3 => step i o hi ho a w h1 h2 ((Below.refl _ _).drew.trans h3)) rest m (Array.replicate ops.size false) a0 w0.drew ⟨by simp, rfl, rfl, fun _ _ => rfl, Below.refl _ _, fun i _ hl => (by rw [hrep] at hl; cases hl), fun i _ => hrep i, fun i _ hl => (by rw [hrep] at hl; cases hl)⟩ hu
  rw [show m + (ops.size - m) = ops.size by omega] at h
  exact h
end
end Go.Proofs.Ytnacgkkklmlhaaa
/-
  A region that draws its order, whatever it does: facts on slots and the world, one an operation, told once for all orders. No program in sight.
-/
namespace Go.Proofs.Ytnacgkkklmlhaaa
open Go.Shelf Go.RowKit
set_option linter.unusedVariables false
set_option linter.unusedSimpArgs false

/-- What operation i must come behind. -/
def needsOf (md : Region.Mode) (ops : Array Oper) (i : Nat) : List Nat := ((ops[i]?).map (fun o => (o.after.toList.filter (Region.binds md)).map (·.on))).getD []
def reachN (md : Region.Mode) (ops : Array Oper) : Nat → List Nat → List Nat
  | 0, S => S
  | n + 1, S => reachN md ops n ((S ++ S.flatMap (needsOf md ops)).eraseDups)
/-- What operation i stands on. -/
def reachOf (md : Region.Mode) (ops : Array Oper) (n i : Nat) : List Nat := reachN md ops n (needsOf md ops i)
def dstIs (ops : Array Oper) (i s : Nat) : Bool := match ops[i]? with
  | some o => o.dst == some s
  | none => false
/-- What is asked of the text. -/
def framesOk (md : Region.Mode) (ops : Array Oper) (n : Nat) (rd : List (List Nat)) : Bool :=
  (List.range ops.size).all fun i => (needsOf md ops i).all (fun e => decide (e < i) || !decide (e < ops.size) || (needsOf md ops e).all (fun x => decide (x ≠ i))) && (List.range ops.size).all fun j => (rd.getD j []).all fun s => !dstIs ops i s || decide (i = j) || (reachOf md ops n j).contains i
/-- There is a way: the operations in this order. -/
def orderOk (md : Region.Mode) (ops : Array Oper) : List Nat → List Nat → Bool
  | [], seen => (List.range ops.size).all fun i => seen.contains i
  | i :: l, seen => decide (i < ops.size) && (needsOf md ops i).all (fun e => seen.contains e) && orderOk md ops l (i :: seen)
section
variable {P : Program} {ops : Array Oper} {Q : Exit → Act → World → Prop} {md : Region.Mode}
theorem reachN_sound {T : Nat → Prop} (dc : ∀ i, T i → ∀ j ∈ needsOf md ops i, T j) : ∀ (n : Nat) (S : List Nat), (∀ i ∈ S, T i) → ∀ i ∈ reachN md ops n S, T i
  | 0, S, h, i, hi => h i hi
  | n + 1, S, h, i, hi => by
    refine reachN_sound dc n _ ?_ i hi
    intro j hj
    rw [List.mem_eraseDups] at hj
    rcases List.mem_append.1 hj with hj | hj
    · exact h j hj
    · obtain ⟨k, hk, hj⟩ := List.mem_flatMap.1 hj
      exact dc k (h k hk) j hj
/-- What holds while some have come. -/
structure GInv (md : Region.Mode) (ops : Array Oper) (rd : List (List Nat)) (Fs : List (List Value → World → Prop)) (a0 : Act) (w0 : World) (listed : Array Bool) (a : Act) (w : World) : Prop where
  size : listed.size = ops.size
  defers : a.defers = a0.defers
  slots : a.tmps.size = a0.tmps.size
  old : ∀ s, (∀ j, listed.getD j false = true → dstIs ops j s = false) → a.tmps.getD s undef = a0.tmps.getD s undef
  below : Below w0.heap.size w0 w
  facts : ∀ j, listed.getD j false = true → Fs.getD j (fun _ _ => True) ((rd.getD j []).map fun s => a.tmps.getD s undef) w
  down : ∀ j, listed.getD j false = true → ∀ e ∈ needsOf md ops j, listed.getD e false = true
/-- All that stands behind operation i. -/
theorem GInv.deep {rd : List (List Nat)} {Fs : List (List Value → World → Prop)} {a0 : Act} {w0 : World} {listed : Array Bool} {a : Act} {w : World} (h : GInv md ops rd Fs a0 w0 listed a w) {i : Nat} (hr : ∀ e ∈ needsOf md ops i, listed.getD e false = true) (n e : Nat) (he : e ∈ reachOf md ops n i) : Fs.getD e (fun _ _ => True) ((rd.getD e []).map fun s => a.tmps.getD s undef) w :=
  h.facts e (reachN_sound (T := fun j => listed.getD j false = true) (fun x hx j hj => h.down x hx j hj) n _ hr e he)
theorem GInv.stays {rd : List (List Nat)} {Fs : List (List Value → World → Prop)} {a0 : Act} {w0 : World} {listed : Array Bool} {a : Act} {w : World} (h : GInv md ops rd Fs a0 w0 listed a w) {i : Nat} (hi : listed.getD i false = false) (n s : Nat) (hs : (List.range ops.size).all (fun j => !dstIs ops j s || (reachOf md ops n j).contains i || decide (i = j)) = true) : a.tmps.getD s undef = a0.tmps.getD s undef := by
  refine h.old s fun j hj => ?_
  rw [List.all_eq_true] at hs
  by_cases hjs : j < ops.size
  · have := hs j (List.mem_range.2 hjs)
    rw [Bool.or_eq_true, Bool.or_eq_true] at this
    rcases this with (this | this) | this
    · simpa using this
    · have hm : i ∈ reachOf md ops n j := by simpa using this
      have := reachN_sound (md := md) (ops := ops) (T := fun j => listed.getD j false = true) (fun x hx j hj => h.down x hx j hj) n _ (h.down j hj) i hm
      rw [hi] at this
      cases this
    · have : i = j := by simpa using this
      rw [this, hj] at hi
      cases hi
  · unfold dstIs
    rw [Array.getElem?_eq_none (by omega)]
theorem needs_mem (i : Nat) (o : Oper) (ho : ops[i]? = some o) (j : Nat) : j ∈ needsOf md ops i ↔ ∃ e ∈ o.after, Region.binds md e = true ∧ e.on = j := by
  unfold needsOf
  rw [ho]
  simp [and_assoc]
theorem order_all : ∀ (l seen : List Nat) (listed : Array Bool), orderOk md ops l seen = true → (∀ i ∈ seen, listed.getD i false = true) → listed.size = ops.size → (∀ i, i < ops.size → listed.getD i false = true) ∨ ∃ i, i ∈ Region.ready md ops listed
  | [], seen, listed, h, hs, hz => by
    left
    intro i hi
    unfold orderOk at h
    rw [List.all_eq_true] at h
    exact hs i (by simpa using h i (List.mem_range.2 hi))
  | i :: l, seen, listed, h, hs, hz => by
    unfold orderOk at h
    simp only [Bool.and_eq_true, decide_eq_true_eq, List.all_eq_true] at h
    obtain ⟨⟨h1, h2⟩, h3⟩ := h
    cases hl : listed.getD i false with
    | true =>
      refine order_all l (i :: seen) listed h3 ?_ hz
      intro j hj
      rcases List.mem_cons.1 hj with rfl | hj
      · exact hl
      · exact hs j hj
    | false =>
      right
      refine ⟨i, ?_⟩
      unfold Region.ready
      rw [List.mem_filter, List.mem_range]
      refine ⟨h1, ?_⟩
      rw [Bool.and_eq_true]
      refine ⟨by rw [getD_or _ _ (by omega), hl]; rfl, ?_⟩
      rw [Array.getElem?_eq_getElem h1]
      simp only [Option.map_some, Option.getD_some]
      rw [Array.all_eq_true']
      intro e he
      by_cases hb : Region.binds md e = true
      · have := h2 e.on ((needs_mem i _ (Array.getElem?_eq_getElem h1) e.on).2 ⟨e, he, hb, rfl⟩)
        rw [hs e.on (by simpa using this)]
        simp
      · simp [hb]
/-- One step, and what is then asked. -/
def GStep (P : Program) (Q : Exit → Act → World → Prop) (ops : Array Oper) (rd : List (List Nat)) (Fs : List (List Value → World → Prop)) (w0 : World) (i : Nat) (o : Oper) (listed : Array Bool) (a : Act) (w : World) : Prop :=
  ∀ KK : Act → World → Prop,
    (∀ v w', Below w0.heap.size w0 w' → (∀ j vs, listed.getD j false = true → Fs.getD j (fun _ _ => True) vs w → Fs.getD j (fun _ _ => True) vs w') → Fs.getD i (fun _ _ => True) ((rd.getD i []).map fun s => (a.put o.dst v).tmps.getD s undef) w' → KK (a.put o.dst v) w') →
    if Region.wanted o (yielded ops a.tmps) = true then o.wp P a w KK Q else KK (a.put o.dst undef) w
theorem wpAny_frames (n : Nat) (rd : List (List Nat)) (Fs : List (List Value → World → Prop)) (ord : List Nat) (a0 : Act) (w0 : World) (hok : framesOk md ops n rd = true) (hord : orderOk md ops ord [] = true)
    (step : ∀ i o, ops[i]? = some o → ∀ listed a w, GInv md ops rd Fs a0 w0 listed a w → listed.getD i false = false → (∀ e ∈ needsOf md ops i, listed.getD e false = true) → GStep P Q ops rd Fs w0 i o listed a w)
    (done : ∀ listed a w, GInv md ops rd Fs a0 w0 listed a w → (∀ i, i < ops.size → listed.getD i false = true) → Q .normal a w) :
    ∀ k listed a w, GInv md ops rd Fs a0 w0 listed a w → unl ops.size listed = k → wpAny P md ops Q k listed a w
  | 0, listed, a, w, h, hk => by
    have hall : ∀ i, i < ops.size → listed.getD i false = true := fun i hi => by
      have h1 : (List.range ops.size).filter (fun j => !listed.getD j false) = [] := List.length_eq_zero_iff.1 hk
      rw [List.filter_eq_nil_iff] at h1
      have := h1 i (List.mem_range.2 hi)
      simpa using this
    refine ⟨?_, done listed a w h hall⟩
    cases hr : Region.ready md ops listed with
    | nil => rfl
    | cons i l =>
      obtain ⟨h1, h2, _⟩ := ready_mem (md := md) (ops := ops) (listed := listed) (i := i) (by rw [hr]; exact List.mem_cons_self)
      rw [getD_or _ _ (by rw [h.size]; exact h1), hall i h1] at h2
      cases h2
  | k + 1, listed, a, w, h, hk => by
    refine ⟨fun hr => ?_, fun i hi => ?_⟩
    · rcases order_all ord [] listed hord (fun i hi => by cases hi) h.size with h1 | ⟨i, hi⟩
      · exact done listed a w h h1
      · rw [hr] at hi; cases hi
    · obtain ⟨hi1, hi2, o, ho, hd⟩ := ready_mem hi
      rw [getD_or _ _ (by rw [h.size]; omega)] at hi2
      have hneed : ∀ e ∈ needsOf md ops i, listed.getD e false = true := fun e he => by
        obtain ⟨e', h1, h2, rfl⟩ := (needs_mem i o ho e).1 he
        exact hd e' h1 h2
      unfold wpOp
      rw [ho]
      simp only
      have hs := step i o ho listed a w h hi2 hneed (wpAny P md ops Q k (listed.setIfInBounds i true)) (by
        intro v w' hb hkeep hnew
        refine wpAny_frames n rd Fs ord a0 w0 hok hord step done k _ _ _ ?_ ?_
        · have hput : ∀ s, dstIs ops i s = false → (a.put o.dst v).tmps.getD s undef = a.tmps.getD s undef := fun s hs => by
            unfold dstIs at hs
            rw [ho] at hs
            cases hdst : o.dst with
            | none => rfl
            | some d =>
              refine put_get _ _ _ _ ?_
              rintro rfl
              simp [hdst] at hs
          refine ⟨by simp [h.size], ?_, ?_, ?_, hb, ?_, ?_⟩
          · cases hdst : o.dst <;> exact h.defers
          · rw [← h.slots]
            cases hdst : o.dst with
            | none => rfl
            | some d => simp [Act.put]
          · intro s hs
            have h1 := hs i (by rw [lget_set _ _ _ (by rw [h.size]; omega), if_pos rfl])
            rw [hput s h1]
            refine h.old s fun j hj => hs j ?_
            rw [lget_set _ _ _ (by rw [h.size]; omega)]
            split
            · rfl
            · exact hj
          · intro j hj
            rw [lget_set _ _ _ (by rw [h.size]; omega)] at hj
            by_cases hij : i = j
            · subst hij
              exact hnew
            · rw [if_neg hij] at hj
              have h5 := hkeep j _ hj (h.facts j hj)
              have e : ((rd.getD j []).map fun s => (a.put o.dst v).tmps.getD s undef) = ((rd.getD j []).map fun s => a.tmps.getD s undef) := by
                apply List.map_congr_left
                intro s hs
                refine hput s ?_
                unfold framesOk at hok
                rw [List.all_eq_true] at hok
                have h6 := hok i (List.mem_range.2 hi1)
                rw [Bool.and_eq_true, List.all_eq_true, List.all_eq_true] at h6
                by_cases hjs : j < ops.size
                · have h7 := h6.2 j (List.mem_range.2 hjs)
                  rw [List.all_eq_true] at h7
                  have h8 := h7 s hs
                  rw [Bool.or_eq_true, Bool.or_eq_true] at h8
                  rcases h8 with (h8 | h8) | h8
                  · simpa using h8
                  · exact absurd (by simpa using h8) hij
                  · have hm : i ∈ reachOf md ops n j := by simpa using h8
                    have := reachN_sound (md := md) (ops := ops) (T := fun j => listed.getD j false = true) (fun x hx j hj => h.down x hx j hj) n _ (h.down j hj) i hm
                    rw [hi2] at this
                    cases this
                · have : listed.getD j false = false := by
                    simp only [Array.getD_eq_getD_getElem?]
                    rw [Array.getElem?_eq_none (by rw [h.size]; omega)]
                    rfl
                  rw [this] at hj
                  cases hj
              rw [e]
              exact h5
          · intro j hj e he
            rw [lget_set _ _ _ (by rw [h.size]; omega)] at hj ⊢
            by_cases hie : i = e
            · rw [if_pos hie]
            · rw [if_neg hie]
              by_cases hij : i = j
              · subst hij
                exact hneed e he
              · rw [if_neg hij] at hj
                exact h.down j hj e he
        · have := unl_set ops.size listed i hi1 (by rw [h.size]; omega) hi2
          omega)
      by_cases hw : Region.wanted o (yielded ops a.tmps) = true
      · rw [if_pos hw] at hs ⊢
        exact .inl hs
      · rw [if_neg hw] at hs ⊢
        exact hs
/-- The rule. -/
theorem wp_region_frames {id : Nat} {a0 : Act} {w0 : World} (n : Nat) (rd : List (List Nat)) (Fs : List (List Value → World → Prop)) (ord : List Nat) (hmx : P.follows .mixedOrders = true) (hok : framesOk .any ops n rd = true) (hord : orderOk .any ops ord [] = true)
    (step : ∀ i o, ops[i]? = some o → ∀ listed a w, GInv .any ops rd Fs a0 w0.drew listed a w → listed.getD i false = false → (∀ e ∈ needsOf .any ops i, listed.getD e false = true) → GStep P Q ops rd Fs w0.drew i o listed a w)
    (done : ∀ listed a w, GInv .any ops rd Fs a0 w0.drew listed a w → (∀ i, i < ops.size → listed.getD i false = true) → Q .normal a w) : (Code.region id ops true).wp P Q a0 w0 := by
  have hrep : ∀ i, (Array.replicate ops.size false).getD i false = false := fun i => by
    simp only [Array.getD_eq_getD_getElem?]
    by_cases h : i < ops.size
    · rw [Array.getElem?_eq_getElem (by simpa using h)]; simp
    · rw [Array.getElem?_eq_none (by simpa using Nat.le_of_not_lt h)]; rfl
  refine wp_region_any hmx ?_
  have hu : unl ops.size (Array.replicate ops.size false) = ops.size := by
    unfold unl
    have : (List.range ops.size).filter (fun j => !(Array.replicate ops.size false).getD j false) = List.range ops.size := by
      rw [List.filter_eq_self]
      intro j _
      rw [hrep]
      rfl
    rw [this, List.length_range]
  exact wpAny_frames (P := P) (Q := Q) (md := .any) n rd Fs ord a0 w0.drew hok hord step done ops.size (Array.replicate ops.size false) a0 w0.drew ⟨by simp, rfl, rfl, fun _ _ => rfl, Below.refl _ _, fun i hl => (by rw [hrep] at hl; cases hl), fun i hl => (by rw [hrep] at hl; cases hl)⟩ hu
end
end Go.Proofs.Ytnacgkkklmlhaaa
/-
  The code's sum of two points.
-/
namespace Go.Proofs.Ytnacgkkklmlhaaa
open Go.Shelf Go.RowKit
set_option linter.unusedVariables false
set_option linter.unusedSimpArgs false

def noZ : Pz := ⟨0, 0, true⟩
def ownZ (p : Pz) : Pz := if p.inf then noZ else p
/-- The sum's numbers; s: the slope. -/
def sumX (K : Cz) (p q : Pz) (s : Int) : Int := (((s * s) % K.p - p.x) % K.p - q.x) % K.p
def sumY (K : Cz) (p q : Pz) (s : Int) : Int := ((s * ((p.x - sumX K p q s) % K.p)) % K.p - p.y) % K.p
/-- The sum of two points that have numbers. -/
def AddN (K : Cz) (p q : Pz) (r : Option Pz) : Prop :=
  if runZ K p q = 0 then r = some noZ else if gd K.p (runZ K p q % K.p) ≠ 1 then r = none else ∃ n, 0 ≤ n ∧ n < K.p ∧ Cg K.p (n * runZ K p q) 1 ∧ r = some ⟨sumX K p q ((riseZ K p q * n) % K.p), sumY K p q ((riseZ K p q * n) % K.p), false⟩
/-- The sum. -/
def AddZ (K : Cz) (p q : Pz) (r : Option Pz) : Prop :=
  if K.p = 0 then r = none else if p.inf then r = some (ownZ q) else if q.inf then r = some (ownZ p) else AddN K p q r
/-- A point that was answered, or none. -/
def Pa (w w' : World) (e : Ending) (r : Option Pz) (L : Nat) : Prop := Below w.heap.size w w' ∧ ((∃ v p, r = some p ∧ e = .returned (.tuple #[v, .bool true]) ∧ Pv w' v p L) ∨ (r = none ∧ e = .returned (.tuple #[.agg #[.slice none 0 0, .slice none 0 0, .bool false], .bool false])))
theorem nv_nil (w : World) (L : Nat) : Nv w (.slice none 0 0) 0 L := ⟨none, 0, 0, [], rfl, NumIn.nil, rfl, Nat.zero_le _⟩
theorem pv_no (w : World) (L : Nat) : Pv w (.agg #[.slice none 0 0, .slice none 0 0, .bool true]) noZ L := ⟨_, _, rfl, nv_nil w L, nv_nil w L⟩
/-- But for block g the world w' is as w was. -/
structure Bt (g : Nat) (w w' : World) : Prop where
  os : w'.os = w.os
  tape : w'.tape = w.tape
  output : w'.output = w.output
  size : w.heap.size ≤ w'.heap.size
  block : ∀ k, k < w.heap.size → k ≠ g → w'.heap[k]? = w.heap[k]?
theorem Bt.below {g B : Nat} {w w' : World} (h : Bt g w w') (hB : B ≤ g) (hw : B ≤ w.heap.size) : Below B w w' := ⟨h.os, h.tape, h.output, h.size, fun k hk => h.block k (by omega) (by omega)⟩
theorem Bt.trans {g : Nat} {a b c : World} (h : Bt g a b) (k : Bt g b c) : Bt g a c :=
  ⟨k.os.trans h.os, k.tape.trans h.tape, k.output.trans h.output, Nat.le_trans h.size k.size, fun i hi hg => (k.block i (Nat.lt_of_lt_of_le hi h.size) hg).trans (h.block i hi hg)⟩
theorem Bt.setCell (g : Nat) (w : World) (j : Nat) (v : Value) : Bt g w (w.setCell ⟨g, j, none⟩ v) := ⟨rfl, rfl, rfl, by simp [World.setCell], fun k _ hk => Below.heap_setCell w ⟨g, j, none⟩ v k hk⟩
/-- A point's place. -/
def PSl (w : World) (r : Nat) (c0 c1 c2 : Value) : Prop := w.heap[r]? = some (.cells #[c0, c1, c2] 30 (0, 0))
theorem PSl.lt {w : World} {r : Nat} {c0 c1 c2 : Value} (h : PSl w r c0 c1 c2) : r < w.heap.size := (Array.getElem?_eq_some_iff.1 h).1
theorem PSl.keep {w w' : World} {r : Nat} {c0 c1 c2 : Value} (h : PSl w r c0 c1 c2) (hb : Below w.heap.size w w') : PSl w' r c0 c1 c2 := (hb.block _ h.lt).trans h
theorem PSl.facts {w : World} {r : Nat} {c0 c1 c2 : Value} (h : PSl w r c0 c1 c2) : w.cell? ⟨r, 0, none⟩ = some c0 ∧ w.cell? ⟨r, 1, none⟩ = some c1 ∧ w.cell? ⟨r, 2, none⟩ = some c2 ∧ w.frozen? ⟨r, 0, none⟩ = false ∧ w.frozen? ⟨r, 1, none⟩ = false ∧ w.frozen? ⟨r, 2, none⟩ = false :=
  ⟨by rw [cell_of_row _ _ _ _ _ _ h]; rfl, by rw [cell_of_row _ _ _ _ _ _ h]; rfl, by rw [cell_of_row _ _ _ _ _ _ h]; rfl, frozen_of_row w r 0 _ _ h, frozen_of_row w r 1 _ _ h, frozen_of_row w r 2 _ _ h⟩
theorem heap_set7 (w : World) (g j : Nat) (v : Value) (cs : Array Value) (t : TypeId) (fr : Nat × Nat) (h : w.heap[g]? = some (.cells cs t fr)) : (w.setCell ⟨g, j, none⟩ v).heap[g]? = some (.cells (cs.setIfInBounds j v) t fr) := by
  have hlt := (Array.getElem?_eq_some_iff.1 h).1
  have he : w.heap[g] = .cells cs t fr := (Array.getElem?_eq_some_iff.1 h).2
  simp [World.setCell, hlt]
  rw [Array.getElem_modify]
  simp [he]
theorem PSl.set3 {w : World} {r : Nat} {c0 c1 c2 : Value} (h : PSl w r c0 c1 c2) (d0 d1 d2 : Value) : PSl (((w.setCell ⟨r, 0, none⟩ d0).setCell ⟨r, 1, none⟩ d1).setCell ⟨r, 2, none⟩ d2) r d0 d1 d2 := by
  have h1 := heap_set7 w r 0 d0 _ _ _ h
  have h2 := heap_set7 _ r 1 d1 _ _ _ h1
  exact heap_set7 _ r 2 d2 _ _ _ h2
theorem Bt.set3 (w : World) (r : Nat) (d0 d1 d2 : Value) : Bt r w (((w.setCell ⟨r, 0, none⟩ d0).setCell ⟨r, 1, none⟩ d1).setCell ⟨r, 2, none⟩ d2) := ((Bt.setCell r w 0 d0).trans (Bt.setCell r _ 1 d1)).trans (Bt.setCell r _ 2 d2)
/-- Numbers don't lie where a point does. -/
theorem Nv.apart {w w' : World} {v : Value} {n : Int} {L r : Nat} {a1 a2 : Option Addr} {l1 k1 l2 k2 : Nat} {b : Bool} (h : Nv w v n L) (hs : PSl w r (.slice a1 l1 k1) (.slice a2 l2 k2) (.bool b)) (hb : Bt r w w') : Nv w' v n L := by
  obtain ⟨ao, len, cap, xs, e, h1, h2, h3⟩ := h
  refine ⟨ao, len, cap, xs, e, ⟨⟨h1.len, ?_⟩, h1.lc, h1.cm, h1.nn, h1.dg, h1.sm⟩, h2, h3⟩
  by_cases h0 : len = 0
  · exact .inl h0
  · obtain ⟨b', off, e2, hlt, hc⟩ := h1.lies.at (by omega)
    have hne : b' ≠ r := fun e3 => by
      subst e3
      have h4 := hc 0 (by omega)
      rw [cell_of_row _ _ _ _ _ _ hs] at h4
      obtain ⟨o, ho⟩ : ∃ o, off + 0 = o := ⟨_, rfl⟩
      rw [ho] at h4
      match o, h4 with
      | 0, h4 => cases h4
      | 1, h4 => cases h4
      | 2, h4 => cases h4
      | k + 3, h4 => simp at h4
    exact .inr ⟨b', off, e2, Nat.lt_of_lt_of_le hlt hb.size, fun i hi => (World.cell?_of_block (w := w) (hb.block b' hlt hne)).trans (hc i hi)⟩
theorem sizePt : (Try.prog.info? 30).map (·.size) = some 3 := by kernel_rfl
theorem ret_pt {fn : Func} {p u : Tmp} (h : fn.results = #[.cell p 30, .tmp u]) (tmps : Array Value) (w : World) (g : Nat) (c0 c1 c2 : Value) (hp : tmps.getD p undef = .pointer (some ⟨g, 0, none⟩)) (hg : PSl w g c0 c1 c2) :
    (results fn tmps).run Try.prog w = .ok (.tuple #[.agg #[c0, c1, c2], tmps.getD u undef]) w := by
  rw [results_cell_tmp h, hp]
  have hl := run_loadVar_row (P := Try.prog) w g 30 30 #[c0, c1, c2] (0, 0) _ hg Try.underlying30 rfl sizePt
  simp [asAddr, Result.andThen, hl]
theorem ret_pt1 {fn : Func} {p : Tmp} (h : fn.results = #[.cell p 30]) (tmps : Array Value) (w : World) (g : Nat) (c0 c1 c2 : Value) (hp : tmps.getD p undef = .pointer (some ⟨g, 0, none⟩)) (hg : PSl w g c0 c1 c2) :
    (results fn tmps).run Try.prog w = .ok (.agg #[c0, c1, c2]) w :=
  results_cell_row h tmps w g 30 _ (0, 0) _ hp hg Try.underlying30 rfl sizePt
end Go.Proofs.Ytnacgkkklmlhaaa
/-
  The code's Add, Base, Size, On.
-/
namespace Go.Proofs.Ytnacgkkklmlhaaa
open Go.Shelf Go.RowKit
set_option linter.unusedVariables false
set_option linter.unusedSimpArgs false

theorem norm_nv (a : Value) (x : Int) (L : Nat) (w : World) (ha : Nv w a x L) : Calls Try.prog 72 #[a] w fun e w' => ∃ v, e = .returned v ∧ Na w w' v x L := by
  obtain ⟨ao, la, ca, xs, rfl, h1, rfl, h2⟩ := ha
  refine (Norm_any ao la ca xs w h1).mono ?_
  rintro e w' ⟨v, rfl, h⟩
  exact ⟨v, rfl, h.na.1.up h2, h.na.2⟩
theorem set3_other {w : World} {b j r : Nat} {v d0 d1 d2 : Value} (h : w.cell? ⟨b, j, none⟩ = some v) (hne : b ≠ r) : (((w.setCell ⟨r, 0, none⟩ d0).setCell ⟨r, 1, none⟩ d1).setCell ⟨r, 2, none⟩ d2).cell? ⟨b, j, none⟩ = some v :=
  (World.cell?_of_block (w := w) ((Bt.set3 w r d0 d1 d2).block b (World.block_lt_of_cell? w _ h) hne)).trans h
/-- Two places, one behind the other. -/
theorem two_new (w : World) (pv : Array Value) (t : TypeId) : ((w.alloc (.cells pv t)).alloc (.cells #[.slice none 0 0, .slice none 0 0, .bool false] 30)).heap[w.heap.size]? = some (.cells pv t (0, 0)) ∧ PSl ((w.alloc (.cells pv t)).alloc (.cells #[.slice none 0 0, .slice none 0 0, .bool false] 30)) (w.heap.size + 1) (.slice none 0 0) (.slice none 0 0) (.bool false) ∧ Below w.heap.size w ((w.alloc (.cells pv t)).alloc (.cells #[.slice none 0 0, .slice none 0 0, .bool false] 30)) := by
  have z1 := alloc_sz7 w (.cells pv t)
  have n1 := heap_alloc_new w (.cells pv t)
  have n2 := heap_alloc_new (w.alloc (.cells pv t)) (.cells #[.slice none 0 0, .slice none 0 0, .bool false] 30)
  rw [z1] at n2
  exact ⟨heap_new n1 (by omega), n2, ((Below.refl w.heap.size w).alloc (Nat.le_refl _) _).alloc (by omega) _⟩
theorem frB_new (w : World) (cv pv qv : Array Value) : PSl ((((w.alloc (.cells cv 70)).alloc (.cells pv 30)).alloc (.cells qv 30)).alloc (.cells #[.slice none 0 0, .slice none 0 0, .bool false] 30)) (w.heap.size + 1 + 1 + 1) (.slice none 0 0) (.slice none 0 0) (.bool false) ∧ Below w.heap.size w ((((w.alloc (.cells cv 70)).alloc (.cells pv 30)).alloc (.cells qv 30)).alloc (.cells #[.slice none 0 0, .slice none 0 0, .bool false] 30)) := by
  have n4 := heap_alloc_new (((w.alloc (.cells cv 70)).alloc (.cells pv 30)).alloc (.cells qv 30)) (.cells #[.slice none 0 0, .slice none 0 0, .bool false] 30)
  rw [alloc_sz7, alloc_sz7, alloc_sz7] at n4
  exact ⟨n4, ((((Below.refl w.heap.size w).alloc (Nat.le_refl _) _).alloc (by rw [alloc_sz7]; omega) _).alloc (by rw [alloc_sz7, alloc_sz7]; omega) _).alloc (by rw [alloc_sz7, alloc_sz7, alloc_sz7]; omega) _⟩
end Go.Proofs.Ytnacgkkklmlhaaa
/-
  The code's Mul.
-/
namespace Go.Proofs.Ytnacgkkklmlhaaa
open Go.RowKit Go.Shelf
set_option linter.unusedVariables false
set_option linter.unusedSimpArgs false
attribute [local go_sem] Oper.semAt_some

/-- What Mul keeps in memory from its beginning on. -/
structure FrC (W : World) (b : Nat) (cv pv : Array Value) : Prop where
  c : W.heap[b]? = some (.cells cv 70 (0, 0))
  p : W.heap[b + 1]? = some (.cells pv 30 (0, 0))
  r : PSl W (b + 1 + 1) (.slice none 0 0) (.slice none 0 0) (.bool false)
  o : W.heap[b + 1 + 1 + 1]? = some (.cells #[.bool false] 4 (0, 0))
theorem frC_new (w : World) (cv pv : Array Value) : FrC ((((w.alloc (.cells cv 70)).alloc (.cells pv 30)).alloc (.cells #[.slice none 0 0, .slice none 0 0, .bool false] 30)).alloc (.cells #[.bool false] 4)) w.heap.size cv pv ∧ Below w.heap.size w ((((w.alloc (.cells cv 70)).alloc (.cells pv 30)).alloc (.cells #[.slice none 0 0, .slice none 0 0, .bool false] 30)).alloc (.cells #[.bool false] 4)) := by
  obtain ⟨w1, e1⟩ : ∃ x, w.alloc (.cells cv 70) = x := ⟨_, rfl⟩
  obtain ⟨w2, e2⟩ : ∃ x, w1.alloc (.cells pv 30) = x := ⟨_, rfl⟩
  obtain ⟨w3, e3⟩ : ∃ x, w2.alloc (.cells #[.slice none 0 0, .slice none 0 0, .bool false] 30) = x := ⟨_, rfl⟩
  have z1 : w1.heap.size = w.heap.size + 1 := by rw [← e1]; exact alloc_sz7 _ _
  have z2 : w2.heap.size = w.heap.size + 1 + 1 := by rw [← e2, alloc_sz7, z1]
  have z3 : w3.heap.size = w.heap.size + 1 + 1 + 1 := by rw [← e3, alloc_sz7, z2]
  have n1 : w1.heap[w.heap.size]? = some (.cells cv 70 (0, 0)) := by rw [← e1]; exact heap_alloc_new w _
  have n2 : w2.heap[w.heap.size + 1]? = some (.cells pv 30 (0, 0)) := by rw [← e2, ← z1]; exact heap_alloc_new w1 _
  have n3 : w3.heap[w.heap.size + 1 + 1]? = some (.cells #[.slice none 0 0, .slice none 0 0, .bool false] 30 (0, 0)) := by rw [← e3, ← z2]; exact heap_alloc_new w2 _
  have n4 := heap_alloc_new w3 (.cells #[.bool false] 4)
  rw [z3] at n4
  have m1 : w2.heap[w.heap.size]? = some (.cells cv 70 (0, 0)) := by rw [← e2]; exact heap_new n1 (by omega)
  have k1 : w3.heap[w.heap.size]? = some (.cells cv 70 (0, 0)) := by rw [← e3]; exact heap_new m1 (by omega)
  have k2 : w3.heap[w.heap.size + 1]? = some (.cells pv 30 (0, 0)) := by rw [← e3]; exact heap_new n2 (by omega)
  have bb : Below w.heap.size w (w3.alloc (.cells #[.bool false] 4)) := by
    rw [← e3, ← e2, ← e1]
    exact ((((Below.refl w.heap.size w).alloc (Nat.le_refl _) _).alloc (by rw [alloc_sz7]; omega) _).alloc (by rw [alloc_sz7, alloc_sz7]; omega) _).alloc (by rw [alloc_sz7, alloc_sz7, alloc_sz7]; omega) _
  rw [e1, e2, e3]
  exact ⟨⟨heap_new k1 (by omega), heap_new k2 (by omega), heap_new n3 (by omega), n4⟩, bb⟩
theorem FrC.keep {W W' : World} {b : Nat} {cv pv : Array Value} (h : FrC W b cv pv) (hb : Below W.heap.size W W') : FrC W' b cv pv :=
  ⟨(hb.block _ (Array.getElem?_eq_some_iff.1 h.c).1).trans h.c, (hb.block _ (Array.getElem?_eq_some_iff.1 h.p).1).trans h.p, h.r.keep hb, (hb.block _ (Array.getElem?_eq_some_iff.1 h.o).1).trans h.o⟩
/-- One bit more. -/
def stepR (K : Cz) (P : Pz) (set : Bool) (q : Pz) (r : Option Pz) : Prop := ∃ d, AddZ K q q d ∧ ((d = none ∧ r = none) ∨ ∃ e, d = some e ∧ if set then AddZ K e P r else r = some e)
/-- What the bits so far make. -/
def MF (K : Cz) (P : Pz) (pre : List (Int × Bool)) : Pz → Prop := pre.foldl (fun S x => fun q' => ∃ q, S q ∧ stepR K P x.2 q (some q')) (fun q => q = noZ)
theorem MF_snoc (K : Cz) (P : Pz) (pre : List (Int × Bool)) (x : Int × Bool) (q' : Pz) : MF K P (pre ++ [x]) q' ↔ ∃ q, MF K P pre q ∧ stepR K P x.2 q (some q') := by
  unfold MF
  rw [List.foldl_append]
  exact Iff.rfl
/-- What Mul answers. -/
def MulZ (K : Cz) (P : Pz) (bits : List (Int × Bool)) (r : Option Pz) : Prop := (∃ q, r = some q ∧ MF K P bits q) ∨ (r = none ∧ ∃ pre x q, (pre ++ [x]) <+: bits ∧ MF K P pre q ∧ stepR K P x.2 q none)
theorem blk_kept {W W' : World} {k : Nat} {cs : Array Value} {t : TypeId} {row : Option Nat} (h : W.heap[k]? = some (.cells cs t (0, 0))) (hg : W.grownBy W' row) (hr : ∀ r, row = some r → ∃ o : Obj, W.heap[r]? = some o ∧ o.isCells = false) : W'.heap[k]? = some (.cells cs t (0, 0)) := by
  rw [hg.block k (Array.getElem?_eq_some_iff.1 h).1 (fun e => by
    obtain ⟨o, ho, hc⟩ := hr k e.symm
    rw [h] at ho
    cases ho
    cases hc), h]
theorem Nv.kept {W W' : World} {v : Value} {n : Int} {L : Nat} {row : Option Nat} (h : Nv W v n L) (hg : W.grownBy W' row) (hr : ∀ r, row = some r → ∃ o : Obj, W.heap[r]? = some o ∧ o.isCells = false) : Nv W' v n L := by
  obtain ⟨ao, len, cap, xs, e, h1, h2, h3⟩ := h
  exact ⟨ao, len, cap, xs, e, h1.keptc hg hr, h2, h3⟩
theorem Cu.kept {W W' : World} {c : Value} {K : Cz} {L : Nat} {row : Option Nat} (h : Cu W c K L) (hg : W.grownBy W' row) (hr : ∀ r, row = some r → ∃ o : Obj, W.heap[r]? = some o ∧ o.isCells = false) : Cu W' c K L := by
  obtain ⟨g1, g2, oo, lo, co, vp, va, vb, vx, vy, vn, e, h1, h2, h3, h4, h5, h6⟩ := h
  exact ⟨g1, g2, oo, lo, co, vp, va, vb, vx, vy, vn, e, h1.kept hg hr, h2.kept hg hr, h3.kept hg hr, h4.kept hg hr, h5.kept hg hr, h6.kept hg hr⟩
theorem Pv.kept {W W' : World} {c : Value} {p : Pz} {L : Nat} {row : Option Nat} (h : Pv W c p L) (hg : W.grownBy W' row) (hr : ∀ r, row = some r → ∃ o : Obj, W.heap[r]? = some o ∧ o.isCells = false) : Pv W' c p L := by
  obtain ⟨vx, vy, e, h1, h2⟩ := h
  exact ⟨vx, vy, e, h1.kept hg hr, h2.kept hg hr⟩
/-- A block of a truth alone. -/
def BBx (w : World) (g : Nat) (b : Bool) : Prop := w.heap[g]? = some (.cells #[.bool b] 4 (0, 0))
theorem Nv.apartB {w w' : World} {v : Value} {n : Int} {L r : Nat} {b : Bool} (h : Nv w v n L) (hs : BBx w r b) (hb : Bt r w w') : Nv w' v n L := by
  obtain ⟨ao, len, cap, xs, e, h1, h2, h3⟩ := h
  refine ⟨ao, len, cap, xs, e, ⟨⟨h1.len, ?_⟩, h1.lc, h1.cm, h1.nn, h1.dg, h1.sm⟩, h2, h3⟩
  by_cases h0 : len = 0
  · exact .inl h0
  · obtain ⟨b', off, e2, hlt, hc⟩ := h1.lies.at (by omega)
    have hne : b' ≠ r := fun e3 => by
      subst e3
      have h4 := hc 0 (by omega)
      rw [cell_of_row _ _ _ _ _ _ hs] at h4
      obtain ⟨o, ho⟩ : ∃ o, off + 0 = o := ⟨_, rfl⟩
      rw [ho] at h4
      match o, h4 with
      | 0, h4 => cases h4
      | k + 1, h4 => simp at h4
    exact .inr ⟨b', off, e2, Nat.lt_of_lt_of_le hlt hb.size, fun i hi => (World.cell?_of_block (w := w) (hb.block b' hlt hne)).trans (hc i hi)⟩
/-- The state between two bits. -/
structure MSt (w : World) (b gs go : Nat) (cv pv : Array Value) (K : Cz) (P : Pz) (L : Nat) (x1 y1 : Option Addr) (x2 x3 y2 y3 : Nat) (q : Pz) (W : World) : Prop where
  fr : FrC W b cv pv
  sum : PSl W gs (.slice x1 x2 x3) (.slice y1 y2 y3) (.bool q.inf)
  sx : Nv W (.slice x1 x2 x3) q.x L
  sy : Nv W (.slice y1 y2 y3) q.y L
  ok : BBx W go true
  cu : Cu W (.agg cv) K L
  pp : Pv W (.agg pv) P L
  low : Below w.heap.size w W
theorem MSt.old {w : World} {b gs go : Nat} {cv pv : Array Value} {K : Cz} {P : Pz} {L : Nat} {x1 y1 : Option Addr} {x2 x3 y2 y3 : Nat} {q : Pz} {W W' : World} (h : MSt w b gs go cv pv K P L x1 y1 x2 x3 y2 y3 q W) (hb : Below W.heap.size W W') : MSt w b gs go cv pv K P L x1 y1 x2 x3 y2 y3 q W' :=
  ⟨h.fr.keep hb, h.sum.keep hb, h.sx.old hb, h.sy.old hb, (hb.block _ (Array.getElem?_eq_some_iff.1 h.ok).1).trans h.ok, h.cu.old hb, h.pp.old hb, h.low.trans (hb.mono h.low.size)⟩
theorem MSt.kept {w : World} {b gs go : Nat} {cv pv : Array Value} {K : Cz} {P : Pz} {L : Nat} {x1 y1 : Option Addr} {x2 x3 y2 y3 : Nat} {q : Pz} {W W' : World} {row : Option Nat} {B : Nat} (hB : w.heap.size ≤ B) (h : MSt w b gs go cv pv K P L x1 y1 x2 x3 y2 y3 q W) (hg : W.grownBy W' row) (hr : ∀ r, row = some r → B ≤ r ∧ ∃ o : Obj, W.heap[r]? = some o ∧ o.isCells = false) : MSt w b gs go cv pv K P L x1 y1 x2 x3 y2 y3 q W' := by
  have hr2 := fun r e => (hr r e).2
  exact ⟨⟨blk_kept h.fr.c hg hr2, blk_kept h.fr.p hg hr2, blk_kept h.fr.r hg hr2, blk_kept h.fr.o hg hr2⟩, blk_kept h.sum hg hr2, h.sx.kept hg hr2, h.sy.kept hg hr2, blk_kept h.ok hg hr2, h.cu.kept hg hr2, h.pp.kept hg hr2, ownFrom_below (β := Unit) (Nat.le_refl _) hB () W W' row h.low hg hr⟩
/-- The world with another sum. -/
def sumW (W : World) (gs go : Nat) (vx vy : Value) (inf ok : Bool) : World := (((W.setCell ⟨gs, 0, none⟩ vx).setCell ⟨gs, 1, none⟩ vy).setCell ⟨gs, 2, none⟩ (.bool inf)).setCell ⟨go, 0, none⟩ (.bool ok)
theorem nv_sum {W : World} {v : Value} {n : Int} {L gs go : Nat} {a1 a2 : Option Addr} {l1 k1 l2 k2 : Nat} {b ok0 : Bool} (h : Nv W v n L) (hs : PSl W gs (.slice a1 l1 k1) (.slice a2 l2 k2) (.bool b)) (ho : BBx W go ok0) (hne : go ≠ gs) (vx vy : Value) (inf ok : Bool) : Nv (sumW W gs go vx vy inf ok) v n L := by
  have b3 := Bt.set3 W gs vx vy (.bool inf)
  have ho2 : BBx (((W.setCell ⟨gs, 0, none⟩ vx).setCell ⟨gs, 1, none⟩ vy).setCell ⟨gs, 2, none⟩ (.bool inf)) go ok0 := (b3.block go (Array.getElem?_eq_some_iff.1 ho).1 hne).trans ho
  exact (h.apart hs b3).apartB ho2 (Bt.setCell go _ 0 _)
theorem sumW_blocks {W : World} {gs go : Nat} (vx vy : Value) (inf ok : Bool) (k : Nat) (hk : k < W.heap.size) (h1 : k ≠ gs) (h2 : k ≠ go) : (sumW W gs go vx vy inf ok).heap[k]? = W.heap[k]? := by
  have b3 := Bt.set3 W gs vx vy (.bool inf)
  exact ((Bt.setCell go _ 0 (.bool ok)).block k (Nat.lt_of_lt_of_le hk b3.size) h2).trans (b3.block k hk h1)
theorem sumW_sum {W : World} {gs go : Nat} {c0 c1 c2 : Value} (hs : PSl W gs c0 c1 c2) (hne : go ≠ gs) (vx vy : Value) (inf ok : Bool) : PSl (sumW W gs go vx vy inf ok) gs vx vy (.bool inf) := by
  have s3 := hs.set3 vx vy (.bool inf)
  exact ((Bt.setCell go _ 0 (.bool ok)).block gs s3.lt (Ne.symm hne)).trans s3
theorem sumW_ok {W : World} {gs go : Nat} {ok0 : Bool} (ho : BBx W go ok0) (hne : go ≠ gs) (vx vy : Value) (inf ok : Bool) : BBx (sumW W gs go vx vy inf ok) go ok := by
  have b3 := Bt.set3 W gs vx vy (.bool inf)
  have ho2 : BBx (((W.setCell ⟨gs, 0, none⟩ vx).setCell ⟨gs, 1, none⟩ vy).setCell ⟨gs, 2, none⟩ (.bool inf)) go ok0 := (b3.block go (Array.getElem?_eq_some_iff.1 ho).1 hne).trans ho
  have := heap_set7 _ go 0 (.bool ok) _ _ _ ho2
  exact this
theorem sumW_below {w W : World} {gs go : Nat} (h : Below w.heap.size w W) (h1 : w.heap.size ≤ gs) (h2 : w.heap.size ≤ go) (vx vy : Value) (inf ok : Bool) : Below w.heap.size w (sumW W gs go vx vy inf ok) := by
  have b3 := Bt.set3 W gs vx vy (.bool inf)
  have b4 := Bt.setCell go (((W.setCell ⟨gs, 0, none⟩ vx).setCell ⟨gs, 1, none⟩ vy).setCell ⟨gs, 2, none⟩ (.bool inf)) 0 (.bool ok)
  exact h.trans ((b3.below h1 h.size).trans (b4.below h2 (Nat.le_trans h.size b3.size)))
theorem sumW_keeps (W : World) (gs go : Nat) (vx vy : Value) (inf ok : Bool) : KeepsOthers W (sumW W gs go vx vy inf ok) := (((KeepsOthers.setCell _ _ _).trans (KeepsOthers.setCell _ _ _)).trans (KeepsOthers.setCell _ _ _)).trans (KeepsOthers.setCell _ _ _)
theorem bitsAt_sum {W : World} {g3 g4 : Nat} {V : Int} {N gs go : Nat} {a1 a2 : Option Addr} {l1 k1 l2 k2 : Nat} {b ok0 : Bool} (h : BitsAt W g3 g4 V N) (hs : PSl W gs (.slice a1 l1 k1) (.slice a2 l2 k2) (.bool b)) (ho : BBx W go ok0) (hne : go ≠ gs) (h3 : gs ≠ g3 ∧ go ≠ g3) (vx vy : Value) (inf ok : Bool) : BitsAt (sumW W gs go vx vy inf ok) g3 g4 V N := by
  obtain ⟨ao, la, ca, xs, e1, e2, e3, e4, e5, e6, e7⟩ := h
  have hn4 : g4 ≠ gs := fun e => by
    subst e
    have := hs.facts.1.symm.trans e3
    cases this
  have hn5 : g4 ≠ go := fun e => by
    subst e
    rw [cell_of_row _ _ _ _ _ _ ho] at e3
    cases e3
  have hz := (sumW_keeps W gs go vx vy inf ok).size
  have hb := sumW_blocks (W := W) (gs := gs) (go := go) vx vy inf ok
  have hv := nv_sum (L := la) (v := .slice ao la ca) (n := val B64 xs) ⟨ao, la, ca, xs, rfl, e5, rfl, Nat.le_refl _⟩ hs ho hne vx vy inf ok
  generalize sumW W gs go vx vy inf ok = W' at *
  have c4 : W'.cell? ⟨g4, 0, none⟩ = some (.int .i64 N) := by rw [← e3]; exact World.cell?_of_block (w := W) (hb g4 e2 hn4 hn5)
  have c3 : W'.cell? ⟨g3, 0, none⟩ = some (.slice ao la ca) := by rw [← e4]; exact World.cell?_of_block (w := W) (hb g3 e1 (Ne.symm h3.1) (Ne.symm h3.2))
  obtain ⟨p1, p2, p3, p4, ee, q1, q2, q3⟩ := hv
  injection ee with u1 u2 u3
  subst u1 u2 u3
  exact ⟨ao, la, ca, p4, Nat.lt_of_lt_of_le e1 hz, Nat.lt_of_lt_of_le e2 hz, c4, c3, q1, by rw [q2]; exact e6, e7⟩
/-- The state with another sum. -/
theorem MSt.next {w : World} {b gs go : Nat} {cv pv : Array Value} {K : Cz} {P : Pz} {L : Nat} {x1 y1 x1' y1' : Option Addr} {x2 x3 y2 y3 x2' x3' y2' y3' : Nat} {q q' : Pz} {W : World} (h : MSt w b gs go cv pv K P L x1 y1 x2 x3 y2 y3 q W) (hg : b + 1 + 1 + 1 < gs ∧ gs + 1 = go ∧ w.heap.size = b) (nx : Nv W (.slice x1' x2' x3') q'.x L) (ny : Nv W (.slice y1' y2' y3') q'.y L) : MSt w b gs go cv pv K P L x1' y1' x2' x3' y2' y3' q' (sumW W gs go (.slice x1' x2' x3') (.slice y1' y2' y3') q'.inf true) := by
  have hne : go ≠ gs := by omega
  have nn : ∀ {v : Value} {n : Int}, Nv W v n L → Nv (sumW W gs go (.slice x1' x2' x3') (.slice y1' y2' y3') q'.inf true) v n L := fun hv => nv_sum hv h.sum h.ok hne _ _ _ _
  have bk := fun k hk h1 h2 => sumW_blocks (W := W) (gs := gs) (go := go) (.slice x1' x2' x3') (.slice y1' y2' y3') q'.inf true k hk h1 h2
  refine ⟨⟨(bk b (Array.getElem?_eq_some_iff.1 h.fr.c).1 (by omega) (by omega)).trans h.fr.c, (bk _ (Array.getElem?_eq_some_iff.1 h.fr.p).1 (by omega) (by omega)).trans h.fr.p, (bk _ h.fr.r.lt (by omega) (by omega)).trans h.fr.r, (bk _ (Array.getElem?_eq_some_iff.1 h.fr.o).1 (by omega) (by omega)).trans h.fr.o⟩, sumW_sum h.sum hne _ _ _ _, nn nx, nn ny, sumW_ok h.ok hne _ _ _ _, ?_, ?_, sumW_below h.low (by omega) (by omega) _ _ _ _⟩
  · obtain ⟨g1, g2, oo, lo, co, vp, va, vb, vx, vy, vn, e, h1, h2, h3, h4, h5, h6⟩ := h.cu
    exact ⟨g1, g2, oo, lo, co, vp, va, vb, vx, vy, vn, e, nn h1, nn h2, nn h3, nn h4, nn h5, nn h6⟩
  · obtain ⟨vx, vy, e, h1, h2⟩ := h.pp
    exact ⟨vx, vy, e, nn h1, nn h2⟩
/-- Between two bits. -/
def MGo (w : World) (b gs go : Nat) (cv pv : Array Value) (K : Cz) (P : Pz) (L : Nat) (pre : List (Int × Bool)) (W : World) : Prop := ∃ x1 y1 x2 x3 y2 y3 q, MF K P pre q ∧ MSt w b gs go cv pv K P L x1 y1 x2 x3 y2 y3 q W
/-- A sum that isn't. -/
def MEnd (w : World) (b : Nat) (K : Cz) (P : Pz) (c : Code) (pre : List (Int × Bool)) (W : World) : Prop := c = .ret ∧ (PSl W (b + 1 + 1) (.slice none 0 0) (.slice none 0 0) (.bool false) ∧ BBx W (b + 1 + 1 + 1) false) ∧ Below w.heap.size w W ∧ ∃ pre' x q, pre = pre' ++ [x] ∧ MF K P pre' q ∧ stepR K P x.2 q none
theorem MGo.kept {w : World} {b gs go : Nat} {cv pv : Array Value} {K : Cz} {P : Pz} {L B : Nat} (hB : w.heap.size ≤ B) : OwnFrom B (MGo w b gs go cv pv K P L) := by
  rintro pre A A' row ⟨x1, y1, x2, x3, y2, y3, q, h1, h2⟩ hg hr
  exact ⟨x1, y1, x2, x3, y2, y3, q, h1, h2.kept hB hg hr⟩
theorem MEnd.kept {w : World} {b : Nat} {K : Cz} {P : Pz} {B : Nat} (hB : w.heap.size ≤ B) (c : Code) : OwnFrom B (MEnd w b K P c) := by
  rintro pre A A' row ⟨h1, h2, h3, h4⟩ hg hr
  have hr2 := fun r e => (hr r e).2
  exact ⟨h1, ⟨blk_kept h2.1 hg hr2, blk_kept h2.2 hg hr2⟩, ownFrom_below (β := Unit) (Nat.le_refl _) hB () A A' row h3 hg hr, h4⟩
theorem BBx.facts {W : World} {g : Nat} {b : Bool} (h : BBx W g b) : W.cell? ⟨g, 0, none⟩ = some (.bool b) ∧ W.frozen? ⟨g, 0, none⟩ = false := by
  refine ⟨?_, ?_⟩
  · rw [cell_of_row _ _ _ _ _ _ h]; rfl
  · exact frozen_of_row W g 0 _ _ h
theorem FrC.cells {W : World} {b : Nat} {c0 c1 c2 c3 c4 c5 c6 c7 c8 p0 p1 p2 : Value} (h : FrC W b #[c0, c1, c2, c3, c4, c5, c6, c7, c8] #[p0, p1, p2]) : (W.cell? ⟨b, 0, none⟩ = some c0 ∧ W.cell? ⟨b, 1, none⟩ = some c1 ∧ W.cell? ⟨b, 2, none⟩ = some c2 ∧ W.cell? ⟨b, 3, none⟩ = some c3 ∧ W.cell? ⟨b, 4, none⟩ = some c4 ∧ W.cell? ⟨b, 5, none⟩ = some c5 ∧ W.cell? ⟨b, 6, none⟩ = some c6 ∧ W.cell? ⟨b, 7, none⟩ = some c7 ∧ W.cell? ⟨b, 8, none⟩ = some c8) ∧ W.cell? ⟨b + 1, 0, none⟩ = some p0 ∧ W.cell? ⟨b + 1, 1, none⟩ = some p1 ∧ W.cell? ⟨b + 1, 2, none⟩ = some p2 := by
  refine ⟨⟨?_, ?_, ?_, ?_, ?_, ?_, ?_, ?_, ?_⟩, ?_, ?_, ?_⟩
  all_goals first
    | (rw [cell_of_row _ _ _ _ _ _ h.c]; rfl)
    | (rw [cell_of_row _ _ _ _ _ _ h.p]; rfl)
/-- The end of a sum that isn't. -/
theorem MSt.fails {w : World} {b gs go : Nat} {cv pv : Array Value} {K : Cz} {P : Pz} {L : Nat} {x1 y1 : Option Addr} {x2 x3 y2 y3 : Nat} {q : Pz} {W : World} (h : MSt w b gs go cv pv K P L x1 y1 x2 x3 y2 y3 q W) (hg : b + 1 + 1 + 1 < gs ∧ gs + 1 = go ∧ w.heap.size = b) {pre : List (Int × Bool)} {x : Int × Bool} {q0 : Pz} (hm : MF K P pre q0) (hs : stepR K P x.2 q0 none) :
    KeepsOthers W (((((sumW W gs go (.slice none 0 0) (.slice none 0 0) false false).setCell ⟨b + 1 + 1, 0, none⟩ (.slice none 0 0)).setCell ⟨b + 1 + 1, 1, none⟩ (.slice none 0 0)).setCell ⟨b + 1 + 1, 2, none⟩ (.bool false)).setCell ⟨b + 1 + 1 + 1, 0, none⟩ (.bool false)) ∧ MEnd w b K P .ret (pre ++ [x]) (((((sumW W gs go (.slice none 0 0) (.slice none 0 0) false false).setCell ⟨b + 1 + 1, 0, none⟩ (.slice none 0 0)).setCell ⟨b + 1 + 1, 1, none⟩ (.slice none 0 0)).setCell ⟨b + 1 + 1, 2, none⟩ (.bool false)).setCell ⟨b + 1 + 1 + 1, 0, none⟩ (.bool false)) := by
  have ks := sumW_keeps W gs go (.slice none 0 0) (.slice none 0 0) false false
  have bk := fun k hk h1 h2 => sumW_blocks (W := W) (gs := gs) (go := go) (.slice none 0 0) (.slice none 0 0) false false k hk h1 h2
  have lo := sumW_below (gs := gs) (go := go) h.low (by omega) (by omega) (.slice none 0 0) (.slice none 0 0) false false
  have r1 : PSl _ (b + 1 + 1) (.slice none 0 0) (.slice none 0 0) (.bool false) := (bk _ h.fr.r.lt (by omega) (by omega)).trans h.fr.r
  have o1 : BBx _ (b + 1 + 1 + 1) false := (bk _ (Array.getElem?_eq_some_iff.1 h.fr.o).1 (by omega) (by omega)).trans h.fr.o
  generalize sumW W gs go (.slice none 0 0) (.slice none 0 0) false false = W2 at *
  refine ⟨ks.trans (sumW_keeps W2 (b + 1 + 1) (b + 1 + 1 + 1) _ _ false false), rfl, ⟨sumW_sum r1 (by omega) _ _ _ _, sumW_ok o1 (by omega) _ _ _ _⟩, sumW_below lo (by omega) (by omega) _ _ _ _, pre, x, q0, rfl, hm, hs⟩
theorem ret_ptb {fn : Func} {p u : Tmp} (h : fn.results = #[.cell p 30, .cell u 4]) (tmps : Array Value) (w : World) (g g' : Nat) (c0 c1 c2 : Value) (b : Bool) (hp : tmps.getD p undef = .pointer (some ⟨g, 0, none⟩)) (hu : tmps.getD u undef = .pointer (some ⟨g', 0, none⟩)) (hg : PSl w g c0 c1 c2) (hb : BBx w g' b) :
    (results fn tmps).run Try.prog w = .ok (.tuple #[.agg #[c0, c1, c2], .bool b]) w := by
  have hp' : tmps[p]?.getD undef = .pointer (some ⟨g, 0, none⟩) := by simpa using hp
  have hu' : tmps[u]?.getD undef = .pointer (some ⟨g', 0, none⟩) := by simpa using hu
  have hl := run_loadVar_row (P := Try.prog) w g 30 30 #[c0, c1, c2] (0, 0) _ hg Try.underlying30 rfl sizePt
  have hc := hb.facts.1
  obtain ⟨x0, x1, x2, _⟩ := hg.facts
  simp [results, h, hp', hu', asAddr, go_sem, x0, x1, x2, hc]
end Go.Proofs.Ytnacgkkklmlhaaa
/-
  The code's Base, Size, rightSide, On.
-/
namespace Go.Proofs.Ytnacgkkklmlhaaa
open Go.Shelf Go.RowKit
set_option linter.unusedVariables false
set_option linter.unusedSimpArgs false

/-- Two blocks, one behind the other. -/
theorem pair_new (w : World) (cv pv : Array Value) (t t' : TypeId) : ((w.alloc (.cells cv t)).alloc (.cells pv t')).heap[w.heap.size]? = some (.cells cv t (0, 0)) ∧ ((w.alloc (.cells cv t)).alloc (.cells pv t')).heap[w.heap.size + 1]? = some (.cells pv t' (0, 0)) ∧ Below w.heap.size w ((w.alloc (.cells cv t)).alloc (.cells pv t')) := by
  have z1 := alloc_sz7 w (.cells cv t)
  have n1 := heap_alloc_new w (.cells cv t)
  have n2 := heap_alloc_new (w.alloc (.cells cv t)) (.cells pv t')
  rw [z1] at n2
  exact ⟨heap_new n1 (by omega), n2, ((Below.refl w.heap.size w).alloc (Nat.le_refl _) _).alloc (by omega) _⟩
theorem blk_old {W W' : World} {k : Nat} {o : Obj} (h : W.heap[k]? = some o) (hb : Below W.heap.size W W') : W'.heap[k]? = some o := (hb.block _ (Array.getElem?_eq_some_iff.1 h).1).trans h
def baseZ (K : Cz) : Pz := ⟨K.gx, K.gy, false⟩
def rightZ (K : Cz) (x : Int) : Int := ((x * (((x * x) % K.p + K.a) % K.p)) % K.p + K.b) % K.p
/-- Is it on the curve? -/
def onB (K : Cz) (P : Pz) : Bool := decide (K.p ≠ 0) && (P.inf || (decide (P.x < K.p) && (decide (P.y < K.p) && decide ((P.y * P.y) % K.p = rightZ K P.x))))
theorem cmp_nv (a b : Value) (x y : Int) (L : Nat) (w : World) (ha : Nv w a x L) (hb : Nv w b y L) : Calls Try.prog 45 #[a, b] w fun e w' => e = .returned (.int .i64 (cmpI x y)) ∧ Below w.heap.size w w' := by
  obtain ⟨ao, la, ca, xs, rfl, h1, rfl, h2⟩ := ha
  obtain ⟨bo, lb, cb, ys, rfl, k1, rfl, k2⟩ := hb
  refine (Cmp_any ao bo la ca lb cb xs ys w h1 k1).mono ?_
  rintro e w' ⟨rfl, k, rfl⟩
  exact ⟨rfl, drew7 _ _⟩
end Go.Proofs.Ytnacgkkklmlhaaa
/-
  The code's Check.
-/
namespace Go.Proofs.Ytnacgkkklmlhaaa
open Go.Shelf Go.RowKit
set_option linter.unusedVariables false
set_option linter.unusedSimpArgs false

theorem of_nv (n : Int) (w : World) (h0 : 0 ≤ n) (h1 : n < 18446744073709551616) : Calls Try.prog 54 #[.int .u64 n] w fun e w' => ∃ v, e = .returned v ∧ Na w w' v n 1 := by
  refine (Of_any n w (by omega) (by omega)).mono ?_
  rintro e w' ⟨v, rfl, h⟩
  exact ⟨v, rfl, h.na⟩
def reducedB (K : Cz) : Bool := decide (K.a < K.p) && (decide (K.b < K.p) && (decide (K.gx < K.p) && decide (K.gy < K.p)))
end Go.Proofs.Ytnacgkkklmlhaaa
/-
  The code's discriminant; what isSized asks.
-/
namespace Go.Proofs.Ytnacgkkklmlhaaa
open Go.Shelf Go.RowKit
set_option linter.unusedVariables false
set_option linter.unusedSimpArgs false

def discZ (K : Cz) : Int := ((4 * ((K.a * ((K.a * K.a) % K.p)) % K.p)) % K.p + (27 * ((K.b * K.b) % K.p)) % K.p) % K.p
/-- Are the sizes right? -/
def sizedB (K : Cz) : Bool := decide (blen K.p.toNat ≤ 256) && (decide (blen K.n.toNat ≤ 257) && (decide (3 < K.p) && (decide (K.p % 2 = 1) && decide (1 < K.n))))
theorem len_nv (a : Value) (x : Int) (L : Nat) (w : World) (ha : Nv w a x L) (hL : L ≤ 1000) : Calls Try.prog 38 #[a] w fun e w' => (e = .returned (.int .i64 (blen x.toNat : Nat)) ∧ blen x.toNat ≤ 64000) ∧ w' = w := by
  obtain ⟨ao, la, ca, xs, rfl, h1, rfl, h2⟩ := ha
  refine (Len_any ao la ca xs w h1).mono ?_
  rintro e w' ⟨rfl, rfl⟩
  have := lenOf_le h1.dg 1000 (by have := h1.len; omega)
  rw [lenOf_eq xs h1.dg] at this ⊢
  exact ⟨⟨rfl, this⟩, rfl⟩
end Go.Proofs.Ytnacgkkklmlhaaa
/-
  The code's isSized.
-/
namespace Go.Proofs.Ytnacgkkklmlhaaa
open Go.Shelf Go.RowKit
set_option linter.unusedVariables false
set_option linter.unusedSimpArgs false
end Go.Proofs.Ytnacgkkklmlhaaa
/-
  Facts on what operations of a drawn region leave: numbers, points, boxes.
-/
namespace Go.Proofs.Ytnacgkkklmlhaaa
open Go.Shelf Go.RowKit
set_option linter.unusedVariables false
set_option linter.unusedSimpArgs false

/-- A point that was answered, or none: the value. -/
def Pr (w : World) (v : Value) (r : Option Pz) (L : Nat) : Prop := (∃ u p, r = some p ∧ v = .tuple #[u, .bool true] ∧ Pv w u p L) ∨ (r = none ∧ v = .tuple #[.agg #[.slice none 0 0, .slice none 0 0, .bool false], .bool false])
theorem Pr.old {w w' : World} {v : Value} {r : Option Pz} {L : Nat} (h : Pr w v r L) (hb : Below w.heap.size w w') : Pr w' v r L := by
  rcases h with ⟨u, p, h1, h2, h3⟩ | h
  · exact .inl ⟨u, p, h1, h2, h3.old hb⟩
  · exact .inr h
theorem Pa.pr {w w' : World} {e : Ending} {r : Option Pz} {L : Nat} (h : Pa w w' e r L) : Below w.heap.size w w' ∧ ∃ v, e = .returned v ∧ Pr w' v r L := by
  obtain ⟨hb, (⟨v, p, h1, h2, h3⟩ | ⟨h1, h2⟩)⟩ := h
  · exact ⟨hb, _, h2, .inl ⟨v, p, h1, rfl, h3⟩⟩
  · exact ⟨hb, _, h2, .inr ⟨h1, rfl⟩⟩
theorem Pv.apart {w w' : World} {c : Value} {p : Pz} {L r : Nat} {a1 a2 : Option Addr} {l1 k1 l2 k2 : Nat} {b : Bool} (h : Pv w c p L) (hs : PSl w r (.slice a1 l1 k1) (.slice a2 l2 k2) (.bool b)) (hb : Bt r w w') : Pv w' c p L := by
  obtain ⟨vx, vy, e, h1, h2⟩ := h
  exact ⟨vx, vy, e, h1.apart hs hb, h2.apart hs hb⟩
theorem Pr.parts {w : World} {v : Value} {r : Option Pz} {L : Nat} (h : Pr w v r L) : ∃ o1 l1 k1 o2 l2 k2 bb ok, v = .tuple #[.agg #[.slice o1 l1 k1, .slice o2 l2 k2, .bool bb], .bool ok] := by
  rcases h with ⟨u, p, h1, h2, vx, vy, rfl, ⟨a1, a2, a3, a4, rfl, a5⟩, ⟨b1, b2, b3, b4, rfl, b5⟩⟩ | ⟨_, h2⟩
  · exact ⟨_, _, _, _, _, _, _, _, h2⟩
  · exact ⟨_, _, _, _, _, _, _, _, h2⟩
/-- A point's box. -/
def BxP (B : Nat) (W : World) (v : Value) (c0 c1 c2 : Value) : Prop := ∃ b o1 l1 k1 o2 l2 k2 bb, v = .pointer (some ⟨b, 0, none⟩) ∧ B ≤ b ∧ c0 = .slice o1 l1 k1 ∧ c1 = .slice o2 l2 k2 ∧ c2 = .bool bb ∧ PSl W b c0 c1 c2
/-- A fact that stands while memory is made; and, if it says so, while a box is filled. -/
structure Fk where
  sem : List Value → World → Prop
  keep : ∀ vs w w', Below w.heap.size w w' → sem vs w → sem vs w'
  box' : Bool
  store : box' = true → ∀ vs w w' r a1 a2 l1 k1 l2 k2 b b1 b2 m1 n1 m2 n2 b', PSl w r (.slice a1 l1 k1) (.slice a2 l2 k2) (.bool b) → PSl w' r (.slice b1 m1 n1) (.slice b2 m2 n2) (.bool b') → Bt r w w' → sem vs w → sem vs w'
/-- A fact on values alone. -/
def Fk.pure (S : List Value → Prop) : Fk := ⟨fun vs _ => S vs, fun _ _ _ _ h => h, true, fun _ _ _ _ _ _ _ _ _ _ _ _ _ _ _ _ _ _ _ _ _ _ h => h⟩
def Fk.any : Fk := Fk.pure fun _ => True
def Fk.eq (e : Value) : Fk := Fk.pure fun vs => vs.getD 0 undef = e
def Fk.same : Fk := Fk.pure fun vs => vs.getD 0 undef = vs.getD 1 undef
def Fk.ext (i : Nat) : Fk := Fk.pure fun vs => ∃ t : Array Value, vs.getD 1 undef = .tuple t ∧ vs.getD 0 undef = t.getD i undef
def Fk.nv (R : Int → Prop) (L : Nat) : Fk := ⟨fun vs W => ∃ n, R n ∧ Nv W (vs.getD 0 undef) n L, fun vs w w' hb h => by
  obtain ⟨n, h1, h2⟩ := h
  exact ⟨n, h1, h2.old hb⟩, true, fun _ vs w w' r a1 a2 l1 k1 l2 k2 b b1 b2 m1 n1 m2 n2 b' hs _ hb h => by
  obtain ⟨n, h1, h2⟩ := h
  exact ⟨n, h1, h2.apart hs hb⟩⟩
def Fk.pv (R : Pz → Prop) (L : Nat) : Fk := ⟨fun vs W => ∃ p, R p ∧ Pv W (vs.getD 0 undef) p L, fun vs w w' hb h => by
  obtain ⟨n, h1, h2⟩ := h
  exact ⟨n, h1, h2.old hb⟩, true, fun _ vs w w' r a1 a2 l1 k1 l2 k2 b b1 b2 m1 n1 m2 n2 b' hs _ hb h => by
  obtain ⟨n, h1, h2⟩ := h
  exact ⟨n, h1, h2.apart hs hb⟩⟩
def Fk.pr (R : Option Pz → Prop) (L : Nat) : Fk := ⟨fun vs W => ∃ r, R r ∧ Pr W (vs.getD 0 undef) r L, fun vs w w' hb h => by
  obtain ⟨n, h1, h2⟩ := h
  exact ⟨n, h1, h2.old hb⟩, true, fun _ vs w w' r a1 a2 l1 k1 l2 k2 b b1 b2 m1 n1 m2 n2 b' hs _ hb h => by
  obtain ⟨n, h1, h2⟩ := h
  refine ⟨n, h1, ?_⟩
  rcases h2 with ⟨u, p, q1, q2, q3⟩ | h2
  · exact .inl ⟨u, p, q1, q2, q3.apart hs hb⟩
  · exact .inr h2⟩
def Fk.box (B : Nat) : Fk := ⟨fun vs W => ∃ c0 c1 c2, BxP B W (vs.getD 0 undef) c0 c1 c2, fun vs w w' hb h => by
  obtain ⟨c0, c1, c2, b, o1, l1, k1, o2, l2, k2, bb, h1, h2, h3, h4, h5, h6⟩ := h
  exact ⟨c0, c1, c2, b, o1, l1, k1, o2, l2, k2, bb, h1, h2, h3, h4, h5, h6.keep hb⟩, true, fun _ vs w w' r a1 a2 l1 k1 l2 k2 b b1 b2 m1 n1 m2 n2 b' hs hs' hb h => by
  obtain ⟨c0, c1, c2, g, o1, p1, q1, o2, p2, q2, bb, h1, h2, h3, h4, h5, h6⟩ := h
  by_cases hg : g = r
  · subst hg
    exact ⟨_, _, _, g, b1, m1, n1, b2, m2, n2, b', h1, h2, rfl, rfl, rfl, hs'⟩
  · exact ⟨c0, c1, c2, g, o1, p1, q1, o2, p2, q2, bb, h1, h2, h3, h4, h5, (hb.block g h6.lt hg).trans h6⟩⟩
def Fk.sto (B : Nat) : Fk := ⟨fun vs W => ∃ c0 c1 c2, vs.getD 1 undef = .agg #[c0, c1, c2] ∧ BxP B W (vs.getD 0 undef) c0 c1 c2, fun vs w w' hb h => by
  obtain ⟨c0, c1, c2, h0, b, o1, l1, k1, o2, l2, k2, bb, h1, h2, h3, h4, h5, h6⟩ := h
  exact ⟨c0, c1, c2, h0, b, o1, l1, k1, o2, l2, k2, bb, h1, h2, h3, h4, h5, h6.keep hb⟩, false, fun h => by cases h⟩
theorem sem_keep (f : Fk) (vs : List Value) {w w' : World} (hb : Below w.heap.size w w') (h : f.sem vs w) : f.sem vs w' := f.keep vs w w' hb h
theorem sem_store (f : Fk) (vs : List Value) {w w' : World} {r : Nat} {a1 a2 : Option Addr} {l1 k1 l2 k2 : Nat} {b : Bool} (hs : PSl w r (.slice a1 l1 k1) (.slice a2 l2 k2) (.bool b)) {b1 b2 : Option Addr} {m1 n1 m2 n2 : Nat} {b' : Bool} (hs' : PSl w' r (.slice b1 m1 n1) (.slice b2 m2 n2) (.bool b')) (hb : Bt r w w') (hf : f.box' = true) (h : f.sem vs w) : f.sem vs w' := f.store hf vs w w' r a1 a2 l1 k1 l2 k2 b b1 b2 m1 n1 m2 n2 b' hs hs' hb h
/-- But for one, no fact is one of a box that was filled. -/
theorem box_but (i : Nat) (fs : List Fk) (h : (List.range fs.length).all (fun j => decide (j = i) || (fs.map Fk.box').getD j true) = true) : ∀ j, j ≠ i → (fs.map Fk.box').getD j true = true := by
  intro j hj
  rw [List.all_eq_true] at h
  by_cases hl : j < fs.length
  · have := h j (List.mem_range.2 hl)
    rw [Bool.or_eq_true] at this
    rcases this with this | this
    · exact absurd (by simpa using this) hj
    · exact this
  · rw [List.getD_eq_getElem?_getD, List.getElem?_eq_none (by simpa using Nat.le_of_not_lt hl)]
    rfl
theorem fs_keep (fs : List Fk) (j : Nat) (vs : List Value) {w w' : World} (hb : Below w.heap.size w w') (h : (fs.map Fk.sem).getD j (fun _ _ => True) vs w) : (fs.map Fk.sem).getD j (fun _ _ => True) vs w' := by
  rw [List.getD_eq_getElem?_getD, List.getElem?_map] at h ⊢
  cases hf : fs[j]? with
  | none => trivial
  | some f => rw [hf] at h; exact sem_keep f vs hb h
theorem fs_store (fs : List Fk) (j : Nat) (vs : List Value) {w w' : World} {r : Nat} {a1 a2 : Option Addr} {l1 k1 l2 k2 : Nat} {b : Bool} (hs : PSl w r (.slice a1 l1 k1) (.slice a2 l2 k2) (.bool b)) {b1 b2 : Option Addr} {m1 n1 m2 n2 : Nat} {b' : Bool} (hs' : PSl w' r (.slice b1 m1 n1) (.slice b2 m2 n2) (.bool b')) (hb : Bt r w w') (hf : (fs.map Fk.box').getD j true = true) (h : (fs.map Fk.sem).getD j (fun _ _ => True) vs w) : (fs.map Fk.sem).getD j (fun _ _ => True) vs w' := by
  rw [List.getD_eq_getElem?_getD, List.getElem?_map] at h hf ⊢
  cases hq : fs[j]? with
  | none => trivial
  | some f => rw [hq] at h hf; exact sem_store f vs hs hs' hb hf h
theorem wanted_at {ops : Array Oper} {a : Act} {j d : Nat} {b : Bool} {oj : Oper} (h1 : ops[j]? = some oj) (h2 : oj.dst = some d) (h : a.tmps.getD d undef = .bool b) : (yielded ops a.tmps j == some b) = true := by
  unfold yielded
  rw [h1]
  simp only [Option.bind_some, h2]
  rw [Array.getD_eq_getD_getElem?] at h
  cases he : a.tmps[d]? with
  | none => rw [he] at h; cases h
  | some v => rw [he] at h; simp only [Option.getD_some] at h; rw [h]; simp
/-- A point in a box. -/
def PtB (B : Nat) (W : World) (b : Nat) (p : Pz) (L : Nat) : Prop := B ≤ b ∧ ∃ o1 l1 k1 o2 l2 k2, PSl W b (.slice o1 l1 k1) (.slice o2 l2 k2) (.bool p.inf) ∧ Nv W (.slice o1 l1 k1) p.x L ∧ Nv W (.slice o2 l2 k2) p.y L
theorem PtB.old {B : Nat} {W W' : World} {b : Nat} {p : Pz} {L : Nat} (h : PtB B W b p L) (hb : Below W.heap.size W W') : PtB B W' b p L := by
  obtain ⟨h0, o1, l1, k1, o2, l2, k2, h1, h2, h3⟩ := h
  exact ⟨h0, o1, l1, k1, o2, l2, k2, h1.keep hb, h2.old hb, h3.old hb⟩
/-- What 'p, ok := ..' leaves. -/
theorem pair_end {R : Option Pz → Prop} {L B : Nat} {W : World} {vs1 vs2 vs3 vs4 vs5 vs6 : List Value} (h1 : (Fk.pr R L).sem vs1 W) (h2 : Fk.same.sem vs2 W) (h3 : (Fk.ext 0).sem vs3 W) (h4 : (Fk.ext 1).sem vs4 W) (h5 : (Fk.sto B).sem vs5 W) (h6 : Fk.same.sem vs6 W)
    (e1 : vs2.getD 1 undef = vs1.getD 0 undef) (e2 : vs3.getD 1 undef = vs2.getD 0 undef) (e3 : vs4.getD 1 undef = vs2.getD 0 undef) (e4 : vs5.getD 1 undef = vs3.getD 0 undef) (e5 : vs6.getD 1 undef = vs4.getD 0 undef) :
    ∃ r b, R r ∧ vs5.getD 0 undef = .pointer (some ⟨b, 0, none⟩) ∧ ((∃ p, r = some p ∧ vs6.getD 0 undef = .bool true ∧ PtB B W b p L) ∨ (r = none ∧ vs6.getD 0 undef = .bool false ∧ PtB B W b ⟨0, 0, false⟩ L)) := by
  obtain ⟨r, hr, hp⟩ := h1
  have h2' : vs2.getD 0 undef = vs2.getD 1 undef := h2
  have h6' : vs6.getD 0 undef = vs6.getD 1 undef := h6
  obtain ⟨t3, q3, q3'⟩ := h3
  obtain ⟨t4, q4, q4'⟩ := h4
  obtain ⟨c0, c1, c2, hc, b, o1, l1, k1, o2, l2, k2, bb, hb, hB, rfl, rfl, rfl, hs⟩ := h5
  rw [e2, h2', e1] at q3
  rw [e3, h2', e1] at q4
  rw [e4, q3'] at hc
  rw [e5, q4'] at h6'
  refine ⟨r, b, hr, hb, ?_⟩
  rcases hp with ⟨u, p, h7, h8, vx, vy, rfl, n1, n2⟩ | ⟨h7, h8⟩
  · left
    rw [h8] at q3 q4
    injection q3 with q3
    injection q4 with q4
    subst q3
    subst q4
    injection hc with hc
    have hl := congrArg Array.toList hc
    simp only [List.cons.injEq, and_true] at hl
    obtain ⟨rfl, rfl, hbb⟩ := hl
    injection hbb with hbb
    subst hbb
    exact ⟨p, h7, h6', hB, o1, l1, k1, o2, l2, k2, hs, n1, n2⟩
  · right
    rw [h8] at q3 q4
    injection q3 with q3
    injection q4 with q4
    subst q3
    subst q4
    injection hc with hc
    have hl := congrArg Array.toList hc
    simp only [List.cons.injEq, and_true] at hl
    obtain ⟨h9, h10, hbb⟩ := hl
    injection hbb with hbb
    subst hbb
    rw [← h9, ← h10] at hs
    exact ⟨h7, h6', hB, none, 0, 0, none, 0, 0, hs, nv_nil _ _, nv_nil _ _⟩
section
variable {P : Program} {ops : Array Oper} {Q : Exit → Act → World → Prop}
/-- An operation that only makes memory: what is asked of it. -/
theorem GInv.grow {rd : List (List Nat)} {fs : List Fk} {a0 : Act} {w0 : World} {listed : Array Bool} {a : Act} {w : World} (h : GInv .any ops rd (fs.map Fk.sem) a0 w0 listed a w) {i : Nat} {dst : Option Tmp} {KK : Act → World → Prop}
    (hK : ∀ v w', Below w0.heap.size w0 w' → (∀ j vs, listed.getD j false = true → (fs.map Fk.sem).getD j (fun _ _ => True) vs w → (fs.map Fk.sem).getD j (fun _ _ => True) vs w') → (fs.map Fk.sem).getD i (fun _ _ => True) ((rd.getD i []).map fun s => (a.put dst v).tmps.getD s undef) w' → KK (a.put dst v) w') (v : Value) (w' : World) (hb : Below w.heap.size w w') (hf : (fs.map Fk.sem).getD i (fun _ _ => True) ((rd.getD i []).map fun s => (a.put dst v).tmps.getD s undef) w') : KK (a.put dst v) w' :=
  hK v w' (h.below.trans (hb.mono h.below.size)) (fun j vs _ hj => fs_keep fs j vs hb hj) hf
/-- An operation that fills a box. -/
theorem GInv.fill {rd : List (List Nat)} {fs : List Fk} {a0 : Act} {w0 : World} {listed : Array Bool} {a : Act} {w : World} (h : GInv .any ops rd (fs.map Fk.sem) a0 w0 listed a w) {i : Nat} {dst : Option Tmp} {KK : Act → World → Prop}
    (hK : ∀ v w', Below w0.heap.size w0 w' → (∀ j vs, listed.getD j false = true → (fs.map Fk.sem).getD j (fun _ _ => True) vs w → (fs.map Fk.sem).getD j (fun _ _ => True) vs w') → (fs.map Fk.sem).getD i (fun _ _ => True) ((rd.getD i []).map fun s => (a.put dst v).tmps.getD s undef) w' → KK (a.put dst v) w') (hli : listed.getD i false = false) (v : Value) (r : Nat) {a1 a2 : Option Addr} {l1 k1 l2 k2 : Nat} {b : Bool} (hs : PSl w r (.slice a1 l1 k1) (.slice a2 l2 k2) (.bool b)) (b1 b2 : Option Addr) (m1 n1 m2 n2 : Nat) (b' : Bool) (hr : w0.heap.size ≤ r) (hbx : ∀ j, j ≠ i → (fs.map Fk.box').getD j true = true)
    (hf : (fs.map Fk.sem).getD i (fun _ _ => True) ((rd.getD i []).map fun s => (a.put dst v).tmps.getD s undef) (((w.setCell ⟨r, 0, none⟩ (.slice b1 m1 n1)).setCell ⟨r, 1, none⟩ (.slice b2 m2 n2)).setCell ⟨r, 2, none⟩ (.bool b'))) : KK (a.put dst v) (((w.setCell ⟨r, 0, none⟩ (.slice b1 m1 n1)).setCell ⟨r, 1, none⟩ (.slice b2 m2 n2)).setCell ⟨r, 2, none⟩ (.bool b')) :=
  hK v _ (h.below.trans ((Bt.set3 w r _ _ _).below hr h.below.size)) (fun j vs hl hj => fs_store fs j vs hs (hs.set3 _ _ _) (Bt.set3 w r _ _ _) (hbx j (by rintro rfl; rw [hli] at hl; cases hl)) hj) hf
theorem GInv.kept {md : Region.Mode} {rd : List (List Nat)} {Fs : List (List Value → World → Prop)} {a0 : Act} {w0 : World} {listed : Array Bool} {a : Act} {w : World} (h : GInv md ops rd Fs a0 w0 listed a w) (s : Nat) (hs : (List.range ops.size).all (fun j => !dstIs ops j s) = true) : a.tmps.getD s undef = a0.tmps.getD s undef := by
  refine h.old s fun j _ => ?_
  rw [List.all_eq_true] at hs
  by_cases hjs : j < ops.size
  · simpa using hs j (List.mem_range.2 hjs)
  · unfold dstIs
    rw [Array.getElem?_eq_none (by omega)]
end
end Go.Proofs.Ytnacgkkklmlhaaa
/-
  Contracts of the document's answer: the product (Mul).
-/
namespace Go.Proofs.Ytnacgkkklmlhaaa
open Go.RowKit
set_option linter.unusedVariables false
set_option linter.unusedSimpArgs false

theorem Row.drewN {e : TypeId} {k : IntKind} {w : World} {g : Nat} {xs : List Int} (h : Row e k w g xs) (n : Nat) : Row e k (w.drewN n) g xs := h

/-- What Mul has gathered: i digits' rows whole, k products of the next; what is carried. -/
def RMuls (xs ys : List Int) (n i k : Nat) (cur : List Int) (c : Int) : Prop :=
  cur.length = n ∧ Dg D16 cur ∧ 0 ≤ c ∧ c < 65536 ∧ val D16 cur + D16 ^ (i + k) * c = low D16 xs i * val D16 ys + D16 ^ i * (xs.getD i 0 * low D16 ys k)
theorem RMuls.zero (xs ys : List Int) (n : Nat) : RMuls xs ys n 0 0 (List.replicate n 0) 0 :=
  ⟨by simp, Dg.zeros D16_pos _, by decide, by decide, by rw [val_replicate, low_zero, low_zero]; simp⟩
theorem RMuls.top {xs ys : List Int} {n i k : Nat} {cur : List Int} {c : Int} (h : RMuls xs ys n i k cur c) (hx : Dg D16 xs) (hy : Dg D16 ys) (hi : i < xs.length) (hc : 0 < c) : k ≤ ys.length := by
  obtain ⟨h1, h2, h3, h4, h5⟩ := h
  by_cases hk : k ≤ ys.length
  · exact hk
  · exfalso
    have hv := val_nonneg D16_pos h2
    have hlow : low D16 ys k = val D16 ys := low_all _ _ _ (by have := top_le ys; omega)
    rw [hlow] at h5
    have hY := val_lt D16_pos hy
    have hY0 := val_nonneg D16_pos hy
    have e1 : low D16 xs i * val D16 ys + D16 ^ i * (xs.getD i 0 * val D16 ys) = low D16 xs (i + 1) * val D16 ys := by rw [low_succ]; grind
    rw [e1] at h5
    have hX : low D16 xs (i + 1) < D16 ^ (i + 1) := by
      have a := val_lt D16_pos (hx.take (i + 1))
      have b : (xs.take (i + 1)).length = i + 1 := by simp; omega
      rw [b] at a; exact a
    have hX0 : 0 ≤ low D16 xs (i + 1) := val_nonneg D16_pos (hx.take _)
    have hp1 : 0 < D16 ^ (i + 1) := Int.pow_pos D16_pos
    have hp2 : 0 < D16 ^ ys.length := Int.pow_pos D16_pos
    have m1 : low D16 xs (i + 1) * val D16 ys ≤ low D16 xs (i + 1) * D16 ^ ys.length := Int.mul_le_mul_of_nonneg_left (by omega) hX0
    have m2 : (low D16 xs (i + 1) + 1) * D16 ^ ys.length ≤ D16 ^ (i + 1) * D16 ^ ys.length := Int.mul_le_mul_of_nonneg_right (by omega) (by omega)
    rw [Int.add_mul, ← Int.pow_add] at m2
    have m3 := pow_mono (B := D16) (by decide) (show i + 1 + ys.length ≤ i + k by omega)
    have m4 : D16 ^ (i + k) * 1 ≤ D16 ^ (i + k) * c := Int.mul_le_mul_of_nonneg_left (by omega) (by have : 0 < D16 ^ (i + k) := Int.pow_pos D16_pos; omega)
    omega
theorem prod16 (x y : Int) (hx : 0 ≤ x ∧ x < 65536) (hy : 0 ≤ y ∧ y < 65536) : 0 ≤ x * y ∧ x * y ≤ 4294836225 := by
  have a := Int.mul_nonneg hx.1 hy.1
  have b : x * y ≤ 65535 * 65535 := Int.mul_le_mul (by omega) (by omega) hy.1 (by decide)
  omega
theorem RMuls.step {xs ys : List Int} {n i k : Nat} {cur : List Int} {c : Int} (h : RMuls xs ys n i k cur c) (hx : Dg D16 xs) (hy : Dg D16 ys) (hn : i + k < n) :
    RMuls xs ys n i (k + 1) (cur.set (i + k) ((cur.getD (i + k) 0 + c + xs.getD i 0 * ys.getD k 0) % 65536)) ((cur.getD (i + k) 0 + c + xs.getD i 0 * ys.getD k 0) / 65536) := by
  obtain ⟨h1, h2, h3, h4, h5⟩ := h
  have gx := hx.getD D16_pos i
  have gy := hy.getD D16_pos k
  have gc := h2.getD D16_pos (i + k)
  have hD : D16 = 65536 := rfl
  have hp := prod16 (xs.getD i 0) (ys.getD k 0) (by rw [hD] at gx; exact gx) (by rw [hD] at gy; exact gy)
  rw [hD] at gc
  refine ⟨by simp [h1], h2.set _ (by rw [hD]; omega), by omega, by omega, ?_⟩
  rw [val_set _ _ _ _ (by omega), low_succ, show i + (k + 1) = (i + k) + 1 by omega, Int.pow_succ]
  have e : cur.getD (i + k) 0 + c + xs.getD i 0 * ys.getD k 0 = (cur.getD (i + k) 0 + c + xs.getD i 0 * ys.getD k 0) % 65536 + 65536 * ((cur.getD (i + k) 0 + c + xs.getD i 0 * ys.getD k 0) / 65536) := by omega
  generalize (cur.getD (i + k) 0 + c + xs.getD i 0 * ys.getD k 0) % 65536 = r at *
  generalize (cur.getD (i + k) 0 + c + xs.getD i 0 * ys.getD k 0) / 65536 = q at *
  generalize cur.getD (i + k) 0 = z at *
  generalize xs.getD i 0 = x at *
  generalize ys.getD k 0 = y at *
  generalize val D16 cur = V at *
  generalize low D16 ys k = L at *
  generalize low D16 xs i = X at *
  generalize val D16 ys = Y at *
  have e2 : D16 ^ (i + k) = D16 ^ i * D16 ^ k := Int.pow_add _ _ _
  rw [e2] at h5 ⊢
  generalize D16 ^ i = p at *
  generalize D16 ^ k = s at *
  rw [hD]
  have e3 : r = z + c + x * y - 65536 * q := by omega
  rw [e3]
  grind
theorem RMuls.next {xs ys : List Int} {n i k : Nat} {cur : List Int} (h : RMuls xs ys n i k cur 0) (hk : ys.length ≤ k) : RMuls xs ys n (i + 1) 0 cur 0 := by
  obtain ⟨h1, h2, h3, h4, h5⟩ := h
  refine ⟨h1, h2, h3, h4, ?_⟩
  have hlow : low D16 ys k = val D16 ys := low_all _ _ _ (by have := top_le ys; omega)
  rw [hlow] at h5
  rw [low_succ, low_zero]
  grind
theorem RMuls.done {xs ys : List Int} {n k : Nat} {cur : List Int} (h : RMuls xs ys n xs.length 0 cur 0) : val D16 cur = val D16 xs * val D16 ys := by
  have := h.2.2.2.2
  rw [low_zero, low_len] at this
  simpa using this

set_option maxHeartbeats 4000000 in
/-- the document's Mul. -/
theorem rMul_any (ao bo : Option Addr) (la ca lb cb : Nat) (xs ys : List Int) (w : World) (h : NumIn .i64 D16 w ao la ca xs) (h' : NumIn .i64 D16 w bo lb cb ys) (hla : la ≤ 1000000) (hlb : lb ≤ 1000000) :
    Calls Try.prog 49 #[.slice ao la ca, .slice bo lb cb] w fun e w' => ∃ v, e = .returned v ∧ NumOut .i64 D16 w w' v (val D16 xs * val D16 ys) (la + lb + 1) := by
  have hl := h.len
  have hl' := h'.len
  go_enter Try.func49, Try.ntmps49
  go_wp2_with (at_make; refine wpList_make_row _ rfl _ _ 41 rfl 3 .i64 8 Try.underlying41 Try.infoI _ _ _ _ (la + lb + 1) rfl rfl (by omega) (by omega) (by omega) (by unfold maxLen; omega) ?_)
  intro w3 hrow hbel
  go_wp2
  go_loopw [6] (fun vi wr => ∃ (i : Nat) (cur : List Int), i ≤ la ∧ vi = .int .i64 i ∧ Row 3 .i64 wr w.heap.size cur ∧ RMuls xs ys (la + lb + 1) i 0 cur 0 ∧ Below w.heap.size w wr) (fun vi _ => la - (intOf vi).toNat)
  case atStart => exact ⟨0, _, Nat.zero_le _, rfl, hrow, RMuls.zero _ _ _, hbel⟩
  case round =>
    obtain ⟨i, cur0, hi, rfl, hrw0, hm0, hb0⟩ := hrel
    clear hrow hbel
    by_cases hlt : i < la
    · have HR0 : Hid (Row 3 .i64 wr w.heap.size cur0) := hrw0
      have HM0 : Hid (RMuls xs ys (la + lb + 1) i 0 cur0 0) := hm0
      have HB0 : Hid (Below w.heap.size w wr) := hb0
      clear hrw0 hm0 hb0
      go_wp2
      go_loopw [7, 8] (fun vc vk wr => ∃ (k : Nat) (c : Int) (cur : List Int), vk = .int .i64 k ∧ vc = .int .i64 c ∧ Row 3 .i64 wr w.heap.size cur ∧ RMuls xs ys (la + lb + 1) i k cur c ∧ Below w.heap.size w wr) (fun _ vk _ => lb + 1 - (intOf vk).toNat)
      case atStart => exact ⟨0, 0, cur0, rfl, rfl, HR0.out, HM0.out, HB0.out⟩
      case round =>
        obtain ⟨k, c, cur, rfl, rfl, hrw, hm, hb⟩ := hrel
        clear HR0 HM0 HB0
        have hc0 := hm.2.2.1
        have hc1 := hm.2.2.2.1
        by_cases hgo : k < lb ∨ 0 < c
        · have hk : k ≤ lb := by
            rcases hgo with hgo | hgo
            · omega
            · have := hm.top h.dg h'.dg (by omega) hgo; omega
          have hlen := hm.1
          have hx := h.lies.old hb
          obtain ⟨b, off, rfl, hblk, hcs⟩ := hx.at (by omega)
          have hcx := hcs i hlt
          have hfr := hrw.frozen (i + k)
          have hcl := hrw.cell (i + k) (by omega)
          have gx := h.dg.getD D16_pos i
          have gy := h'.dg.getD D16_pos k
          have gz := hm.2.1.getD D16_pos (i + k)
          have HS : Hid (RMuls xs ys (la + lb + 1) i (k + 1) (cur.set (i + k) ((cur.getD (i + k) 0 + c + xs.getD i 0 * ys.getD k 0) % 65536)) ((cur.getD (i + k) 0 + c + xs.getD i 0 * ys.getD k 0) / 65536)) := hm.step h.dg h'.dg (by omega)
          have HB : Hid (Below w.heap.size w wr) := hb
          have HR : Hid (Row 3 .i64 wr w.heap.size cur) := hrw
          have hp := prod16 (xs.getD i 0) (ys.getD k 0) gx gy
          by_cases hkl : k < lb
          · have hy := h'.lies.old hb
            obtain ⟨b2, off2, rfl, hblk2, hcs2⟩ := hy.at (by omega)
            have hcy := hcs2 k hkl
            have hp1 := hp.1
            have hp2 := hp.2
            have gz1 := gz.1
            have gz2 : cur.getD (i + k) 0 < 65536 := gz.2
            generalize cur.getD (i + k) 0 = z at *
            have HX : Hid (xs.getD i 0 * ys.getD k 0 = xs.getD i 0 * ys.getD k 0) := rfl
            generalize xs.getD i 0 = x at *
            generalize ys.getD k 0 = y at *
            have hmul : IntKind.i64.wrap (x * y) = x * y := IntWalk.i64_in _ (by omega)
            clear hrw hm hb hx hcs hy hcs2 h h' hgo gx gy gz hp HX
            go_wp2
            go_quiet (fail)
            go_wp2
            go_roundw
            case rel => exact ⟨k + 1, _, _, by go_num, rfl, (HR.out.drewN _).set _ _, HS.out, (HB.out.trans (Drew.below ⟨_, rfl⟩ _)).setCell (Nat.le_refl _) _⟩
            case measure => simp [intOf] <;> omega
          · have hz : ys.getD k 0 = 0 := by simp [List.getD, List.getElem?_eq_none (show ys.length ≤ k by omega)]
            rw [hz] at HS
            simp only [Int.mul_zero, Int.add_zero] at HS
            have gz1 := gz.1
            have gz2 : cur.getD (i + k) 0 < 65536 := gz.2
            generalize cur.getD (i + k) 0 = z at *
            have hcp : 0 < c := by omega
            clear hrw hm hb hx hcs h h' hgo gx gy gz hp hcx
            go_wp2
            go_roundw
            case rel => exact ⟨k + 1, _, _, by go_num, rfl, HR.out.set _ _, HS.out, HB.out.setCell (Nat.le_refl _) _⟩
            case measure => simp [intOf] <;> omega
        · obtain rfl : c = 0 := by omega
          have hkl : lb ≤ k := by omega
          have HS : Hid (RMuls xs ys (la + lb + 1) (i + 1) 0 cur 0) := hm.next (by omega)
          clear hm h h' hgo hc0 hc1
          go_wp2
          go_roundw
          case rel => exact ⟨i + 1, cur, by omega, by go_num, hrw, HS.out, hb⟩
          case measure => simp [intOf] <;> omega
    · obtain rfl : i = la := by omega
      have hlen := hm0.1
      have HV : Hid (val D16 cur0 = val D16 xs * val D16 ys) := by rw [← hl] at hm0; exact hm0.done (k := 0)
      have HR : Hid (NumIn .i64 D16 wr (some ⟨w.heap.size, 0, none⟩) (i + lb + 1) (i + lb + 1) cur0) := by have := hrw0.num hm0.2.1 (by omega); rw [hlen] at this; exact this
      have HB : Hid (Below w.heap.size w wr) := hb0
      clear hm0 hb0 hrw0 hlen h h'
      go_wp2_with fail
      refine (rtrim_any _ _ _ _ _ HR.out).mono ?_
      rintro e w4 ⟨rfl, rfl⟩
      go_wp2
      go_ret
      exact ⟨_, rfl, HR.out.out HB.out _ HV.out _ (by omega)⟩
end Go.Proofs.Ytnacgkkklmlhaaa
/-
  Contracts of the document's small numbers by which its table is found: add, mul, shifted, cmp.
-/
namespace Go.Proofs.Ytnacgkkklmlhaaa
open Go.RowKit
set_option linter.unusedVariables false
set_option linter.unusedSimpArgs false

/-- A number of digits in memory, whatever its zeros. -/
def Nb (w w' : World) (v : Value) (n : Int) (L : Nat) : Prop :=
  ∃ ao len cap xs, v = .slice ao len cap ∧ NumIn .i64 D16 w' ao len cap xs ∧ val D16 xs = n ∧ len ≤ L ∧ Below w.heap.size w w'

theorem dg_room (xs : List Int) (hd : Dg D16 xs) (bit : Nat) (h : val D16 xs % 2 ^ (bit + 1) = 0) : xs.getD (bit / 16) 0 + 2 ^ (bit % 16) < 65536 := by
  rw [digit_at D16_pos xs hd (bit / 16)]
  obtain ⟨m, hm⟩ : ∃ m, val D16 xs = 2 ^ (bit + 1) * m := ⟨val D16 xs / 2 ^ (bit + 1), by have := Int.emod_add_mul_ediv (val D16 xs) (2 ^ (bit + 1)); omega⟩
  have e : (2 : Int) ^ (bit + 1) = D16 ^ (bit / 16) * 2 ^ (bit % 16 + 1) := by
    rw [show D16 = 2 ^ 16 from rfl, ← Int.pow_mul, ← Int.pow_add, show 16 * (bit / 16) + (bit % 16 + 1) = bit + 1 by omega]
  have hp : (0 : Int) < D16 ^ (bit / 16) := Int.pow_pos D16_pos
  rw [hm, e, Int.mul_assoc, Int.mul_ediv_cancel_left _ (by omega)]
  have hr : bit % 16 < 16 := Nat.mod_lt _ (by decide)
  generalize bit % 16 = r at *
  have hD : D16 = 65536 := rfl
  rw [hD]
  have : r = 0 ∨ r = 1 ∨ r = 2 ∨ r = 3 ∨ r = 4 ∨ r = 5 ∨ r = 6 ∨ r = 7 ∨ r = 8 ∨ r = 9 ∨ r = 10 ∨ r = 11 ∨ r = 12 ∨ r = 13 ∨ r = 14 ∨ r = 15 := by omega
  rcases this with rfl | rfl | rfl | rfl | rfl | rfl | rfl | rfl | rfl | rfl | rfl | rfl | rfl | rfl | rfl | rfl <;> simp <;> omega

theorem pow_bit (bit : Nat) : (2 : Int) ^ bit = D16 ^ (bit / 16) * 2 ^ (bit % 16) := by
  rw [show D16 = 2 ^ 16 from rfl, ← Int.pow_mul, ← Int.pow_add, Nat.div_add_mod]
theorem pow2_16 (r : Nat) (h : r < 16) : (0 : Int) < 2 ^ r ∧ (2 : Int) ^ r ≤ 32768 := by
  have : r = 0 ∨ r = 1 ∨ r = 2 ∨ r = 3 ∨ r = 4 ∨ r = 5 ∨ r = 6 ∨ r = 7 ∨ r = 8 ∨ r = 9 ∨ r = 10 ∨ r = 11 ∨ r = 12 ∨ r = 13 ∨ r = 14 ∨ r = 15 := by omega
  rcases this with rfl | rfl | rfl | rfl | rfl | rfl | rfl | rfl | rfl | rfl | rfl | rfl | rfl | rfl | rfl | rfl <;> decide

theorem Dg_splice {B : Int} (hB : 0 < B) (ys : List Int) (hd : Dg B ys) (n m : Nat) : Dg B (ys.take n ++ List.replicate m 0) :=
  (hd.take n).append (Dg.zeros hB m)
theorem val_splice (B : Int) (ys : List Int) (n m : Nat) (h : ys.length = n) : val B (ys.take n ++ List.replicate m 0) = val B ys := by
  rw [List.take_of_length_le (by omega), val_append, val_replicate]; simp

set_option maxHeartbeats 1000000 in
/-- the document's add: a bit more. -/
theorem sAdd_any (ao : Option Addr) (la ca : Nat) (xs : List Int) (bit : Nat) (w : World) (h : NumIn .i64 D16 w ao la ca xs) (hbit : bit ≤ 40) (hla : la ≤ 3) (hm : val D16 xs % 2 ^ (bit + 1) = 0) :
    Calls Try.prog 77 #[.slice ao la ca, .int .i64 bit] w fun e w' => ∃ v, e = .returned v ∧ Nb w w' v (val D16 xs + 2 ^ bit) 3 := by
  have hroom := dg_room xs h.dg bit hm
  have hpb := pow_bit bit
  have hl := h.len
  obtain ⟨q, hq⟩ : ∃ q, bit / 16 = q := ⟨_, rfl⟩
  obtain ⟨r, hr⟩ : ∃ r, bit % 16 = r := ⟨_, rfl⟩
  have hqI : (bit : Int) / 16 = (q : Int) := by omega
  have hrI : (bit : Int) % 16 = (r : Int) := by omega
  have hr16 : r < 16 := by omega
  have hq3 : q < 3 := by omega
  rw [hq, hr] at hroom hpb
  obtain ⟨n, hn⟩ : ∃ n, max la (q + 1) = n := ⟨_, rfl⟩
  have hnI : max (la : Int) ((q : Int) + 1) = (n : Int) := by omega
  have hn3 : n ≤ 3 := by omega
  have hqn : q < n := by omega
  have hln : la ≤ n := by omega
  have hp2 := pow2_16 r hr16
  have HL : Hid (Lies .i64 w ao la xs) := h.lies
  have HD : Hid (Dg D16 xs) := h.dg
  have HV : Hid (xs.getD q 0 + 2 ^ r < 65536 ∧ (2 : Int) ^ bit = D16 ^ q * 2 ^ r ∧ xs.length = la) := ⟨hroom, hpb, hl⟩
  clear h hroom hpb hl hq hr hm hn
  go_enter Try.func77, Try.ntmps77
  go_wp2_with (at_make; refine wpList_make_row _ rfl _ _ 40 rfl 3 .i64 8 Try.underlying40 Try.infoI _ _ _ _ n rfl rfl rfl rfl (by omega) (by unfold maxLen; omega) ?_)
  intro w1 hrow hbel
  have hl1 := HL.out.old hbel
  go_wp2_with (refine wpList_copy_row rfl _ _ 40 40 rfl 3 Try.underlying40 .i64 8 Try.infoI w.heap.size ao _ _ _ _ rfl rfl _ xs hrow hl1 (by simp) la (by omega) w.heap.size w hbel (Nat.le_refl _) ?_)
  intro w2 hrow2 hbel2
  have hd2 : Dg D16 (xs.take la ++ List.replicate (n - la) 0) := Dg_splice D16_pos xs HD.out la (n - la)
  have hv2 : val D16 (xs.take la ++ List.replicate (n - la) 0) = val D16 xs := val_splice D16 xs la (n - la) HV.out.2.2
  have hlen2 : (xs.take la ++ List.replicate (n - la) (0 : Int)).length = n := by have := HV.out.2.2; simp; omega
  have hx2 : (xs.take la ++ List.replicate (n - la) (0 : Int)).getD q 0 = xs.getD q 0 := by
    rw [digit_at D16_pos _ hd2, digit_at D16_pos xs HD.out, hv2]
  generalize xs.take la ++ List.replicate (n - la) (0 : Int) = cur at *
  have hc := hrow2.cell q (by omega)
  have hf := hrow2.frozen q
  rw [hx2] at hc
  have gx := HD.out.getD D16_pos q
  have x0 := gx.1
  have x1 := HV.out.1
  have HRW : Hid (Row 3 .i64 w2 w.heap.size cur ∧ Dg D16 cur ∧ val D16 cur = val D16 xs ∧ cur.length = n ∧ cur.getD q 0 = xs.getD q 0 ∧ Below w.heap.size w w2) := ⟨hrow2, hd2, hv2, hlen2, hx2, hbel2⟩
  generalize hxg : xs.getD q 0 = x at *
  have HXG : Hid (xs.getD q 0 = x) := hxg
  clear hrow hl1 hrow2 hbel hbel2 hd2 hv2 hlen2 hx2 gx HL HD hxg
  have hsh : IntKind.i64.wrap (2 ^ r) = 2 ^ r := IntWalk.i64_in _ (by omega)
  have hsum : IntKind.i64.wrap (x + 2 ^ r) = x + 2 ^ r := IntWalk.i64_in _ (by omega)
  go_wp2
  go_region
  all_goals
    go_wp2
    go_ret
    have hrs := (HRW.out.1.drewN 1).set q (x + 2 ^ r)
    have hlen : (cur.set q (x + 2 ^ r)).length = n := by rw [List.length_set]; exact HRW.out.2.2.2.1
    refine ⟨_, rfl, some ⟨w.heap.size, 0, none⟩, n, n, cur.set q (x + 2 ^ r), rfl, ?_, ?_, by omega, ?_⟩
    · have := hrs.num (B := D16) (HRW.out.2.1.set q ⟨by omega, by have := x1; unfold D16; omega⟩) (by omega)
      rw [hlen] at this
      exact this
    · rw [val_set _ _ _ _ (by have := HRW.out.2.2.2.1; omega), HRW.out.2.2.1, HRW.out.2.2.2.2.1, HV.out.2.1]
      grind
    · exact (HRW.out.2.2.2.2.2.trans (Drew.below ⟨1, rfl⟩ _)).setCell (p := ⟨w.heap.size, q, none⟩) (Nat.le_refl _) _

set_option maxHeartbeats 1000000 in
/-- the document's shifted. -/
theorem sShifted_any (p : Int) (by16 : Nat) (w : World) (hp0 : 0 ≤ p) (hp1 : p < 65536) (hb : by16 ≤ 8) :
    Calls Try.prog 80 #[.int .i64 p, .int .i64 (16 * by16 : Nat)] w fun e w' => ∃ v, e = .returned v ∧ Nb w w' v (p * D16 ^ by16) 9 := by
  have hqI : ((16 * by16 : Nat) : Int) / 16 = (by16 : Int) := by omega
  obtain ⟨n, hn⟩ : ∃ n, by16 + 1 = n := ⟨_, rfl⟩
  have hnI : (by16 : Int) + 1 = (n : Int) := by omega
  have hn9 : n ≤ 9 := by omega
  have hbn : by16 < n := by omega
  have hbs : 16 * by16 < 1000 := by omega
  obtain ⟨m, hm⟩ : ∃ m, 16 * by16 = m := ⟨_, rfl⟩
  rw [hm] at hqI hbs ⊢
  clear hn hm
  go_enter Try.func80, Try.ntmps80
  go_wp2_with (at_make; refine wpList_make_row _ rfl _ _ 40 rfl 3 .i64 8 Try.underlying40 Try.infoI _ _ _ _ n rfl rfl rfl rfl (by omega) (by unfold maxLen; omega) ?_)
  intro w1 hrow hbel
  have hc := hrow.cell by16 (by simp; omega)
  have hf := hrow.frozen by16
  have HRW : Hid (Row 3 .i64 w1 w.heap.size (List.replicate n 0) ∧ Below w.heap.size w w1) := ⟨hrow, hbel⟩
  clear hrow hbel
  go_wp2
  go_ret
  have hrs := HRW.out.1.set by16 p
  have hlen : ((List.replicate n (0 : Int)).set by16 p).length = n := by simp
  refine ⟨_, rfl, some ⟨w.heap.size, 0, none⟩, n, n, (List.replicate n 0).set by16 p, rfl, ?_, ?_, hn9, HRW.out.2.setCell (p := ⟨w.heap.size, by16, none⟩) (Nat.le_refl _) _⟩
  · have := hrs.num (B := D16) ((Dg.zeros D16_pos n).set by16 ⟨hp0, hp1⟩) (by omega)
    rw [hlen] at this
    exact this
  · rw [val_set _ _ _ _ (by simp; omega), val_replicate]
    have : (List.replicate n (0 : Int)).getD by16 0 = 0 := by simp [List.getD, List.getElem?_replicate]; split <;> rfl
    rw [this]
    grind

/-- With zeros above. -/
def pad (xs : List Int) (n : Nat) : List Int := xs ++ List.replicate (n - xs.length) 0
theorem pad_len (xs : List Int) (n : Nat) (h : xs.length ≤ n) : (pad xs n).length = n := by simp [pad]; omega
theorem pad_val (B : Int) (xs : List Int) (n : Nat) : val B (pad xs n) = val B xs := by unfold pad; rw [val_append, val_replicate]; simp
theorem pad_dg {B : Int} (hB : 0 < B) {xs : List Int} (h : Dg B xs) (n : Nat) : Dg B (pad xs n) := h.append (Dg.zeros hB _)
theorem pad_get (xs : List Int) (n j : Nat) : (pad xs n).getD j 0 = xs.getD j 0 := by
  unfold pad
  by_cases h : j < xs.length
  · simp [List.getD, List.getElem?_append_left h]
  · simp only [List.getD]
    rw [List.getElem?_append_right (by omega), List.getElem?_replicate, List.getElem?_eq_none (show xs.length ≤ j by omega)]
    split <;> rfl
theorem cmp_pad (xs ys : List Int) (hx : Dg D16 xs) (hy : Dg D16 ys) (p : Nat) (heq : ∀ j, p < j → xs.getD j 0 = ys.getD j 0) (hlt : xs.getD p 0 < ys.getD p 0) : val D16 xs < val D16 ys := by
  obtain ⟨n, hn⟩ : ∃ n, n = max (max xs.length ys.length) (p + 1) := ⟨_, rfl⟩
  have := cmp_at D16 D16_one (pad xs n) (pad ys n) (pad_dg D16_pos hx n) (pad_dg D16_pos hy n) n (pad_len xs n (by omega)) (pad_len ys n (by omega)) p (by omega) (fun j h1 _ => by rw [pad_get, pad_get]; exact heq j h1) (by rw [pad_get, pad_get]; exact hlt)
  rwa [pad_val, pad_val] at this
theorem eq_pad (xs ys : List Int) (h : ∀ j, xs.getD j 0 = ys.getD j 0) : val D16 xs = val D16 ys := by
  obtain ⟨n, hn⟩ : ∃ n, n = max xs.length ys.length := ⟨_, rfl⟩
  have e : pad xs n = pad ys n := by
    apply List.ext_getElem
    · rw [pad_len xs n (by omega), pad_len ys n (by omega)]
    · intro j h1 h2
      have := h j
      rw [← pad_get xs n, ← pad_get ys n] at this
      simpa [List.getD, h1, h2] using this
  rw [← pad_val D16 xs n, e, pad_val]
theorem getD_over (xs : List Int) (j : Nat) (h : xs.length ≤ j) : xs.getD j 0 = 0 := by simp [List.getD, List.getElem?_eq_none h]

set_option maxHeartbeats 2000000 in
/-- the document's cmp. -/
theorem sCmp_any (ao bo : Option Addr) (la ca lb cb : Nat) (xs ys : List Int) (w : World) (h : NumIn .i64 D16 w ao la ca xs) (h' : NumIn .i64 D16 w bo lb cb ys) (hla : la ≤ 1000) (hlb : lb ≤ 1000) :
    Calls Try.prog 79 #[.slice ao la ca, .slice bo lb cb] w fun e w' => e = .returned (.int .i64 (cmpI (val D16 xs) (val D16 ys))) ∧ w' = w := by
  obtain ⟨n, hn⟩ : ∃ n, max la lb = n := ⟨_, rfl⟩
  have hnI : max (la : Int) (lb : Int) = (n : Int) := by omega
  have hn1 : n ≤ 1000 := by omega
  have hl := h.len
  have hl' := h'.len
  have HX : Hid (NumIn .i64 D16 w ao la ca xs) := h
  have HY : Hid (NumIn .i64 D16 w bo lb cb ys) := h'
  have HN : Hid (max la lb = n ∧ xs.length = la ∧ ys.length = lb) := ⟨hn, hl, hl'⟩
  clear h h' hn hl hl'
  go_enter Try.func79, Try.ntmps79
  go_wp2
  go_loop [5] (fun vi => ∃ i : Int, vi = .int .i64 i ∧ -1 ≤ i ∧ i < n ∧ ∀ j : Nat, i < j → xs.getD j 0 = ys.getD j 0) (fun vi => (intOf vi + 1).toNat)
  case atStart =>
    refine ⟨(n : Int) - 1, rfl, by omega, by omega, fun j hj => ?_⟩
    have := HN.out
    rw [getD_over xs j (by omega), getD_over ys j (by omega)]
  case round =>
    obtain ⟨i, rfl, hi0, hi1, heq⟩ := hrel
    by_cases hneg : i < 0
    · obtain rfl : i = -1 := by omega
      have HF : Hid (cmpI (val D16 xs) (val D16 ys) = 0) := cmpI_eq (eq_pad xs ys (fun j => heq j (by omega)))
      clear heq
      go_wp2
      go_ret
      exact ⟨ret_int HF.out.symm, rfl⟩
    · obtain ⟨p, rfl⟩ := Int.eq_ofNat_of_zero_le (show 0 ≤ i by omega)
      have HL : Hid (xs.getD p 0 < ys.getD p 0 → val D16 xs < val D16 ys) := cmp_pad xs ys HX.out.dg HY.out.dg p (fun j hj => heq j (by omega))
      have HG : Hid (ys.getD p 0 < xs.getD p 0 → val D16 ys < val D16 xs) := cmp_pad ys xs HY.out.dg HX.out.dg p (fun j hj => (heq j (by omega)).symm)
      have HE : Hid (xs.getD p 0 = ys.getD p 0 → ∀ j : Nat, (p : Int) - 1 < j → xs.getD j 0 = ys.getD j 0) := fun h0 j hj => by
        by_cases e : j = p
        · rw [e]; exact h0
        · exact heq j (by omega)
      have hcx : p < la → ∃ b off, ao = some ⟨b, off, none⟩ ∧ w.cell? ⟨b, off + p, none⟩ = some (.int .i64 (xs.getD p 0)) := fun hp => by
        obtain ⟨b, off, e, _, hc⟩ := HX.out.lies.at (by omega)
        exact ⟨b, off, e, hc p hp⟩
      have hcy : p < lb → ∃ b off, bo = some ⟨b, off, none⟩ ∧ w.cell? ⟨b, off + p, none⟩ = some (.int .i64 (ys.getD p 0)) := fun hp => by
        obtain ⟨b, off, e, _, hc⟩ := HY.out.lies.at (by omega)
        exact ⟨b, off, e, hc p hp⟩
      have hzx : ¬ p < la → xs.getD p 0 = 0 := fun hp => getD_over xs p (by have := HN.out; omega)
      have hzy : ¬ p < lb → ys.getD p 0 = 0 := fun hp => getD_over ys p (by have := HN.out; omega)
      clear heq hneg hi0
      generalize xs.getD p 0 = x at *
      generalize ys.getD p 0 = y at *
      rcases Int.lt_trichotomy x y with hxy | hxy | hxy
      · have HFIN : Hid (cmpI (val D16 xs) (val D16 ys) = -1) := cmpI_lt (HL.out hxy)
        have hne : (x != y) = true := by simp; omega
        clear HL HG HE
        by_cases h1 : p < la
        · obtain ⟨b, off, rfl, hc1⟩ := hcx h1
          by_cases h2 : p < lb
          · obtain ⟨b2, off2, rfl, hc2⟩ := hcy h2
            clear hcx hcy hzx hzy
            go_wp2
            go_ret
            exact ⟨ret_int HFIN.out.symm, rfl⟩
          · obtain rfl := hzy h2
            clear hcx hcy hzx hzy
            go_wp2
            go_ret
            exact ⟨ret_int HFIN.out.symm, rfl⟩
        · obtain rfl := hzx h1
          by_cases h2 : p < lb
          · obtain ⟨b2, off2, rfl, hc2⟩ := hcy h2
            clear hcx hcy hzx hzy
            go_wp2
            go_ret
            exact ⟨ret_int HFIN.out.symm, rfl⟩
          · obtain rfl := hzy h2
            omega
      · have HFIN : Hid (∀ j : Nat, (p : Int) - 1 < j → xs.getD j 0 = ys.getD j 0) := HE.out hxy
        clear HL HG HE
        subst hxy
        by_cases h1 : p < la
        · obtain ⟨b, off, rfl, hc1⟩ := hcx h1
          by_cases h2 : p < lb
          · obtain ⟨b2, off2, rfl, hc2⟩ := hcy h2
            clear hcx hcy hzx hzy
            go_wp2
            go_round
            case rel => exact ⟨(p : Int) - 1, by go_num, by omega, by omega, HFIN.out⟩
            case measure => simp [intOf] <;> omega
          · obtain rfl := hzy h2
            clear hcx hcy hzx hzy
            go_wp2
            go_round
            case rel => exact ⟨(p : Int) - 1, by go_num, by omega, by omega, HFIN.out⟩
            case measure => simp [intOf] <;> omega
        · obtain rfl := hzx h1
          by_cases h2 : p < lb
          · obtain ⟨b2, off2, rfl, hc2⟩ := hcy h2
            clear hcx hcy hzx hzy
            go_wp2
            go_round
            case rel => exact ⟨(p : Int) - 1, by go_num, by omega, by omega, HFIN.out⟩
            case measure => simp [intOf] <;> omega
          · clear hcx hcy hzx hzy
            go_wp2
            go_round
            case rel => exact ⟨(p : Int) - 1, by go_num, by omega, by omega, HFIN.out⟩
            case measure => simp [intOf] <;> omega
      · have HFIN : Hid (cmpI (val D16 xs) (val D16 ys) = 1) := cmpI_gt (HG.out hxy)
        have hne : (x != y) = true := by simp; omega
        clear HL HG HE
        by_cases h1 : p < la
        · obtain ⟨b, off, rfl, hc1⟩ := hcx h1
          by_cases h2 : p < lb
          · obtain ⟨b2, off2, rfl, hc2⟩ := hcy h2
            clear hcx hcy hzx hzy
            go_wp2
            go_ret
            exact ⟨ret_int HFIN.out.symm, rfl⟩
          · obtain rfl := hzy h2
            clear hcx hcy hzx hzy
            go_wp2
            go_ret
            exact ⟨ret_int HFIN.out.symm, rfl⟩
        · obtain rfl := hzx h1
          by_cases h2 : p < lb
          · obtain ⟨b2, off2, rfl, hc2⟩ := hcy h2
            clear hcx hcy hzx hzy
            go_wp2
            go_ret
            exact ⟨ret_int HFIN.out.symm, rfl⟩
          · obtain rfl := hzy h2
            omega
end Go.Proofs.Ytnacgkkklmlhaaa
/-
  Words of 32 bits: contracts of rotr, RotateLeft32 and the document's turn.
-/
namespace Go.Proofs.Ytnacgkkklmlhaaa
open Go.RowKit
set_option linter.unusedVariables false
set_option linter.unusedSimpArgs false

/-- A word's bits moved to the right, those that fall out coming in from the left. -/
def rot (x : Int) (n : Nat) : Int := bits .or .u32 (x / 2 ^ n) (x * 2 ^ (32 - n) % 4294967296)
theorem bits_or_comm (k : IntKind) (x y : Int) : bits .or k x y = bits .or k y x := by
  show k.wrap ((BitVec.ofInt k.bits x ||| BitVec.ofInt k.bits y).toNat : Int) = k.wrap ((BitVec.ofInt k.bits y ||| BitVec.ofInt k.bits x).toNat : Int)
  rw [BitVec.or_comm]

theorem back31 : ∀ n : Nat, 1 ≤ n → n ≤ 31 → bits .and .u64 (IntKind.u64.wrap (-(n : Int))) 31 = ((32 - n : Nat) : Int) := by
  intro n h1 h2
  have : n = 1 ∨ n = 2 ∨ n = 3 ∨ n = 4 ∨ n = 5 ∨ n = 6 ∨ n = 7 ∨ n = 8 ∨ n = 9 ∨ n = 10 ∨ n = 11 ∨ n = 12 ∨ n = 13 ∨ n = 14 ∨ n = 15 ∨ n = 16 ∨ n = 17 ∨ n = 18 ∨ n = 19 ∨ n = 20 ∨ n = 21 ∨ n = 22 ∨ n = 23 ∨ n = 24 ∨ n = 25 ∨ n = 26 ∨ n = 27 ∨ n = 28 ∨ n = 29 ∨ n = 30 ∨ n = 31 := by omega
  rcases this with rfl | rfl | rfl | rfl | rfl | rfl | rfl | rfl | rfl | rfl | rfl | rfl | rfl | rfl | rfl | rfl | rfl | rfl | rfl | rfl | rfl | rfl | rfl | rfl | rfl | rfl | rfl | rfl | rfl | rfl | rfl <;> decide

theorem turn_any (x : Int) (n : Nat) (w : World) (hn : n ≤ 32) : Calls Try.prog 58 #[.int .u32 x, .int .i64 n] w fun e w' => e = .returned (.int .u32 (rot x n)) ∧ Drew w w' := by
  go_enter Try.func58, Try.ntmps58
  go_wp2
  go_region
  all_goals
    go_wp2
    go_ret
    exact ⟨rfl, (Drew.refl _).more 1⟩
end Go.Proofs.Ytnacgkkklmlhaaa
