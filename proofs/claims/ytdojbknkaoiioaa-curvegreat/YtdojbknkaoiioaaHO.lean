/-
  A region that draws its order and makes memory: facts, one an operation, told once for all orders. No program in sight.
-/
import Derived.Test.YtdojbknkaoiioaaHC
namespace Go.Proofs.Ytdojbknkaoiioaa
open Go.Shelf Go.RowKit
set_option linter.unusedVariables false
set_option linter.unusedSimpArgs false

/-- Where operation i puts what it yields. -/
def dstOf (ops : Array Oper) (i : Nat) : Nat := ((ops[i]?).bind (·.dst)).getD 0
def depsOf (ops : Array Oper) (i : Nat) : List Nat := ((ops[i]?).map (fun o => o.after.toList.map (·.on))).getD []
def reachL (ops : Array Oper) : Nat → List Nat → List Nat
  | 0, S => S
  | n + 1, S => reachL ops n (S ++ S.flatMap (depsOf ops))
/-- What is asked of the text of such a region: of the operations below m, and of those behind. -/
def opOk (md : Region.Mode) (ops : Array Oper) (i : Nat) : Bool :=
  match ops[i]? with
  | some o => o.dst.isSome && o.guard.isNone && o.after.all (fun e => Region.binds md e && decide (e.on < i))
  | none => false
def lateOk (md : Region.Mode) (ops : Array Oper) (m n i : Nat) : Bool :=
  match ops[i]? with
  | some o => o.after.all (fun e => Region.binds md e) && (o.after.any (fun e => decide (m ≤ e.on)) || (List.range m).all (fun j => (reachL ops n (depsOf ops i)).contains j))
  | none => false
def factsOk (md : Region.Mode) (ops : Array Oper) (m n : Nat) : Bool :=
  decide (m ≤ ops.size) && (List.range m).all (opOk md ops) && (List.range m).all (fun i => (List.range m).all fun j => decide (i = j) || !(dstOf ops i == dstOf ops j)) && (List.range ops.size).all (fun i => decide (i < m) || lateOk md ops m n i)
theorem put_get (a : Act) (d s : Nat) (v : Value) (h : d ≠ s) : (a.put (some d) v).tmps.getD s undef = a.tmps.getD s undef := by
  simp only [Act.put, Array.getD_eq_getD_getElem?]
  rw [Array.getElem?_setIfInBounds_ne h]
theorem put_self (a : Act) (d : Nat) (v : Value) (h : d < a.tmps.size) : (a.put (some d) v).tmps.getD d undef = v := by
  simp only [Act.put, Array.getD_eq_getD_getElem?]
  rw [Array.getElem?_setIfInBounds_self_of_lt h]
  rfl
section
variable {P : Program} {ops : Array Oper} {Q : Exit → Act → World → Prop} {md : Region.Mode}
theorem reach_sound {T : Nat → Prop} (dc : ∀ i, T i → ∀ j ∈ depsOf ops i, T j) : ∀ (n : Nat) (S : List Nat), (∀ i ∈ S, T i) → ∀ i ∈ reachL ops n S, T i
  | 0, S, h, i, hi => h i hi
  | n + 1, S, h, i, hi => by
    refine reach_sound dc n _ ?_ i hi
    intro j hj
    rcases List.mem_append.1 hj with hj | hj
    · exact h j hj
    · obtain ⟨k, hk, hj⟩ := List.mem_flatMap.1 hj
      exact dc k (h k hk) j hj
/-- What holds while operations below m have come, those that are listed. -/
structure FInv (ops : Array Oper) (m : Nat) (F : Nat → Value → World → Prop) (a0 : Act) (w0 : World) (listed : Array Bool) (a : Act) (w : World) : Prop where
  size : listed.size = ops.size
  defers : a.defers = a0.defers
  slots : a.tmps.size = a0.tmps.size
  old : ∀ s, (∀ j, j < m → dstOf ops j ≠ s) → a.tmps.getD s undef = a0.tmps.getD s undef
  below : Below w0.heap.size w0 w
  facts : ∀ i, i < m → listed.getD i false = true → F i (a.tmps.getD (dstOf ops i) undef) w
  none : ∀ i, m ≤ i → listed.getD i false = false
  down : ∀ i, i < m → listed.getD i false = true → ∀ j ∈ depsOf ops i, listed.getD j false = true
theorem lget_set (l : Array Bool) (i j : Nat) (hi : i < l.size) : (l.setIfInBounds i true).getD j false = if i = j then true else l.getD j false := by
  simp only [Array.getD_eq_getD_getElem?]
  by_cases h : i = j
  · subst h
    rw [if_pos rfl, Array.getElem?_setIfInBounds_self_of_lt hi]
    rfl
  · rw [if_neg h, Array.getElem?_setIfInBounds_ne h]
theorem ready_mem {listed : Array Bool} {i : Nat} (h : i ∈ Region.ready md ops listed) : i < ops.size ∧ listed.getD i true = false ∧ ∃ o, ops[i]? = some o ∧ ∀ e ∈ o.after, Region.binds md e = true → listed.getD e.on false = true := by
  unfold Region.ready at h
  rw [List.mem_filter, List.mem_range] at h
  obtain ⟨h1, h2⟩ := h
  rw [Bool.and_eq_true] at h2
  obtain ⟨h2, h3⟩ := h2
  refine ⟨h1, by simpa using h2, ops[i], Array.getElem?_eq_getElem h1, ?_⟩
  rw [Array.getElem?_eq_getElem h1] at h3
  simp only [Option.map_some, Option.getD_some] at h3
  intro e he hb
  rw [Array.all_eq_true'] at h3
  have := h3 e he
  rw [hb] at this
  simpa using this
/-- How many of the first m have not come. -/
def unl (m : Nat) (listed : Array Bool) : Nat := ((List.range m).filter (fun j => !listed.getD j false)).length
theorem filter_drop (l : List Nat) (p q : Nat → Bool) (i : Nat) (hn : l.Nodup) (hi : i ∈ l) (hp : p i = true) (hq : ∀ j, q j = if i = j then false else p j) : (l.filter q).length + 1 = (l.filter p).length := by
  induction l with
  | nil => cases hi
  | cons x l ih =>
    rw [List.nodup_cons] at hn
    by_cases hx : x = i
    · subst hx
      have hqx : q x = false := by rw [hq, if_pos rfl]
      rw [List.filter_cons, List.filter_cons, hqx, hp]
      simp only [if_true, List.length_cons]
      have : l.filter q = l.filter p := by
        apply List.filter_congr
        intro j hj
        rw [hq, if_neg (by rintro rfl; exact hn.1 hj)]
      simp [this]
    · have hi' : i ∈ l := by
        rcases List.mem_cons.1 hi with h | h
        · exact absurd h.symm hx
        · exact h
      have hqx : q x = p x := by rw [hq, if_neg (fun h => hx h.symm)]
      rw [List.filter_cons, List.filter_cons, hqx]
      have := ih hn.2 hi'
      by_cases hpx : p x = true
      · rw [if_pos hpx, if_pos hpx, List.length_cons, List.length_cons]; omega
      · rw [if_neg hpx, if_neg hpx]; exact this
theorem unl_set (m : Nat) (listed : Array Bool) (i : Nat) (hi : i < m) (hs : i < listed.size) (h : listed.getD i false = false) : unl m (listed.setIfInBounds i true) + 1 = unl m listed := by
  unfold unl
  apply filter_drop (i := i)
  · exact List.nodup_range
  · exact List.mem_range.2 hi
  · rw [h]; rfl
  · intro j
    rw [lget_set _ _ _ hs]
    by_cases hj : i = j
    · rw [if_pos hj, if_pos hj]; rfl
    · rw [if_neg hj, if_neg hj]
theorem getD_or (l : Array Bool) (i : Nat) (hi : i < l.size) : l.getD i true = l.getD i false := by
  simp only [Array.getD_eq_getD_getElem?]
  rw [Array.getElem?_eq_getElem hi]
  rfl
/-- The rule. -/
theorem wpAny_facts (m n : Nat) (F : Nat → Value → World → Prop) (a0 : Act) (w0 : World) (hok : factsOk md ops m n = true) (hsl : ∀ i, i < m → dstOf ops i < a0.tmps.size)
    (keep : ∀ i v w w', i < m → F i v w → Below w.heap.size w w' → F i v w')
    (step : ∀ i o, i < m → ops[i]? = some o → ∀ a w, a.defers = a0.defers → a.tmps.size = a0.tmps.size → Below w0.heap.size w0 w → (∀ s, (∀ j, j < m → dstOf ops j ≠ s) → a.tmps.getD s undef = a0.tmps.getD s undef) → (∀ j ∈ depsOf ops i, F j (a.tmps.getD (dstOf ops j) undef) w) →
      ∀ KK : Act → World → Prop, (∀ v w', Below w.heap.size w w' → F i v w' → KK (a.put o.dst v) w') → o.wp P a w KK Q)
    (rest : ∀ listed a w, FInv ops m F a0 w0 listed a w → (∀ i, i < m → listed.getD i false = true) → wpAny P md ops Q (ops.size - m) listed a w) :
    ∀ k listed a w, FInv ops m F a0 w0 listed a w → unl m listed = k → wpAny P md ops Q (k + (ops.size - m)) listed a w
  | 0, listed, a, w, h, hk => by
    rw [Nat.zero_add]
    refine rest listed a w h fun i hi => ?_
    have h1 : (List.range m).filter (fun j => !listed.getD j false) = [] := List.length_eq_zero_iff.1 hk
    rw [List.filter_eq_nil_iff] at h1
    have := h1 i (List.mem_range.2 hi)
    simpa using this
  | k + 1, listed, a, w, h, hk => by
    unfold factsOk at hok
    simp only [Bool.and_eq_true, decide_eq_true_eq, List.all_eq_true, List.mem_range, Bool.or_eq_true] at hok
    obtain ⟨⟨⟨hm, h1⟩, h2⟩, h3⟩ := hok
    have hop : ∀ i, i < m → ∃ o, ops[i]? = some o ∧ o.dst = some (dstOf ops i) ∧ o.guard = none ∧ ∀ e ∈ o.after, Region.binds md e = true ∧ e.on < i := by
      intro i hi
      have h4 := h1 i hi
      unfold opOk at h4
      rw [Array.getElem?_eq_getElem (show i < ops.size by omega)] at h4
      simp only [Bool.and_eq_true, Array.all_eq_true', decide_eq_true_eq] at h4
      refine ⟨_, Array.getElem?_eq_getElem (show i < ops.size by omega), ?_, ?_, h4.2⟩
      · unfold dstOf
        rw [Array.getElem?_eq_getElem (show i < ops.size by omega)]
        have := h4.1.1
        show (ops[i]).dst = some (((ops[i]).dst).getD 0)
        revert this
        cases (ops[i]).dst with
        | none => intro h; cases h
        | some d => intro _; rfl
      · have := h4.1.2
        revert this
        cases (ops[i]).guard with
        | none => intro _; rfl
        | some d => intro h; cases h
    have hdep : ∀ i o, ops[i]? = some o → ∀ j, j ∈ depsOf ops i ↔ ∃ e ∈ o.after, e.on = j := by
      intro i o ho j
      unfold depsOf
      rw [ho]
      simp
    -- one of them has not come
    obtain ⟨u, hu, hun, hul⟩ : ∃ u, u < m ∧ listed.getD u false = false ∧ ∀ v, v < u → listed.getD v false = true := by
      have hex : ∃ u, u < m ∧ listed.getD u false = false := by
        have h4 : 0 < unl m listed := by omega
        obtain ⟨x, hx⟩ := List.exists_mem_of_length_pos h4
        rw [List.mem_filter, List.mem_range] at hx
        exact ⟨x, hx.1, by simpa using hx.2⟩
      obtain ⟨u, hu⟩ := hex
      induction u using Nat.strongRecOn with
      | ind u ih =>
        by_cases hv : ∃ v, v < u ∧ listed.getD v false = false
        · obtain ⟨v, hv1, hv2⟩ := hv
          exact ih v hv1 ⟨by omega, hv2⟩
        · refine ⟨u, hu.1, hu.2, fun v hvu => ?_⟩
          cases hq : listed.getD v false with
          | true => rfl
          | false => exact absurd ⟨v, hvu, hq⟩ hv
    rw [show k + 1 + (ops.size - m) = (k + (ops.size - m)) + 1 by omega]
    refine ⟨fun hr => ?_, fun i hi => ?_⟩
    · -- the least of them is ready
      exfalso
      have hmem : u ∈ Region.ready md ops listed := by
        unfold Region.ready
        rw [List.mem_filter, List.mem_range]
        obtain ⟨o, ho, _, _, hd⟩ := hop u hu
        refine ⟨by omega, ?_⟩
        rw [Bool.and_eq_true]
        refine ⟨by rw [getD_or _ _ (by rw [h.size]; omega), hun]; rfl, ?_⟩
        rw [ho]
        simp only [Option.map_some, Option.getD_some]
        rw [Array.all_eq_true']
        intro e he
        rw [hul _ (hd e he).2]
        simp
      rw [hr] at hmem
      cases hmem
    · obtain ⟨hi1, hi2, o, ho, hd⟩ := ready_mem hi
      rw [getD_or _ _ (by rw [h.size]; omega)] at hi2
      by_cases him : i < m
      · obtain ⟨o', ho', hdst, hg, hb⟩ := hop i him
        rw [ho] at ho'
        cases ho'
        unfold wpOp
        rw [ho]
        simp only
        rw [if_pos (by unfold Region.wanted; rw [hg])]
        refine .inl (Oper.wp_mono ?_ (step i o him ho a w h.defers h.slots h.below h.old ?_ (fun a' w' => ∃ v, a' = a.put o.dst v ∧ Below w.heap.size w w' ∧ F i v w') (fun v w' h1 h2 => ⟨v, rfl, h1, h2⟩)))
        · rintro a' w' ⟨v, rfl, hbw, hv⟩
          refine wpAny_facts m n F a0 w0 (by unfold factsOk; simp only [Bool.and_eq_true, decide_eq_true_eq, List.all_eq_true, List.mem_range, Bool.or_eq_true]; exact ⟨⟨⟨hm, h1⟩, h2⟩, h3⟩) hsl keep step rest k _ _ _ ?_ ?_
          · rw [hdst]
            refine ⟨by simp [h.size], h.defers, by simp [Act.put, h.slots], ?_, h.below.trans (hbw.mono h.below.size), ?_, ?_, ?_⟩
            · intro s hs
              rw [put_get _ _ _ _ (hs i him)]
              exact h.old s hs
            · intro j hj hl
              rw [lget_set _ _ _ (by rw [h.size]; omega)] at hl
              by_cases hij : i = j
              · subst hij
                rw [put_self _ _ _ (by rw [h.slots]; exact hsl i him)]
                exact hv
              · rw [if_neg hij] at hl
                have h5 := h2 i him j hj
                rcases h5 with h5 | h5
                · exact absurd h5 hij
                · rw [put_get _ _ _ _ (by intro e; rw [e] at h5; simp at h5)]
                  exact keep j _ _ _ hj (h.facts j hj hl) hbw
            · intro j hj
              rw [lget_set _ _ _ (by rw [h.size]; omega), if_neg (by omega)]
              exact h.none j hj
            · intro j hj hl x hx
              rw [lget_set _ _ _ (by rw [h.size]; omega)] at hl ⊢
              by_cases hix : i = x
              · rw [if_pos hix]
              · rw [if_neg hix]
                by_cases hij : i = j
                · subst hij
                  obtain ⟨e, he, rfl⟩ := (hdep i o ho x).1 hx
                  exact hd e he (hb e he).1
                · rw [if_neg hij] at hl
                  exact h.down j hj hl x hx
          · have := unl_set m listed i him (by rw [h.size]; omega) hi2
            omega
        · intro j hj
          obtain ⟨e, he, rfl⟩ := (hdep i o ho j).1 hj
          exact h.facts _ (by have := (hb e he).2; omega) (hd e he (hb e he).1)
      · exfalso
        have h4 := h3 i hi1
        rcases h4 with h4 | h4
        · omega
        · unfold lateOk at h4
          rw [ho] at h4
          simp only [Bool.and_eq_true, Array.all_eq_true', Bool.or_eq_true, Array.any_eq_true', decide_eq_true_eq, List.all_eq_true, List.mem_range] at h4
          obtain ⟨hbi, h4⟩ := h4
          rcases h4 with ⟨e, he, hem⟩ | h4
          · have h5 := hd e he (hbi e he)
            rw [h.none _ hem] at h5
            cases h5
          · have h5 := h4 u hu
            have h6 : u ∈ reachL ops n (depsOf ops i) := by simpa using h5
            have h7 := reach_sound (ops := ops) (T := fun j => listed.getD j false = true) (by
              intro x hx j hj
              by_cases hxm : x < m
              · exact h.down x hxm hx j hj
              · rw [h.none x (by omega)] at hx; cases hx) n (depsOf ops i) (by
              intro j hj
              obtain ⟨e, he, rfl⟩ := (hdep i o ho j).1 hj
              exact hd e he (hbi e he)) u h6
            rw [hun] at h7
            cases h7
theorem FInv.list {m : Nat} {F : Nat → Value → World → Prop} {a0 : Act} {w0 : World} {listed : Array Bool} {a : Act} {w : World} (h : FInv ops m F a0 w0 listed a w) (hm : m ≤ ops.size) (hall : ∀ i, i < m → listed.getD i false = true) : listed = (List.replicate m true ++ List.replicate (ops.size - m) false).toArray := by
  apply Array.ext
  · simp [h.size]; omega
  · intro i h1 h2
    have h3 : listed.getD i false = listed[i] := by
      simp only [Array.getD_eq_getD_getElem?]
      rw [Array.getElem?_eq_getElem h1]
      rfl
    rw [← h3]
    by_cases hi : i < m
    · rw [hall i hi]
      simp [List.getElem_append, hi]
    · rw [h.none i (by omega)]
      simp [List.getElem_append, hi]
/-- An array as it stands. -/
theorem arr_of (t : Array Value) (n : Nat) (h : t.size = n) : t = ((List.range n).map fun i => t.getD i undef).toArray := by
  apply Array.ext
  · simp [h]
  · intro i h1 h2
    simp [Array.getD_eq_getD_getElem?, h1]
/-- The rule, from the region's beginning on. -/
theorem wp_region_facts {id : Nat} {a0 : Act} {w0 : World} (m n : Nat) (F : Nat → Value → World → Prop) (hmx : P.follows .mixedOrders = true) (hok : factsOk .any ops m n = true) (hsa : (List.range m).all (fun i => decide (dstOf ops i < a0.tmps.size)) = true)
    (keep : ∀ i v w w', i < m → F i v w → Below w.heap.size w w' → F i v w')
    (step : ∀ i o, i < m → ops[i]? = some o → ∀ a w, a.defers = a0.defers → a.tmps.size = a0.tmps.size → Below w0.heap.size w0 w → (∀ s, (∀ j, j < m → dstOf ops j ≠ s) → a.tmps.getD s undef = a0.tmps.getD s undef) → (∀ j ∈ depsOf ops i, F j (a.tmps.getD (dstOf ops j) undef) w) →
      ∀ KK : Act → World → Prop, (∀ v w', Below w.heap.size w w' → F i v w' → KK (a.put o.dst v) w') → o.wp P a w KK Q)
    (rest : ∀ listed a w, FInv ops m F a0 w0.drew listed a w → (∀ i, i < m → listed.getD i false = true) → wpAny P .any ops Q (ops.size - m) listed a w) : (Code.region id ops true).wp P Q a0 w0 := by
  have hm : m ≤ ops.size := by
    unfold factsOk at hok
    simp only [Bool.and_eq_true, decide_eq_true_eq] at hok
    exact hok.1.1.1
  have hrep : ∀ i, (Array.replicate ops.size false).getD i false = false := fun i => by
    simp only [Array.getD_eq_getD_getElem?]
    by_cases h : i < ops.size
    · rw [Array.getElem?_eq_getElem (by simpa using h)]; simp
    · rw [Array.getElem?_eq_none (by simpa using Nat.le_of_not_lt h)]; rfl
  have hsl : ∀ i, i < m → dstOf ops i < a0.tmps.size := fun i hi => by
    rw [List.all_eq_true] at hsa
    simpa using hsa i (List.mem_range.2 hi)
  refine wp_region_any hmx ?_
  have hu : unl m (Array.replicate ops.size false) = m := by
    unfold unl
    have : (List.range m).filter (fun j => !(Array.replicate ops.size false).getD j false) = List.range m := by
      rw [List.filter_eq_self]
      intro j _
      rw [hrep]
      rfl
    rw [this, List.length_range]
  have h := wpAny_facts (P := P) (Q := Q) (md := .any) m n F a0 w0.drew hok hsl keep (fun i o hi ho a w h1 h2 h3 => step i o hi ho a w h1 h2 ((Below.refl _ _).drew.trans h3)) rest m (Array.replicate ops.size false) a0 w0.drew ⟨by simp, rfl, rfl, fun _ _ => rfl, Below.refl _ _, fun i _ hl => (by rw [hrep] at hl; cases hl), fun i _ => hrep i, fun i _ hl => (by rw [hrep] at hl; cases hl)⟩ hu
  rw [show m + (ops.size - m) = ops.size by omega] at h
  exact h
end
end Go.Proofs.Ytdojbknkaoiioaa
