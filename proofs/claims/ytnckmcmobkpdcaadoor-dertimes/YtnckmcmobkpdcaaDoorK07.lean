import Derived.Test.YtnckmcmobkpdcaaDoorK06
/-
  A region that draws its order, whatever it does: facts on slots and the world, one an operation, told once for all orders. No program in sight.
-/
namespace Go.Proofs.YtnckmcmobkpdcaaDoor
open Go.Shelf Go.RowKit
set_option linter.unusedVariables false
set_option linter.unusedSimpArgs false

/-- What operation i must come behind. -/
def needsOf (md : Region.Mode) (ops : Array Oper) (i : Nat) : List Nat := ((ops[i]?).map (fun o => (o.after.toList.filter (Region.binds md)).map (·.on))).getD []
def reachN (md : Region.Mode) (ops : Array Oper) : Nat → List Nat → List Nat
  | 0, S => S
  | n + 1, S => reachN md ops n ((S ++ S.flatMap (needsOf md ops)).eraseDups)
/-- What operation i stands on. -/
def reachOf (md : Region.Mode) (ops : Array Oper) (n i : Nat) : List Nat := reachN md ops n (needsOf md ops i)
def dstIs (ops : Array Oper) (i s : Nat) : Bool := match ops[i]? with
  | some o => o.dst == some s
  | none => false
/-- What is asked of the text. -/
def framesOk (md : Region.Mode) (ops : Array Oper) (n : Nat) (rd : List (List Nat)) : Bool :=
  (List.range ops.size).all fun i => (needsOf md ops i).all (fun e => decide (e < i) || !decide (e < ops.size) || (needsOf md ops e).all (fun x => decide (x ≠ i))) && (List.range ops.size).all fun j => (rd.getD j []).all fun s => !dstIs ops i s || decide (i = j) || (reachOf md ops n j).contains i
/-- There is a way: the operations in this order. -/
def orderOk (md : Region.Mode) (ops : Array Oper) : List Nat → List Nat → Bool
  | [], seen => (List.range ops.size).all fun i => seen.contains i
  | i :: l, seen => decide (i < ops.size) && (needsOf md ops i).all (fun e => seen.contains e) && orderOk md ops l (i :: seen)
section
variable {P : Program} {ops : Array Oper} {Q : Exit → Act → World → Prop} {md : Region.Mode}
theorem reachN_sound {T : Nat → Prop} (dc : ∀ i, T i → ∀ j ∈ needsOf md ops i, T j) : ∀ (n : Nat) (S : List Nat), (∀ i ∈ S, T i) → ∀ i ∈ reachN md ops n S, T i
  | 0, S, h, i, hi => h i hi
  | n + 1, S, h, i, hi => by
    refine reachN_sound dc n _ ?_ i hi
    intro j hj
    rw [List.mem_eraseDups] at hj
    rcases List.mem_append.1 hj with hj | hj
    · exact h j hj
    · obtain ⟨k, hk, hj⟩ := List.mem_flatMap.1 hj
      exact dc k (h k hk) j hj
/-- What holds while some have come. -/
structure GInv (md : Region.Mode) (ops : Array Oper) (rd : List (List Nat)) (Fs : List (List Value → World → Prop)) (a0 : Act) (w0 : World) (listed : Array Bool) (a : Act) (w : World) : Prop where
  size : listed.size = ops.size
  defers : a.defers = a0.defers
  slots : a.tmps.size = a0.tmps.size
  old : ∀ s, (∀ j, listed.getD j false = true → dstIs ops j s = false) → a.tmps.getD s undef = a0.tmps.getD s undef
  below : Below w0.heap.size w0 w
  facts : ∀ j, listed.getD j false = true → Fs.getD j (fun _ _ => True) ((rd.getD j []).map fun s => a.tmps.getD s undef) w
  down : ∀ j, listed.getD j false = true → ∀ e ∈ needsOf md ops j, listed.getD e false = true
/-- All that stands behind operation i. -/
theorem GInv.deep {rd : List (List Nat)} {Fs : List (List Value → World → Prop)} {a0 : Act} {w0 : World} {listed : Array Bool} {a : Act} {w : World} (h : GInv md ops rd Fs a0 w0 listed a w) {i : Nat} (hr : ∀ e ∈ needsOf md ops i, listed.getD e false = true) (n e : Nat) (he : e ∈ reachOf md ops n i) : Fs.getD e (fun _ _ => True) ((rd.getD e []).map fun s => a.tmps.getD s undef) w :=
  h.facts e (reachN_sound (T := fun j => listed.getD j false = true) (fun x hx j hj => h.down x hx j hj) n _ hr e he)
theorem GInv.stays {rd : List (List Nat)} {Fs : List (List Value → World → Prop)} {a0 : Act} {w0 : World} {listed : Array Bool} {a : Act} {w : World} (h : GInv md ops rd Fs a0 w0 listed a w) {i : Nat} (hi : listed.getD i false = false) (n s : Nat) (hs : (List.range ops.size).all (fun j => !dstIs ops j s || (reachOf md ops n j).contains i || decide (i = j)) = true) : a.tmps.getD s undef = a0.tmps.getD s undef := by
  refine h.old s fun j hj => ?_
  rw [List.all_eq_true] at hs
  by_cases hjs : j < ops.size
  · have := hs j (List.mem_range.2 hjs)
    rw [Bool.or_eq_true, Bool.or_eq_true] at this
    rcases this with (this | this) | this
    · simpa using this
    · have hm : i ∈ reachOf md ops n j := by simpa using this
      have := reachN_sound (md := md) (ops := ops) (T := fun j => listed.getD j false = true) (fun x hx j hj => h.down x hx j hj) n _ (h.down j hj) i hm
      rw [hi] at this
      cases this
    · have : i = j := by simpa using this
      rw [this, hj] at hi
      cases hi
  · unfold dstIs
    rw [Array.getElem?_eq_none (by omega)]
theorem needs_mem (i : Nat) (o : Oper) (ho : ops[i]? = some o) (j : Nat) : j ∈ needsOf md ops i ↔ ∃ e ∈ o.after, Region.binds md e = true ∧ e.on = j := by
  unfold needsOf
  rw [ho]
  simp [and_assoc]
theorem order_all : ∀ (l seen : List Nat) (listed : Array Bool), orderOk md ops l seen = true → (∀ i ∈ seen, listed.getD i false = true) → listed.size = ops.size → (∀ i, i < ops.size → listed.getD i false = true) ∨ ∃ i, i ∈ Region.ready md ops listed
  | [], seen, listed, h, hs, hz => by
    left
    intro i hi
    unfold orderOk at h
    rw [List.all_eq_true] at h
    exact hs i (by simpa using h i (List.mem_range.2 hi))
  | i :: l, seen, listed, h, hs, hz => by
    unfold orderOk at h
    simp only [Bool.and_eq_true, decide_eq_true_eq, List.all_eq_true] at h
    obtain ⟨⟨h1, h2⟩, h3⟩ := h
    cases hl : listed.getD i false with
    | true =>
      refine order_all l (i :: seen) listed h3 ?_ hz
      intro j hj
      rcases List.mem_cons.1 hj with rfl | hj
      · exact hl
      · exact hs j hj
    | false =>
      right
      refine ⟨i, ?_⟩
      unfold Region.ready
      rw [List.mem_filter, List.mem_range]
      refine ⟨h1, ?_⟩
      rw [Bool.and_eq_true]
      refine ⟨by rw [getD_or _ _ (by omega), hl]; rfl, ?_⟩
      rw [Array.getElem?_eq_getElem h1]
      simp only [Option.map_some, Option.getD_some]
      rw [Array.all_eq_true']
      intro e he
      by_cases hb : Region.binds md e = true
      · have := h2 e.on ((needs_mem i _ (Array.getElem?_eq_getElem h1) e.on).2 ⟨e, he, hb, rfl⟩)
        rw [hs e.on (by simpa using this)]
        simp
      · simp [hb]
/-- One step, and what is then asked. -/
def GStep (P : Program) (Q : Exit → Act → World → Prop) (ops : Array Oper) (rd : List (List Nat)) (Fs : List (List Value → World → Prop)) (w0 : World) (i : Nat) (o : Oper) (listed : Array Bool) (a : Act) (w : World) : Prop :=
  ∀ KK : Act → World → Prop,
    (∀ v w', Below w0.heap.size w0 w' → (∀ j vs, listed.getD j false = true → Fs.getD j (fun _ _ => True) vs w → Fs.getD j (fun _ _ => True) vs w') → Fs.getD i (fun _ _ => True) ((rd.getD i []).map fun s => (a.put o.dst v).tmps.getD s undef) w' → KK (a.put o.dst v) w') →
    if Region.wanted o (yielded ops a.tmps) = true then o.wp P a w KK Q else KK (a.put o.dst undef) w
theorem wpAny_frames (n : Nat) (rd : List (List Nat)) (Fs : List (List Value → World → Prop)) (ord : List Nat) (a0 : Act) (w0 : World) (hok : framesOk md ops n rd = true) (hord : orderOk md ops ord [] = true)
    (step : ∀ i o, ops[i]? = some o → ∀ listed a w, GInv md ops rd Fs a0 w0 listed a w → listed.getD i false = false → (∀ e ∈ needsOf md ops i, listed.getD e false = true) → GStep P Q ops rd Fs w0 i o listed a w)
    (done : ∀ listed a w, GInv md ops rd Fs a0 w0 listed a w → (∀ i, i < ops.size → listed.getD i false = true) → Q .normal a w) :
    ∀ k listed a w, GInv md ops rd Fs a0 w0 listed a w → unl ops.size listed = k → wpAny P md ops Q k listed a w
  | 0, listed, a, w, h, hk => by
    have hall : ∀ i, i < ops.size → listed.getD i false = true := fun i hi => by
      have h1 : (List.range ops.size).filter (fun j => !listed.getD j false) = [] := List.length_eq_zero_iff.1 hk
      rw [List.filter_eq_nil_iff] at h1
      have := h1 i (List.mem_range.2 hi)
      simpa using this
    refine ⟨?_, done listed a w h hall⟩
    cases hr : Region.ready md ops listed with
    | nil => rfl
    | cons i l =>
      obtain ⟨h1, h2, _⟩ := ready_mem (md := md) (ops := ops) (listed := listed) (i := i) (by rw [hr]; exact List.mem_cons_self)
      rw [getD_or _ _ (by rw [h.size]; exact h1), hall i h1] at h2
      cases h2
  | k + 1, listed, a, w, h, hk => by
    refine ⟨fun hr => ?_, fun i hi => ?_⟩
    · rcases order_all ord [] listed hord (fun i hi => by cases hi) h.size with h1 | ⟨i, hi⟩
      · exact done listed a w h h1
      · rw [hr] at hi; cases hi
    · obtain ⟨hi1, hi2, o, ho, hd⟩ := ready_mem hi
      rw [getD_or _ _ (by rw [h.size]; omega)] at hi2
      have hneed : ∀ e ∈ needsOf md ops i, listed.getD e false = true := fun e he => by
        obtain ⟨e', h1, h2, rfl⟩ := (needs_mem i o ho e).1 he
        exact hd e' h1 h2
      unfold wpOp
      rw [ho]
      simp only
      have hs := step i o ho listed a w h hi2 hneed (wpAny P md ops Q k (listed.setIfInBounds i true)) (by
        intro v w' hb hkeep hnew
        refine wpAny_frames n rd Fs ord a0 w0 hok hord step done k _ _ _ ?_ ?_
        · have hput : ∀ s, dstIs ops i s = false → (a.put o.dst v).tmps.getD s undef = a.tmps.getD s undef := fun s hs => by
            unfold dstIs at hs
            rw [ho] at hs
            cases hdst : o.dst with
            | none => rfl
            | some d =>
              refine put_get _ _ _ _ ?_
              rintro rfl
              simp [hdst] at hs
          refine ⟨by simp [h.size], ?_, ?_, ?_, hb, ?_, ?_⟩
          · cases hdst : o.dst <;> exact h.defers
          · rw [← h.slots]
            cases hdst : o.dst with
            | none => rfl
            | some d => simp [Act.put]
          · intro s hs
            have h1 := hs i (by rw [lget_set _ _ _ (by rw [h.size]; omega), if_pos rfl])
            rw [hput s h1]
            refine h.old s fun j hj => hs j ?_
            rw [lget_set _ _ _ (by rw [h.size]; omega)]
            split
            · rfl
            · exact hj
          · intro j hj
            rw [lget_set _ _ _ (by rw [h.size]; omega)] at hj
            by_cases hij : i = j
            · subst hij
              exact hnew
            · rw [if_neg hij] at hj
              have h5 := hkeep j _ hj (h.facts j hj)
              have e : ((rd.getD j []).map fun s => (a.put o.dst v).tmps.getD s undef) = ((rd.getD j []).map fun s => a.tmps.getD s undef) := by
                apply List.map_congr_left
                intro s hs
                refine hput s ?_
                unfold framesOk at hok
                rw [List.all_eq_true] at hok
                have h6 := hok i (List.mem_range.2 hi1)
                rw [Bool.and_eq_true, List.all_eq_true, List.all_eq_true] at h6
                by_cases hjs : j < ops.size
                · have h7 := h6.2 j (List.mem_range.2 hjs)
                  rw [List.all_eq_true] at h7
                  have h8 := h7 s hs
                  rw [Bool.or_eq_true, Bool.or_eq_true] at h8
                  rcases h8 with (h8 | h8) | h8
                  · simpa using h8
                  · exact absurd (by simpa using h8) hij
                  · have hm : i ∈ reachOf md ops n j := by simpa using h8
                    have := reachN_sound (md := md) (ops := ops) (T := fun j => listed.getD j false = true) (fun x hx j hj => h.down x hx j hj) n _ (h.down j hj) i hm
                    rw [hi2] at this
                    cases this
                · have : listed.getD j false = false := by
                    simp only [Array.getD_eq_getD_getElem?]
                    rw [Array.getElem?_eq_none (by rw [h.size]; omega)]
                    rfl
                  rw [this] at hj
                  cases hj
              rw [e]
              exact h5
          · intro j hj e he
            rw [lget_set _ _ _ (by rw [h.size]; omega)] at hj ⊢
            by_cases hie : i = e
            · rw [if_pos hie]
            · rw [if_neg hie]
              by_cases hij : i = j
              · subst hij
                exact hneed e he
              · rw [if_neg hij] at hj
                exact h.down j hj e he
        · have := unl_set ops.size listed i hi1 (by rw [h.size]; omega) hi2
          omega)
      by_cases hw : Region.wanted o (yielded ops a.tmps) = true
      · rw [if_pos hw] at hs ⊢
        exact .inl hs
      · rw [if_neg hw] at hs ⊢
        exact hs
/-- The rule. -/
theorem wp_region_frames {id : Nat} {a0 : Act} {w0 : World} (n : Nat) (rd : List (List Nat)) (Fs : List (List Value → World → Prop)) (ord : List Nat) (hmx : P.follows .mixedOrders = true) (hok : framesOk .any ops n rd = true) (hord : orderOk .any ops ord [] = true)
    (step : ∀ i o, ops[i]? = some o → ∀ listed a w, GInv .any ops rd Fs a0 w0.drew listed a w → listed.getD i false = false → (∀ e ∈ needsOf .any ops i, listed.getD e false = true) → GStep P Q ops rd Fs w0.drew i o listed a w)
    (done : ∀ listed a w, GInv .any ops rd Fs a0 w0.drew listed a w → (∀ i, i < ops.size → listed.getD i false = true) → Q .normal a w) : (Code.region id ops true).wp P Q a0 w0 := by
  have hrep : ∀ i, (Array.replicate ops.size false).getD i false = false := fun i => by
    simp only [Array.getD_eq_getD_getElem?]
    by_cases h : i < ops.size
    · rw [Array.getElem?_eq_getElem (by simpa using h)]; simp
    · rw [Array.getElem?_eq_none (by simpa using Nat.le_of_not_lt h)]; rfl
  refine wp_region_any hmx ?_
  have hu : unl ops.size (Array.replicate ops.size false) = ops.size := by
    unfold unl
    have : (List.range ops.size).filter (fun j => !(Array.replicate ops.size false).getD j false) = List.range ops.size := by
      rw [List.filter_eq_self]
      intro j _
      rw [hrep]
      rfl
    rw [this, List.length_range]
  exact wpAny_frames (P := P) (Q := Q) (md := .any) n rd Fs ord a0 w0.drew hok hord step done ops.size (Array.replicate ops.size false) a0 w0.drew ⟨by simp, rfl, rfl, fun _ _ => rfl, Below.refl _ _, fun i hl => (by rw [hrep] at hl; cases hl), fun i hl => (by rw [hrep] at hl; cases hl)⟩ hu
end
end Go.Proofs.YtnckmcmobkpdcaaDoor
/-
  Regions that draw their order and only make memory: facts that growth keeps. No program in sight.
-/
namespace Go.Proofs.YtnckmcmobkpdcaaDoor
open Go.Shelf Go.RowKit
set_option linter.unusedVariables false
set_option linter.unusedSimpArgs false

/-- A fact that stands while memory is made. -/
structure Fq where
  sem : List Value → World → Prop
  keep : ∀ vs w w', Below w.heap.size w w' → sem vs w → sem vs w'
def Fq.eq (e : Value) : Fq := ⟨fun vs _ => vs.getD 0 undef = e, fun _ _ _ _ h => h⟩
theorem fq_keep (fs : List Fq) (j : Nat) (vs : List Value) {w w' : World} (hb : Below w.heap.size w w') (h : (fs.map Fq.sem).getD j (fun _ _ => True) vs w) : (fs.map Fq.sem).getD j (fun _ _ => True) vs w' := by
  rw [List.getD_eq_getElem?_getD, List.getElem?_map] at h ⊢
  cases hf : fs[j]? with
  | none => trivial
  | some f => rw [hf] at h; exact f.keep vs w w' hb h
section
variable {P : Program} {ops : Array Oper} {Q : Exit → Act → World → Prop}
/-- An operation that only makes memory: what is asked of it. -/
theorem GInv.growQ {rd : List (List Nat)} {fs : List Fq} {a0 : Act} {w0 : World} {listed : Array Bool} {a : Act} {w : World} (h : GInv .any ops rd (fs.map Fq.sem) a0 w0 listed a w) {i : Nat} {dst : Option Tmp} {KK : Act → World → Prop}
    (hK : ∀ v w', Below w0.heap.size w0 w' → (∀ j vs, listed.getD j false = true → (fs.map Fq.sem).getD j (fun _ _ => True) vs w → (fs.map Fq.sem).getD j (fun _ _ => True) vs w') → (fs.map Fq.sem).getD i (fun _ _ => True) ((rd.getD i []).map fun s => (a.put dst v).tmps.getD s undef) w' → KK (a.put dst v) w') (v : Value) (w' : World) (hb : Below w.heap.size w w') (hf : (fs.map Fq.sem).getD i (fun _ _ => True) ((rd.getD i []).map fun s => (a.put dst v).tmps.getD s undef) w') : KK (a.put dst v) w' :=
  hK v w' (h.below.trans (hb.mono h.below.size)) (fun j vs _ hj => fq_keep fs j vs hb hj) hf
theorem GInv.keptQ {md : Region.Mode} {rd : List (List Nat)} {Fs : List (List Value → World → Prop)} {a0 : Act} {w0 : World} {listed : Array Bool} {a : Act} {w : World} (h : GInv md ops rd Fs a0 w0 listed a w) (s : Nat) (hs : (List.range ops.size).all (fun j => !dstIs ops j s) = true) : a.tmps.getD s undef = a0.tmps.getD s undef := by
  refine h.old s fun j _ => ?_
  rw [List.all_eq_true] at hs
  by_cases hjs : j < ops.size
  · simpa using hs j (List.mem_range.2 hjs)
  · unfold dstIs
    rw [Array.getElem?_eq_none (by omega)]
theorem wanted_q {ops : Array Oper} {a : Act} {j d : Nat} {b : Bool} {oj : Oper} (h1 : ops[j]? = some oj) (h2 : oj.dst = some d) (h : a.tmps.getD d undef = .bool b) : (yielded ops a.tmps j == some b) = true := by
  unfold yielded
  rw [h1]
  simp only [Option.bind_some, h2]
  rw [Array.getD_eq_getD_getElem?] at h
  cases he : a.tmps[d]? with
  | none => rw [he] at h; cases h
  | some v => rw [he] at h; simp only [Option.getD_some] at h; rw [h]; simp
end
end Go.Proofs.YtnckmcmobkpdcaaDoor
