import Derived.Test.YtnacgkkklmlhaaaK05
/-
  Contract of sha.schedule.
-/
namespace Go.Proofs.Ytnacgkkklmlhaaa
open Go.RowKit
set_option linter.unusedVariables false
set_option linter.unusedSimpArgs false

theorem getD_set_same (l : List Int) (i : Nat) (x : Int) (h : i < l.length) : (l.set i x).getD i 0 = x := by simp [List.getD, h]
theorem getD_set_other (l : List Int) (i j : Nat) (x : Int) (h : i ≠ j) : (l.set i x).getD j 0 = l.getD j 0 := by simp [List.getD, List.getElem?_set_ne h]
theorem getD_take (l : List Int) (n j : Nat) (h : j < n) : (l.take n).getD j 0 = l.getD j 0 := by simp [List.getD, List.getElem?_take, h]
theorem ext_getD (l m : List Int) (h : l.length = m.length) (hj : ∀ j, j < l.length → l.getD j 0 = m.getD j 0) : l = m := by
  apply List.ext_getElem h
  intro j h1 h2
  have := hj j h1
  simpa [List.getD, h1, h2] using this

theorem pw_bounds (b : List Int) (hd : Dg 256 b) (i : Nat) : ∀ k, 0 ≤ pw b i k ∧ pw b i k < 256 ^ k
  | 0 => by simp [pw]
  | k + 1 => by
    have h1 := pw_bounds b hd i k
    have h2 := hd.getD (by decide) (4 * i + k)
    rw [pw, Int.pow_succ]
    omega

/-- The first words of a block, i of them whole, the next one's first k bytes. -/
def SchA (b : List Int) (i k : Nat) (cur : List Int) : Prop :=
  cur.length = 64 ∧ (∀ j, j < i → cur.getD j 0 = pw b j 4) ∧ cur.getD i 0 = pw b i k ∧ ∀ j, i < j → cur.getD j 0 = 0
theorem SchA.zero (b : List Int) : SchA b 0 0 (List.replicate 64 0) := ⟨by simp, fun j h => by omega, getD_zeros _ _, fun j _ => getD_zeros _ _⟩
theorem SchA.step {b cur : List Int} {i k : Nat} (h : SchA b i k cur) (hi : i < 16) : SchA b i (k + 1) (cur.set i (cur.getD i 0 * 256 + b.getD (4 * i + k) 0)) := by
  obtain ⟨h1, h2, h3, h4⟩ := h
  refine ⟨by simpa using h1, fun j hj => ?_, ?_, fun j hj => ?_⟩
  · rw [getD_set_other _ _ _ _ (by omega)]; exact h2 j hj
  · rw [getD_set_same _ _ _ (by omega), h3]; rfl
  · rw [getD_set_other _ _ _ _ (by omega)]; exact h4 j hj
theorem SchA.next {b cur : List Int} {i : Nat} (h : SchA b i 4 cur) : SchA b (i + 1) 0 cur := by
  obtain ⟨h1, h2, h3, h4⟩ := h
  refine ⟨h1, fun j hj => ?_, ?_, fun j hj => h4 j (by omega)⟩
  · by_cases e : j = i
    · rw [e]; exact h3
    · exact h2 j (by omega)
  · rw [h4 (i + 1) (by omega)]; rfl

theorem words16_length (b : List Int) : (words16 b).length = 16 := by simp [words16]
theorem words16_get (b : List Int) (j : Nat) (h : j < 16) : (words16 b).getD j 0 = pw b j 4 := by simp [words16, List.getD, h]
theorem schedGo_length : ∀ (n : Nat) (l : List Int), (schedGo n l).length = l.length + n
  | 0, l => by simp [schedGo]
  | n + 1, l => by rw [schedGo, schedGo_length n]; simp; omega
theorem schedGo_succ : ∀ (n : Nat) (l : List Int), schedGo (n + 1) l = schedGo n l ++ [wNext (schedGo n l) (l.length + n)]
  | 0, l => by simp [schedGo]
  | n + 1, l => by
    rw [schedGo, schedGo_succ n]
    have : (l ++ [wNext l l.length]).length + n = l.length + (n + 1) := by simp; omega
    rw [this]
    rfl
theorem wNext_take (l : List Int) (i : Nat) (h : 16 ≤ i) : wNext (l.take i) i = wNext l i := by
  unfold wNext
  rw [getD_take _ _ _ (by omega), getD_take _ _ _ (by omega), getD_take _ _ _ (by omega), getD_take _ _ _ (by omega)]

/-- The words of a block, i of them. -/
def SchB (b : List Int) (i : Nat) (cur : List Int) : Prop := cur.length = 64 ∧ cur.take i = schedGo (i - 16) (words16 b)
theorem SchA.done {b cur : List Int} (h : SchA b 16 0 cur) : SchB b 16 cur := by
  refine ⟨h.1, ?_⟩
  apply ext_getD
  · rw [schedGo_length, words16_length]; have := h.1; simp; omega
  · intro j hj
    have hj' : j < 16 := by have := h.1; simp at hj; omega
    rw [getD_take _ _ _ hj', h.2.1 j hj']
    exact (words16_get b j hj').symm
theorem take_succ_set (l : List Int) (i : Nat) (x : Int) (h : i < l.length) : (l.set i x).take (i + 1) = l.take i ++ [x] := by
  rw [List.take_succ_eq_append_getElem (by simpa using h)]
  simp [List.take_set_of_le]
theorem SchB.step {b cur : List Int} {i : Nat} (h : SchB b i cur) (h1 : 16 ≤ i) (h2 : i < 64) : SchB b (i + 1) (cur.set i (wNext cur i)) := by
  obtain ⟨hl, ht⟩ := h
  refine ⟨by simpa using hl, ?_⟩
  rw [take_succ_set _ _ _ (by omega), ht, show i + 1 - 16 = (i - 16) + 1 by omega, schedGo_succ, words16_length, show 16 + (i - 16) = i by omega, ← ht, wNext_take _ _ h1]
theorem SchB.done {b cur : List Int} (h : SchB b 64 cur) : cur = sched b := by
  obtain ⟨hl, ht⟩ := h
  rw [List.take_of_length_le (by omega)] at ht
  exact ht

theorem Row.setOther {e : TypeId} {k : IntKind} {w : World} {g : Nat} {xs : List Int} (h : Row e k w g xs) {p : Addr} (hp : g ≠ p.block) (v : Value) : Row e k (w.setCell p v) g xs := by
  unfold Row
  rw [heap_setCell_other w p g v hp]
  exact h
/-- A byte put behind a word. -/
theorem or_byte (a d : Int) (ha : 0 ≤ a) (ha' : a < 16777216) (hd : 0 ≤ d) (hd' : d < 256) : bits .or .u32 (a * 256) d = a * 256 + d := by
  obtain ⟨x, rfl⟩ := Int.eq_ofNat_of_zero_le ha
  obtain ⟨y, rfl⟩ := Int.eq_ofNat_of_zero_le hd
  show IntKind.u32.wrap ((BitVec.ofInt 32 ((x : Int) * 256) ||| BitVec.ofInt 32 (y : Int)).toNat : Int) = _
  rw [BitVec.toNat_or, show ((x : Int) * 256) = ((x * 256 : Nat) : Int) by omega, ofInt_u32 (x * 256) (by omega), ofInt_u32 y (by omega)]
  have : x * 256 ||| y = x * 256 + y := by
    have := Nat.two_pow_add_eq_or_of_lt (i := 8) (b := y) (by omega) x
    rw [Nat.mul_comm]; exact this.symm
  rw [this, IntKind.wrap_u32]
  omega

end Go.Proofs.Ytnacgkkklmlhaaa
