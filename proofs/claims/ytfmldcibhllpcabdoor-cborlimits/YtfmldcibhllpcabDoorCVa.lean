/-
  utf8.Valid: what serves its walk.
-/
import Derived.Test.YtfmldcibhllpcabDoorCVw
import Derived.Lib.ValidAsc
import Derived.Lib.ValidLaws
import Derived.Laws.BitsAllLaws
import Derived.Deep.CutBlock
import Derived.Deep.DeepCutAuto
namespace Go.Proofs.YtfmldcibhllpcabDoor
open Go.Shelf Go.RowKit
set_option linter.unusedVariables false
set_option linter.unusedSimpArgs false

/-- The first k bytes are below 128. -/
def AscL (l : Bs) (k : Nat) : Prop := ∀ b ∈ l.take k, b.toNat < 128
theorem getB (l : Bs) (i : Nat) : (⟨l.toArray⟩ : ByteArray).get! i = l.getD i 0 := by rw [← Lib.getD_get!']
theorem word_ascL (l : Bs) (h : 8 ≤ l.length) : wordN l &&& 9259542123273814144 = 0 ↔ AscL l 8 := by
  have := Lib.word_asc ⟨l.toArray⟩ (by show 8 ≤ l.length; exact h)
  simp only [getB] at this
  exact this
theorem wordN_lt (l : Bs) : wordN l < 18446744073709551616 := by
  have := Lib.word_lt ⟨l.toArray⟩
  simp only [getB] at this
  exact this
theorem valid_skipL (l : Bs) (k : Nat) (h : AscL l k) : Lib.validD (l.drop k) = Lib.validD l := by
  have := Lib.valid_skip ⟨l.toArray⟩ k h
  rw [Lib.ext_list] at this
  exact this
theorem ascL_add (l : Bs) (a b : Nat) (ha : AscL l a) (hb : AscL (l.drop a) b) : AscL l (a + b) := fun x hx => by
  rw [List.take_add] at hx
  rcases List.mem_append.1 hx with h | h
  · exact ha x h
  · exact hb x h
theorem ascL_one (x : UInt8) (l : Bs) (h : x.toNat < 128) : AscL (x :: l) 1 := fun y hy => by
  simp at hy
  subst hy
  exact h
theorem BAt.drop {w : World} {b f n : Nat} {l : Bs} (h : BAt w (some ⟨b, f, none⟩) n l) (hn : l.length = n) (j : Nat) (hj : j ≤ n) : BAt w (some ⟨b, f + j, none⟩) (n - j) (l.drop j) := fun h0 => by
  obtain ⟨b', f', e, hc⟩ := h (by omega)
  cases e
  refine ⟨b, f + j, rfl, fun i hi => ?_⟩
  rw [show f + j + i = f + (j + i) by omega, hc (j + i) (by omega)]
  simp [List.getD]
/-- utf8.word of what stands k bytes on. -/
theorem word_at (b f n c k : Nat) (l : Bs) (w : World) (h : BAt w (some ⟨b, f, none⟩) n l) (hn : l.length = n) (h8 : k + 8 ≤ n) (hb : n ≤ 1000000) :
    Calls Tryd.prog 30 #[.slice (some ⟨b, f + k, none⟩) (n - k) c] w fun e w' => e = .returned (.int .u64 (wordN (l.drop k) : Int)) ∧ ∃ q, w' = w.drewN q :=
  word_any b (f + k) (n - k) c (l.drop k) w (h.drop hn k (by omega)) (by rw [List.length_drop, hn]) (by omega) (by omega)
def sliceLen : Value → Nat
  | .slice _ n _ => n
  | _ => 0
set_option maxRecDepth 100000 in
theorem and7C : ∀ X : Fin 256, bits .and .u8 ((X.val : Nat) : Int) 7 = ((X.val % 8 : Nat) : Int) := by decide
/-- The state of Valid's loop. -/
structure VSt (w : World) (ANS : Bool) (v : Value) (wx : World) (p : Option Addr) (l : Bs) : Prop where
  val : v = .slice p l.length l.length
  bel : Below w.heap.size w wx
  at_ : BAt w p l.length l
  ans : Lib.validD l = ANS
  big : l.length ≤ 1000000
theorem VSt.step {w : World} {ANS : Bool} {v : Value} {wx : World} {b f n : Nat} {l : Bs} (h : VSt w ANS v wx (some ⟨b, f, none⟩) l) (hn : l.length = n) (k : Nat) (hk : k ≤ n) (hv : Lib.validD (l.drop k) = ANS) (w' : World) (hb : Below w.heap.size w w') : VSt w ANS (.slice (some ⟨b, f + k, none⟩) (n - k) (n - k)) w' (some ⟨b, f + k, none⟩) (l.drop k) := by
  have hl : (l.drop k).length = n - k := by rw [List.length_drop, hn]
  refine ⟨by rw [hl], hb, ?_, hv, by have := h.big; omega⟩
  rw [hl]
  have := h.at_
  rw [hn] at this
  exact this.drop hn k hk
/-- The same where nothing is left behind. -/
theorem VSt.all {w : World} {ANS : Bool} {v : Value} {wx : World} {b f n : Nat} {l : Bs} (h : VSt w ANS v wx (some ⟨b, f, none⟩) l) (hn : l.length = n) (hv : Lib.validD (l.drop n) = ANS) (w' : World) (hb : Below w.heap.size w w') : VSt w ANS (.slice (some ⟨b, f, none⟩) 0 0) w' (some ⟨b, f, none⟩) [] := by
  refine ⟨rfl, hb, fun h0 => absurd h0 (by simp), ?_, by simp⟩
  rw [← hv, ← hn, List.drop_length]
theorem below_dr {B : Nat} {a w : World} (h : Below B a w) : ∀ q, Below B a (w.drewN q) := fun q => below_drews h q
end Go.Proofs.YtfmldcibhllpcabDoor
