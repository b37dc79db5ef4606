/-
  The law's walk over members.
-/
import Derived.Test.YtbobgebhdafciaaDoorJFx
namespace Go.Proofs.YtbobgebhdafciaaDoor
open Go.Shelf Go.RowKit
set_option linter.unusedVariables false
set_option linter.unusedSimpArgs false
attribute [local go_sem] Oper.semAt_some

/-- How many there are, broken off. -/
def cntOf (m : Nat) (stop : Int) : Int := if 1 ≤ stop ∧ stop ≤ (m : Int) then stop else (m : Int)
theorem Kc.below {W W' : World} {b B : Nat} {v : Value} (h : Kc W b v) (hb : Below B W W') (hlt : b < B) : Kc W' b v := ⟨(hb.cell (p := ⟨b, 0, none⟩) hlt).trans h.1, (hb.frozen (p := ⟨b, 0, none⟩) hlt).trans h.2⟩
/-- The seven cells of the walk. -/
def Sev (W : World) (h : Nat) (lv nv : Value) (i stop n : Int) : Prop :=
  Kc W h lv ∧ Kc W (h + 1) (.int .i64 i) ∧ Kc W (h + 1 + 1) nv ∧ Kc W (h + 1 + 1 + 1) (.int .i64 stop) ∧ Kc W (h + 1 + 1 + 1 + 1) (.int .i64 0) ∧ Kc W (h + 1 + 1 + 1 + 1 + 1) (.bool false) ∧ Kc W (h + 1 + 1 + 1 + 1 + 1 + 1) (.int .i64 n)
theorem Sev.kept {W W' : World} {h : Nat} {lv nv : Value} {i stop n : Int} {row : Option Nat} (k : Sev W h lv nv i stop n) (hg : W.grownBy W' row) (hr : ∀ r, row = some r → ∃ o : Obj, W.heap[r]? = some o ∧ o.isCells = false) : Sev W' h lv nv i stop n :=
  ⟨k.1.kept hg hr, k.2.1.kept hg hr, k.2.2.1.kept hg hr, k.2.2.2.1.kept hg hr, k.2.2.2.2.1.kept hg hr, k.2.2.2.2.2.1.kept hg hr, k.2.2.2.2.2.2.kept hg hr⟩
theorem Sev.more {W : World} {h : Nat} {lv nv : Value} {i stop n : Int} (k : Sev W h lv nv i stop n) (m : Int) : Sev (W.setCell ⟨h + 1 + 1 + 1 + 1 + 1 + 1, 0, none⟩ (.int .i64 m)) h lv nv i stop m :=
  ⟨k.1.other (by omega) _, k.2.1.other (by omega) _, k.2.2.1.other (by omega) _, k.2.2.2.1.other (by omega) _, k.2.2.2.2.1.other (by omega) _, k.2.2.2.2.2.1.other (by omega) _, k.2.2.2.2.2.2.set _⟩
theorem Sev.below {W W' : World} {h B : Nat} {lv nv : Value} {i stop n : Int} (k : Sev W h lv nv i stop n) (hb : Below B W W') (hB : h + 6 < B) : Sev W' h lv nv i stop n :=
  ⟨k.1.below hb (by omega), k.2.1.below hb (by omega), k.2.2.1.below hb (by omega), k.2.2.2.1.below hb (by omega), k.2.2.2.2.1.below hb (by omega), k.2.2.2.2.2.1.below hb (by omega), k.2.2.2.2.2.2.below hb (by omega)⟩
/-- Between two rounds. -/
def WGo (w : World) (lv nv : Value) (i stop : Int) (L : List (Bs × Int)) (pre : List (Bs × Int)) (W : World) : Prop :=
  (Sev W w.heap.size lv nv i stop pre.length ∧ pre <+: L ∧ ∀ t : Nat, 1 ≤ t → t ≤ pre.length → (t : Int) ≠ stop) ∧ Below w.heap.size w W
/-- A round has left. -/
def WGone (w : World) (lv nv : Value) (i stop : Int) (L : List (Bs × Int)) (c : Code) (pre : List (Bs × Int)) (W : World) : Prop :=
  ((c = .ret ∧ ¬ pre <+: L) ∨ (c = .exit 0 ∧ (pre.length : Int) = stop ∧ 1 ≤ pre.length ∧ Sev W w.heap.size lv nv i stop pre.length)) ∧ Below w.heap.size w W

theorem pre_get {L pre : List (Bs × Int)} {x : Bs × Int} (h : pre ++ [x] <+: L) : L[pre.length]? = some x := by
  obtain ⟨t, rfl⟩ := h
  simp
theorem pre_more {L pre : List (Bs × Int)} {x : Bs × Int} (h : pre <+: L) (hx : L[pre.length]? = some x) : pre ++ [x] <+: L := by
  obtain ⟨t, rfl⟩ := h
  rw [List.getElem?_append_right (Nat.le_refl _), Nat.sub_self] at hx
  cases t with
  | nil => simp at hx
  | cons y t => simp at hx; subst hx; exact ⟨t, by simp⟩

end Go.Proofs.YtbobgebhdafciaaDoor
