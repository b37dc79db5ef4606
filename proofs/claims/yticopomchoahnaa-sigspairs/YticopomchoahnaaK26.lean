import Derived.Test.YticopomchoahnaaK25
import Derived.Test.YticopomchoahnaaK07
import Derived.WideShapes
import Derived.OpenShut
import Derived.ChangeSame
/-
  Arguments that came in, opened: a point, a signer.
-/
namespace Go.Proofs.Yticopomchoahnaa
open Go.RowKit Go.ChangeShapes Go.WideShapes Go.ChangeShapes
set_option linter.unusedVariables false

theorem trod_struct3 {H : Type} {enc : TypeId × Value → H} {P : Program} {w : World} {base : Nat} {spare : Nat → Bool} {held : Bool} {t : TypeId} {f0 f1 f2 : Field} {fuel : Nat} {cs : List Value} {x : DataW H × List MemPlace} (ht : P.underlying t = some (.struct #[f0, f1, f2])) (h : DataW.trod enc P w base spare held fuel t cs = some x) :
    ∃ y0 y1 y2 n, cs.length = P.cellsOf t ∧ DataW.trod enc P w base spare held n f0.type ((cs.drop f0.offset).take (P.cellsOf f0.type)) = some y0 ∧
      DataW.trod enc P w base spare held n f1.type ((cs.drop f1.offset).take (P.cellsOf f1.type)) = some y1 ∧ DataW.trod enc P w base spare held n f2.type ((cs.drop f2.offset).take (P.cellsOf f2.type)) = some y2 := by
  obtain ⟨xs, n, _, rfl, hl, hlen, hf⟩ := DataW.trod_struct ht h
  match xs, hlen with
  | [y0, y1, y2], _ => exact ⟨y0, y1, y2, n, hl, by simpa using hf 0 f0 rfl, by simpa using hf 1 f1 rfl, by simpa using hf 2 f2 rfl⟩
theorem open_nat {H : Type} {enc : TypeId × Value → H} {w : World} {held : Bool} {n : Nat} (v : Value) (y : DataW H × List MemPlace) (g : DataW.trod enc Try.prog w 0 (fun _ => true) held n 29 [v] = some y) : ∃ a l c z, v = .slice a l c ∧ Came .u64 w a l c z := by
  rcases open_ints Try.underlying29 Try.underlying38 (by kernel_rfl) g with ⟨hcs, _⟩ | ⟨x, l, c, zs, hcs, _, hl, hm, hz, _, hcell, hwz⟩
  · cases hcs
    exact ⟨none, 0, 0, [], rfl, .inl ⟨rfl, rfl, rfl, rfl⟩⟩
  · cases hcs
    exact ⟨_, _, _, zs, rfl, .inr ⟨_, rfl, hl, hm, by simpa using hz, hcell, hwz⟩⟩
theorem ptFields : ∃ f0 f1 f2 : Field, Try.prog.underlying 31 = some (.struct #[f0, f1, f2]) ∧ f0.offset = 0 ∧ f1.offset = 1 ∧ f2.offset = 2 ∧ f0.type = 29 ∧ f1.type = 29 ∧ f2.type = 4 := ⟨_, _, _, Try.underlying31, rfl, rfl, rfl, rfl, rfl, rfl⟩
theorem open_pt {H : Type} {enc : TypeId × Value → H} {w : World} {held : Bool} {fuel : Nat} {cs : Array Value} {x : DataW H × List MemPlace} (h : DataW.trod enc Try.prog w 0 (fun _ => true) held fuel 31 cs.toList = some x) :
    ∃ (a1 : Option Addr) (l1 c1 : Nat) (z1 : List Int) (a2 : Option Addr) (l2 c2 : Nat) (z2 : List Int) (b : Bool), cs = #[.slice a1 l1 c1, .slice a2 l2 c2, .bool b] ∧ Came .u64 w a1 l1 c1 z1 ∧ Came .u64 w a2 l2 c2 z2 := by
  obtain ⟨f0, f1, f2, hu, o0, o1, o2, t0, t1, t2⟩ := ptFields
  have hc : Try.prog.cellsOf 29 = 1 := by kernel_rfl
  have hcb : Try.prog.cellsOf 4 = 1 := by kernel_rfl
  have hc3 : Try.prog.cellsOf 31 = 3 := by kernel_rfl
  obtain ⟨y0, y1, y2, n, hl, g0, g1, g2⟩ := trod_struct3 hu h
  rw [hc3] at hl
  rw [o0, t0, hc] at g0
  rw [o1, t1, hc] at g1
  rw [o2, t2, hcb] at g2
  obtain ⟨v0, v1, v2, hcs⟩ : ∃ v0 v1 v2, cs.toList = [v0, v1, v2] := by
    match hh : cs.toList, hl with
    | [v0, v1, v2], _ => exact ⟨v0, v1, v2, rfl⟩
  rw [hcs] at g0 g1 g2
  simp only [List.drop_zero, List.drop_succ_cons, List.take_succ_cons, List.take_zero] at g0 g1 g2
  obtain ⟨a1, l1, c1, z1, rfl, w1⟩ := open_nat _ _ g0
  obtain ⟨a2, l2, c2, z2, rfl, w2⟩ := open_nat _ _ g1
  obtain ⟨b, rfl⟩ : ∃ b, v2 = .bool b := by
    obtain ⟨b, e0, _⟩ := DataW.trod_bool Try.underlying4 g2
    cases e0
    exact ⟨b, rfl⟩
  exact ⟨a1, l1, c1, z1, a2, l2, c2, z2, b, Array.ext' hcs, w1, w2⟩
theorem sgFields : ∃ f0 f1 : Field, Try.prog.underlying 23 = some (.struct #[f0, f1]) ∧ f0.offset = 0 ∧ f1.offset = 1 ∧ f0.type = 5 ∧ f1.type = 5 := ⟨_, _, Try.underlying23, rfl, rfl, rfl, rfl⟩
theorem open_sg {H : Type} {enc : TypeId × Value → H} {w : World} {held : Bool} {fuel : Nat} {cs : Array Value} {x : DataW H × List MemPlace} (h : DataW.trod enc Try.prog w 0 (fun _ => true) held fuel 23 cs.toList = some x) :
    ∃ (k s : Int), cs = #[.int .u8 k, .int .u8 s] ∧ (0 ≤ k ∧ k < 256) ∧ (0 ≤ s ∧ s < 256) := by
  obtain ⟨f0, f1, hu, o0, o1, t0, t1⟩ := sgFields
  have hc : Try.prog.cellsOf 5 = 1 := by kernel_rfl
  have hc2 : Try.prog.cellsOf 23 = 2 := by kernel_rfl
  obtain ⟨y0, y1, n, _, hl, g0, g1⟩ := trod_struct2 hu h
  rw [hc2] at hl
  rw [o0, t0, hc] at g0
  rw [o1, t1, hc] at g1
  obtain ⟨v0, v1, hcs⟩ : ∃ v0 v1, cs.toList = [v0, v1] := by
    match hh : cs.toList, hl with
    | [v0, v1], _ => exact ⟨v0, v1, rfl⟩
  rw [hcs] at g0 g1
  simp only [List.drop_zero, List.drop_succ_cons, List.take_succ_cons, List.take_zero] at g0 g1
  have one : ∀ (v : Value) (y : DataW H × List MemPlace), DataW.trod enc Try.prog w 0 (fun _ => true) held n 5 [v] = some y → ∃ t, v = .int .u8 t ∧ (0 ≤ t ∧ t < 256) := fun v y g => by
    obtain ⟨z, e0, _, hz⟩ := DataW.trod_int (k := .u8) Try.underlying5 g
    cases e0
    exact ⟨z, rfl, word_u8 hz⟩
  obtain ⟨k, rfl, hk⟩ := one _ _ g0
  obtain ⟨s, rfl, hs⟩ := one _ _ g1
  exact ⟨k, s, Array.ext' hcs, hk, hs⟩
end Go.Proofs.Yticopomchoahnaa
