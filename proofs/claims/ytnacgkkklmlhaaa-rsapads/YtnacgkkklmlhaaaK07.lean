import Derived.Test.YtnacgkkklmlhaaaK06
/-
  Contract of sha.mix.
-/
namespace Go.Proofs.Ytnacgkkklmlhaaa
open Go.RowKit
set_option linter.unusedVariables false
set_option linter.unusedSimpArgs false

theorem sched_length (b : List Int) : (sched b).length = 64 := by unfold sched; rw [schedGo_length, words16_length]

theorem int_eq {k : IntKind} {x y : Int} (h : x = y) : Value.int k x = Value.int k y := by rw [h]
/-- What a round makes, in the walk's spelling. -/
theorem rnd_a (a b c d e f g h k w : Int) : ((h + bits .xor .u32 (bits .xor .u32 (rot e 6) (rot e 11)) (rot e 25) + bits .xor .u32 (bits .and .u32 e f) (bits .and .u32 (bits .xor .u32 (if IntKind.u32.signed = true then -1 else IntKind.u32.max) e) g) + k + w) % 4294967296 + (bits .xor .u32 (bits .xor .u32 (rot a 2) (rot a 13)) (rot a 22) + bits .xor .u32 (bits .xor .u32 (bits .and .u32 a b) (bits .and .u32 a c)) (bits .and .u32 b c)) % 4294967296) % 4294967296 = (rnd ⟨a, b, c, d, e, f, g, h⟩ k w).a := by
  have e0 : (if IntKind.u32.signed = true then -1 else IntKind.u32.max) = (4294967295 : Int) := rfl
  rw [e0]
  simp only [rnd, t1, t2, big0, big1, chI, majI, M32]
  omega
theorem rnd_e (a b c d e f g h k w : Int) : (d + (h + bits .xor .u32 (bits .xor .u32 (rot e 6) (rot e 11)) (rot e 25) + bits .xor .u32 (bits .and .u32 e f) (bits .and .u32 (bits .xor .u32 (if IntKind.u32.signed = true then -1 else IntKind.u32.max) e) g) + k + w) % 4294967296) % 4294967296 = (rnd ⟨a, b, c, d, e, f, g, h⟩ k w).e := by
  have e0 : (if IntKind.u32.signed = true then -1 else IntKind.u32.max) = (4294967295 : Int) := rfl
  rw [e0]
  simp only [rnd, t1, t2, big0, big1, chI, majI, M32]
  omega

end Go.Proofs.Ytnacgkkklmlhaaa
