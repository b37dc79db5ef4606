/-
  CborLimits: what is reckoned ahead.
-/
import Derived.Test.YtfmldcibhllpcabDoorFB
namespace Go.Proofs.YtfmldcibhllpcabDoor
open Go.RowKit
set_option linter.unusedVariables false

def nulC : It := ⟨9, 0, [], []⟩
def flatA (n : Nat) : It := ⟨5, 0, [], List.replicate n nulC⟩
def bytesA (n : Nat) : Bs := 0x99 :: UInt8.ofNat (n / 256) :: UInt8.ofNat (n % 256) :: List.replicate n 0xf6
def nestC : Nat → It
  | 0 => ⟨5, 0, [], []⟩
  | j + 1 => ⟨5, 0, [], [nestC j]⟩
def bytesN : Nat → Bs
  | 0 => [0x80]
  | j + 1 => 0x81 :: bytesN j
set_option maxRecDepth 100000 in
theorem lim_e1 : encC (flatA 511) = .ok (bytesA 511) := by kernel_rfl
set_option maxRecDepth 100000 in
theorem lim_e2 : encC (flatA 512) = .error 14 := by kernel_rfl
set_option maxRecDepth 100000 in
theorem lim_w1 : wholeC (bytesA 511) = .ok (flatA 511) := by kernel_rfl
set_option maxRecDepth 100000 in
theorem lim_w2 : wholeC (bytesA 512) = .error 14 := by kernel_rfl
theorem lim_n1 : encC (nestC 7) = .ok (bytesN 7) := by kernel_rfl
theorem lim_n2 : encC (nestC 8) = .error 13 := by kernel_rfl
theorem lim_x1 : wholeC (bytesN 7) = .ok (nestC 7) := by kernel_rfl
theorem lim_x2 : wholeC (bytesN 8) = .error 13 := by kernel_rfl
end Go.Proofs.YtfmldcibhllpcabDoor
