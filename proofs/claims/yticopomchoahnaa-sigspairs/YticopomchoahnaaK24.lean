import Derived.Test.YticopomchoahnaaK23
/-
  A hash's bytes are bytes (it stood in RO).
-/
namespace Go.Proofs.Yticopomchoahnaa
open Go.Shelf Go.RowKit
set_option linter.unusedVariables false

theorem sha_bytes (bs : List Int) : Dg 256 (shaS bs) := by
  intro x hx
  unfold shaS spreadS at hx
  obtain ⟨i, _, rfl⟩ := List.mem_map.1 hx
  omega
end Go.Proofs.Yticopomchoahnaa
