import Derived.Test.YtnacgkkklmlhaaaK12
import Derived.Test.YtnacgkkklmlhaaaK11
/-
  The law RsaChecks: its turn.
-/
namespace Go.Proofs.Ytnacgkkklmlhaaa
open Go.Shelf Go.RowKit
set_option linter.unusedVariables false
set_option linter.unusedSimpArgs false
theorem RsaChecks_walk (w : World) (a1 : Option Addr) (a2 a3 : Nat) (za : List Int) (e1 : Option Addr) (e2 e3 : Nat) (ze : List Int) (ca : Came .u64 w a1 a2 a3 za) (ce : Came .u64 w e1 e2 e3 ze) (which : Int) (wwf : (Lit.int .u8 which).wf = true) (f1 : Option Addr) (f2 f3 : Nat) (zf : List Int) (cf : Came .u64 w f1 f2 f3 zf) (at' : Int) (awf : (Lit.int .u16 at').wf = true) :
    Calls Try.prog 3 #[.agg #[.slice a1 a2 a3, .slice e1 e2 e3], .int .u8 which, .slice f1 f2 f3, .int .u16 at'] w fun r w' => r = .returned (.bool true) ∧ Below w.heap.size w w' := by
  by_cases c : 1 < which.tmod 4
  · exact RsaChecks_f w a1 a2 a3 za e1 e2 e3 ze ca ce which wwf f1 f2 f3 zf cf at' awf c
  · exact RsaChecks_e w a1 a2 a3 za e1 e2 e3 ze ca ce which wwf f1 f2 f3 zf cf at' awf c
end Go.Proofs.Ytnacgkkklmlhaaa
