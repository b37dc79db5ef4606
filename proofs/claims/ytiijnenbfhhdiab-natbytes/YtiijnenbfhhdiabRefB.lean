/-
  The document's Len beside its Bytes.
-/
import Derived.Test.YtiijnenbfhhdiabRefL
import Derived.Test.YtiijnenbfhhdiabRefR
namespace Go.Proofs.Ytiijnenbfhhdiab
end Go.Proofs.Ytiijnenbfhhdiab
