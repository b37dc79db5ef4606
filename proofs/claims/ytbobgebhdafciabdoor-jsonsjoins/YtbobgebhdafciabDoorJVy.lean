/-
  Text, at every depth up to five.
-/
import Derived.Test.YtbobgebhdafciabDoorJVx
namespace Go.Proofs.YtbobgebhdafciabDoor
open Go.Shelf Go.RowKit
set_option linter.unusedVariables false

theorem Text_any : ∀ (d : Nat), d ≤ 5 → TextOk d
  | 0, _ => fun v cs gap w _ hv => Text_zero v cs gap w hv
  | d + 1, h => fun v cs gap w hg hv => by
    have ih := Text_any d (by omega)
    have hm : 0 ≤ v.kind % 7 := Int.emod_nonneg _ (by decide)
    by_cases q0 : v.kind % 7 = 0
    · exact Text_arr d (by omega) ih v cs gap w hg hv q0
    · by_cases q1 : v.kind % 7 = 1
      · exact Text_obj d (by omega) ih v cs gap w hg hv q1
      · rw [vtext_leaf (by omega)]
        obtain ⟨p, c, rfl, h0, h1, _⟩ := hv.head
        exact Text_leaf (d + 1) v.kind v.text p v.kids.length c gap w h0 h1 (by omega)
end Go.Proofs.YtbobgebhdafciabDoor
