/-
  The library's tables for utf8.
-/
import Derived.Test.YtfmldcibhllpcabDoorCG
import Derived.Lib.LaidIn
import Derived.Lib.LaidU8T
import Derived.PinnedBridge
import GoSem.ClaimSeven
import Derived.Lib.ValidU
namespace Go.Proofs.YtfmldcibhllpcabDoor
open Go.Shelf Go.RowKit Go.Lib
set_option linter.unusedVariables false
set_option linter.unusedSimpArgs false

def renU8 : Go.Shelf.Ren := ⟨fun | n => n, fun | 5 => 5 | 119 => 70 | 138 => 72 | 139 => 73 | n => n, fun | 3 => 0 | 4 => 1 | n => n⟩
theorem typesU8 : U8Types Tryd.prog renU8 := { t5 := Tryd.underlying5, t119 := Tryd.underlying70, t138 := Tryd.underlying72, t139 := Tryd.underlying73 }
theorem extraU8 : U8Extra Tryd.prog renU8 := ⟨by kernel_rfl, by kernel_rfl, by kernel_rfl, by kernel_rfl, by kernel_rfl, by kernel_rfl, by kernel_rfl⟩
/-- The library's two tables, as they are laid. -/
def Tabs (w : World) : Prop := Lib.Utf8Tabs 0 1 w
theorem Tabs.of_reads {w : World} (h1 : VarReads Tryd.prog w "unicode/utf8.first" firstData) (h2 : VarReads Tryd.prog w "unicode/utf8.acceptRanges" acceptData) : Tabs w := utf8Tabs_of_readsT typesU8 extraU8 h1 h2
theorem Tabs.keep {w w' : World} (h : Tabs w) (hb : ∀ k, k = 0 ∨ k = 1 → w'.heap[k]? = w.heap[k]?) : Tabs w' :=
  ⟨fun c hc => (World.cell?_of_block (w := w) (hb _ (.inl rfl))).trans (h.1 c hc), fun i hi => ⟨(World.cell?_of_block (w := w) (hb _ (.inr rfl))).trans (h.2 i hi).1, (World.cell?_of_block (w := w) (hb _ (.inr rfl))).trans (h.2 i hi).2⟩⟩
theorem Tabs.lt {w : World} (h : Tabs w) : ∀ k, k = 0 ∨ k = 1 → k < w.heap.size := fun k hk => by
  rcases hk with rfl | rfl
  · exact World.block_lt_of_cell? _ _ (h.1 0 (by decide))
  · exact World.block_lt_of_cell? _ _ (h.2 0 (by decide)).1
theorem Tabs.below {w w' : World} (h : Tabs w) (hb : Below w.heap.size w w') : Tabs w' := h.keep (fun k hk => hb.block k (h.lt k hk))
/-- Blocks behind the tables. -/
def Gl (g : Nat) : Prop := ∀ k, k = 0 ∨ k = 1 → k < g
theorem Tabs.low {w w' : World} {g : Nat} (h : Tabs w) (hG : Gl g) (hb : Below g w w') : Tabs w' := h.keep (fun k hk => hb.block k (hG k hk))
end Go.Proofs.YtfmldcibhllpcabDoor
