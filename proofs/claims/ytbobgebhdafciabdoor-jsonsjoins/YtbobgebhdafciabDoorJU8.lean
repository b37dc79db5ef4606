/-
  The library's contract of utf8.DecodeRune at this program.
-/
import Derived.Test.YtbobgebhdafciabDoorJB
import Derived.Shelf.Spec.DecodeRune
import Derived.Shelf.Spec.NilArms
import Derived.Lib.LaidIn
import Derived.Lib.LaidU8T
import Derived.PinnedBridge
import GoSem.ClaimSeven
import Derived.Test.YtbobgebhdafciabDoorRows
namespace Go.Proofs.YtbobgebhdafciabDoor
open Go.Shelf Go.RowKit Go.Lib
set_option linter.unusedVariables false
set_option linter.unusedSimpArgs false

/-- The names of the library's shelf at this program. -/
def ren32 : Go.Shelf.Ren := ⟨fun | 32 => 47 | 49 => 56 | n => n, fun | 0 => 0 | 3 => 3 | 4 => 4 | 5 => 5 | 21 => 21 | 25 => 102 | 30 => 27 | 33 => 89 | 66 => 101 | 68 => 104 | 69 => 105 | n => n, fun | 2 => 0 | 3 => 1 | n => n⟩
theorem lays32 : Go.Proofs.Lays7.n32 Tryd.prog ren32 := {
  mixed := by kernel_rfl
  f32 := Tryd.func47.trans (congrArg some (by kernel_rfl))
  f49 := Tryd.func56.trans (congrArg some (by kernel_rfl))
  t0 := Tryd.underlying0
  a0 := Tryd.isAgg0
  z0 := Tryd.sizeOf0
  v0 := Tryd.zeroValue0
  i0 := by kernel_rfl
  t3 := Tryd.underlying3
  a3 := Tryd.isAgg3
  z3 := Tryd.sizeOf3
  v3 := Tryd.zeroValue3
  i3 := by kernel_rfl
  t4 := Tryd.underlying4
  a4 := Tryd.isAgg4
  z4 := Tryd.sizeOf4
  v4 := Tryd.zeroValue4
  i4 := by kernel_rfl
  t5 := Tryd.underlying5
  a5 := Tryd.isAgg5
  z5 := Tryd.sizeOf5
  v5 := Tryd.zeroValue5
  i5 := by kernel_rfl
  t21 := Tryd.underlying21
  a21 := Tryd.isAgg21
  z21 := Tryd.sizeOf21
  v21 := Tryd.zeroValue21
  i21 := by kernel_rfl
  t25 := Tryd.underlying102
  a25 := Tryd.isAgg102
  z25 := Tryd.sizeOf102
  v25 := Tryd.zeroValue102
  i25 := by kernel_rfl
  t30 := Tryd.underlying27
  a30 := Tryd.isAgg27
  z30 := Tryd.sizeOf27
  v30 := Tryd.zeroValue27
  i30 := by kernel_rfl
  t33 := Tryd.underlying89
  a33 := Tryd.isAgg89
  z33 := Tryd.sizeOf89
  v33 := Tryd.zeroValue89
  i33 := by kernel_rfl
  t66 := Tryd.underlying101
  a66 := Tryd.isAgg101
  z66 := Tryd.sizeOf101
  t68 := Tryd.underlying104
  a68 := Tryd.isAgg104
  z68 := Tryd.sizeOf104
  v68 := Tryd.zeroValue104
  i68 := by kernel_rfl
  t69 := Tryd.underlying105
  a69 := Tryd.isAgg105
  z69 := Tryd.sizeOf105
  v69 := Tryd.zeroValue105
  i69 := by kernel_rfl
  g2 := by kernel_rfl
  g3 := by kernel_rfl }
def renU8 : Go.Shelf.Ren := ⟨fun | n => n, fun | 5 => 5 | 119 => 101 | 138 => 104 | 139 => 105 | n => n, fun | 3 => 0 | 4 => 1 | n => n⟩
theorem typesU8 : U8Types Tryd.prog renU8 := { t5 := Tryd.underlying5, t119 := Tryd.underlying101, t138 := Tryd.underlying104, t139 := Tryd.underlying105 }
theorem extraU8 : U8Extra Tryd.prog renU8 := ⟨by kernel_rfl, by kernel_rfl, by kernel_rfl, by kernel_rfl, by kernel_rfl, by kernel_rfl, by kernel_rfl⟩
/-- The library's two tables, as they are laid. -/
def Tabs (w : World) : Prop := Lib.Utf8Tabs 0 1 w
theorem Tabs.of_reads {w : World} (h1 : VarReads Tryd.prog w "unicode/utf8.first" firstData) (h2 : VarReads Tryd.prog w "unicode/utf8.acceptRanges" acceptData) : Tabs w := utf8Tabs_of_readsT typesU8 extraU8 h1 h2
/-- utf8.DecodeRune of bytes. -/
theorem uDecode (s : ByteArray) (b off cap : Nat) (w : World) (hT : Tabs w) (hp : ∀ j, j < s.size → w.cell? ⟨b, off + j, none⟩ = some (.int .u8 (s.get! j).toNat)) :
    Calls Tryd.prog 47 #[.slice (some ⟨b, off, none⟩) s.size cap] w fun e w' => e = .returned (.tuple #[.int .i32 (Lib.decodeGo s).1, .int .i64 (Lib.decodeGo s).2]) ∧ Below w.heap.size w w' := Any7.utf8_DecodeRune lays32 s b off cap w hT hp
/-- Out of what the row lists. -/
theorem tabs_laid {w : World} (h : laidMet Tryd.prog [("unicode/utf8.acceptRanges", Rows.laid_unicode_utf8_acceptRanges), ("unicode/utf8.first", Rows.laid_unicode_utf8_first)] w) : Tabs w :=
  Tabs.of_reads (by have := Lib.laidMet.reads h (.tail _ (.head _)); rwa [show Rows.laid_unicode_utf8_first = firstData from Pinned.utf8First_eq] at this) (by have := Lib.laidMet.reads h (.head _); rwa [show (Rows.laid_unicode_utf8_acceptRanges : DataW Unit) = acceptData by kernel_rfl] at this)
end Go.Proofs.YtbobgebhdafciabDoor
