/-
  The library's contracts of bytes at this program.
-/
import Derived.Test.YtbobgebhdafciabDoorJB
import Derived.Shelf.Bytes.SlTrim
namespace Go.Proofs.YtbobgebhdafciabDoor
open Go.Shelf Go.RowKit Go.Lib
set_option linter.unusedVariables false
set_option linter.unusedSimpArgs false

def renTrim : Go.Shelf.Ren := ⟨fun | 8 => 20 | 9 => 31 | 11 => 32 | 12 => 33 | 14 => 34 | 16 => 46 | 17 => 47 | 18 => 48 | 20 => 56 | n => n, fun | 0 => 0 | 3 => 3 | 4 => 4 | 5 => 5 | 9 => 9 | 21 => 21 | 22 => 27 | 27 => 69 | 28 => 70 | 31 => 73 | 33 => 89 | 36 => 101 | 37 => 102 | 39 => 104 | 40 => 105 | n => n, fun  | n => n⟩
theorem laysTrim : Go.Proofs.SlLaysV.n8 Tryd.prog renTrim := {
  mixed := by kernel_rfl
  f8 := Tryd.func20.trans (congrArg some (by kernel_rfl))
  f9 := Tryd.func31.trans (congrArg some (by kernel_rfl))
  f11 := Tryd.func32.trans (congrArg some (by kernel_rfl))
  f12 := Tryd.func33.trans (congrArg some (by kernel_rfl))
  f14 := Tryd.func34.trans (congrArg some (by kernel_rfl))
  f16 := Tryd.func46.trans (congrArg some (by kernel_rfl))
  f17 := Tryd.func47.trans (congrArg some (by kernel_rfl))
  f18 := Tryd.func48.trans (congrArg some (by kernel_rfl))
  f20 := Tryd.func56.trans (congrArg some (by kernel_rfl))
  t0 := Tryd.underlying0
  a0 := Tryd.isAgg0
  z0 := Tryd.sizeOf0
  v0 := Tryd.zeroValue0
  t3 := Tryd.underlying3
  a3 := Tryd.isAgg3
  z3 := Tryd.sizeOf3
  v3 := Tryd.zeroValue3
  t4 := Tryd.underlying4
  a4 := Tryd.isAgg4
  z4 := Tryd.sizeOf4
  v4 := Tryd.zeroValue4
  t5 := Tryd.underlying5
  a5 := Tryd.isAgg5
  z5 := Tryd.sizeOf5
  v5 := Tryd.zeroValue5
  t9 := Tryd.underlying9
  a9 := Tryd.isAgg9
  z9 := Tryd.sizeOf9
  v9 := Tryd.zeroValue9
  t21 := Tryd.underlying21
  a21 := Tryd.isAgg21
  z21 := Tryd.sizeOf21
  v21 := Tryd.zeroValue21
  t22 := Tryd.underlying27
  a22 := Tryd.isAgg27
  z22 := Tryd.sizeOf27
  v22 := Tryd.zeroValue27
  t27 := Tryd.underlying69
  a27 := Tryd.isAgg69
  z27 := Tryd.sizeOf69
  t28 := Tryd.underlying70
  a28 := Tryd.isAgg70
  z28 := Tryd.sizeOf70
  v28 := Tryd.zeroValue70
  t31 := Tryd.underlying73
  a31 := Tryd.isAgg73
  z31 := Tryd.sizeOf73
  v31 := Tryd.zeroValue73
  t33 := Tryd.underlying89
  a33 := Tryd.isAgg89
  z33 := Tryd.sizeOf89
  v33 := Tryd.zeroValue89
  t36 := Tryd.underlying101
  a36 := Tryd.isAgg101
  z36 := Tryd.sizeOf101
  t37 := Tryd.underlying102
  a37 := Tryd.isAgg102
  z37 := Tryd.sizeOf102
  v37 := Tryd.zeroValue102
  t39 := Tryd.underlying104
  a39 := Tryd.isAgg104
  z39 := Tryd.sizeOf104
  v39 := Tryd.zeroValue104
  t40 := Tryd.underlying105
  a40 := Tryd.isAgg105
  z40 := Tryd.sizeOf105
  v40 := Tryd.zeroValue105 }
def renCut : Go.Shelf.Ren := ⟨fun | 115 => 44 | 116 => 29 | 141 => 24 | n => n, fun | 3 => 3 | 4 => 4 | 9 => 9 | 37 => 27 | 5 => 5 | n => n, fun  | n => n⟩
theorem laysCut : Go.Proofs.Lays.nb141 Tryd.prog renCut := {
  mixed := by kernel_rfl
  f115 := Tryd.func44.trans (congrArg some (by kernel_rfl))
  f116 := Tryd.func29.trans (congrArg some (by kernel_rfl))
  f141 := Tryd.func24.trans (congrArg some (by kernel_rfl))
  t3 := Tryd.underlying3
  a3 := Tryd.isAgg3
  z3 := Tryd.sizeOf3
  v3 := Tryd.zeroValue3
  t4 := Tryd.underlying4
  a4 := Tryd.isAgg4
  z4 := Tryd.sizeOf4
  v4 := Tryd.zeroValue4
  t9 := Tryd.underlying9
  a9 := Tryd.isAgg9
  z9 := Tryd.sizeOf9
  v9 := Tryd.zeroValue9
  t37 := Tryd.underlying27
  a37 := Tryd.isAgg27
  z37 := Tryd.sizeOf27
  v37 := Tryd.zeroValue27
  t5 := Tryd.underlying5
  a5 := Tryd.isAgg5
  z5 := Tryd.sizeOf5
  v5 := Tryd.zeroValue5 }
def renHas : Go.Shelf.Ren := ⟨fun | 115 => 44 | 116 => 29 | n => n, fun | 3 => 3 | 4 => 4 | 9 => 9 | 37 => 27 | 5 => 5 | n => n, fun  | n => n⟩
theorem laysHas : Go.Proofs.Lays.nb116 Tryd.prog renHas := {
  mixed := by kernel_rfl
  f115 := Tryd.func44.trans (congrArg some (by kernel_rfl))
  f116 := Tryd.func29.trans (congrArg some (by kernel_rfl))
  t3 := Tryd.underlying3
  a3 := Tryd.isAgg3
  z3 := Tryd.sizeOf3
  v3 := Tryd.zeroValue3
  t4 := Tryd.underlying4
  a4 := Tryd.isAgg4
  z4 := Tryd.sizeOf4
  v4 := Tryd.zeroValue4
  t9 := Tryd.underlying9
  a9 := Tryd.isAgg9
  z9 := Tryd.sizeOf9
  v9 := Tryd.zeroValue9
  t37 := Tryd.underlying27
  a37 := Tryd.isAgg27
  z37 := Tryd.sizeOf27
  v37 := Tryd.zeroValue27
  t5 := Tryd.underlying5
  a5 := Tryd.isAgg5
  z5 := Tryd.sizeOf5
  v5 := Tryd.zeroValue5 }


theorem infoSet : (Tryd.prog.info? 69).map (fun i => (i.zero, i.size)) = some (some (.agg (Array.replicate 256 (.bool false))), 256) := by kernel_rfl
/-- bytes.TrimLeft. -/
theorem trim_any (p : Option Addr) (c : Nat) (bs : Bs) (cs : ByteArray) (w : World) (hc : bs.length ≤ c) (hb : c ≤ 9223372036854775807) (hl : Lib.BytesAt w p bs.length bs) (hcs : cs.size < 100) (ha : ∀ (j : Nat) b, cs.data.toList[j]? = some b → b.toNat < 128) :
    Calls Tryd.prog 20 #[.slice p bs.length c, .string cs] w fun e w' => e = .returned (Lib.leftV p bs.length c (bs.length - (Lib.trimLeftS bs cs.data.toList).length)) ∧ Below w.heap.size w w' :=
  Any.bytes_TrimLeft_ascii laysTrim (zero_of_info infoSet).1 (zero_of_info infoSet).2 p bs.length c bs cs w rfl hc (by omega) hl (by omega) ha
/-- bytes.CutPrefix. -/
theorem cut_any (p q : Option Addr) (c d : Nat) (bs ys : Bs) (w : World) (hc : bs.length ≤ c) (h1 : Lib.BytesAt w p bs.length bs) (h2 : Lib.BytesAt w q ys.length ys) :
    Calls Tryd.prog 24 #[.slice p bs.length c, .slice q ys.length d] w fun e w' => e = .returned (.tuple #[Lib.trimPrefixV p bs.length c (bs.map fun b => (b.toNat : Int)) (ys.map fun b => (b.toNat : Int)), .bool (ys.isPrefixOf bs)]) ∧ w' = w := by
  have := Any.bytes_CutPrefix_all laysCut p q bs.length c ys.length d (bs.map fun b => (b.toNat : Int)) (ys.map fun b => (b.toNat : Int)) w (by simp) (by simp) hc (bytesAt_in h1 rfl) (bytesAt_in h2 rfl)
  rw [bytesOf_map, bytesOf_map] at this
  exact this
/-- bytes.HasPrefix. -/
theorem has_any (p q : Option Addr) (c d : Nat) (bs ys : Bs) (w : World) (hc : bs.length ≤ c) (h1 : Lib.BytesAt w p bs.length bs) (h2 : Lib.BytesAt w q ys.length ys) :
    Calls Tryd.prog 29 #[.slice p bs.length c, .slice q ys.length d] w fun e w' => e = .returned (.bool (ys.isPrefixOf bs)) ∧ w' = w := by
  have := Any.bytes_HasPrefix_all laysHas p q bs.length c ys.length d (bs.map fun b => (b.toNat : Int)) (ys.map fun b => (b.toNat : Int)) w (by simp) (by simp) hc (bytesAt_in h1 rfl) (bytesAt_in h2 rfl)
  rw [bytesOf_map, bytesOf_map] at this
  exact this

theorem trimLeftS_drop (bs cs : Bs) : bs.drop (bs.length - (Lib.trimLeftS bs cs).length) = Lib.trimLeftS bs cs := by
  obtain ⟨t, ht⟩ : Lib.trimLeftS bs cs <:+ bs := List.dropWhile_suffix _
  have hl : bs.length = t.length + (Lib.trimLeftS bs cs).length := by have := congrArg List.length ht; simp at this; omega
  rw [show bs.length - (Lib.trimLeftS bs cs).length = t.length by omega]
  conv => lhs; arg 2; rw [← ht]
  simp
theorem trimLeftS_len (bs cs : Bs) : (Lib.trimLeftS bs cs).length ≤ bs.length := (List.dropWhile_suffix _).length_le
/-- What TrimLeft answers is the rest. -/
theorem leftV_rest {w : World} {g : Nat} {p : Option Addr} {c : Nat} {bs : Bs} (h : RestV w g p c bs) (cs : Bs) : ∃ p' c', Lib.leftV p bs.length c (bs.length - (Lib.trimLeftS bs cs).length) = .slice p' (Lib.trimLeftS bs cs).length c' ∧ RestV w g p' c' (Lib.trimLeftS bs cs) := by
  have hl := trimLeftS_len bs cs
  have hd := trimLeftS_drop bs cs
  unfold Lib.leftV
  split
  · rename_i h0
    have h1 : Lib.trimLeftS bs cs = [] := List.eq_nil_of_length_eq_zero (by omega)
    rw [h1]
    exact ⟨none, 0, rfl, RestV.empty w g⟩
  · rename_i h0
    have := h.drop (bs.length - (Lib.trimLeftS bs cs).length) (by omega)
    rw [hd] at this
    refine ⟨_, _, ?_, this⟩
    unfold Lib.fromV
    rw [show bs.length - (bs.length - (Lib.trimLeftS bs cs).length) = (Lib.trimLeftS bs cs).length by omega]
/-- What CutPrefix answers is the rest. -/
theorem cutV_rest {w : World} {g : Nat} {p : Option Addr} {c : Nat} {bs : Bs} (h : RestV w g p c bs) (ys : Bs) : ∃ p' c' zs, Lib.trimPrefixV p bs.length c (bs.map fun b => (b.toNat : Int)) (ys.map fun b => (b.toNat : Int)) = .slice p' zs.length c' ∧ RestV w g p' c' zs ∧ ((ys.isPrefixOf bs = true ∧ tk ys bs = some zs) ∨ (ys.isPrefixOf bs = false ∧ tk ys bs = none ∧ zs = bs)) := by
  by_cases hy : ys = []
  · subst hy
    refine ⟨p, c, bs, ?_, h, .inl ⟨by simp, by simp [tk]⟩⟩
    unfold Lib.trimPrefixV
    split
    · rename_i h1; simp at h1
    · rfl
  · obtain ⟨y, ys', rfl⟩ := List.exists_cons_of_ne_nil hy
    by_cases hp : (y :: ys').isPrefixOf bs = true
    · obtain ⟨t, rfl⟩ := List.isPrefixOf_iff_prefix.1 hp
      have hd := h.drop (y :: ys').length (by simp)
      rw [List.drop_left] at hd
      obtain ⟨b, o, rfl, hcl⟩ := h.lies (by simp)
      refine ⟨_, _, t, ?_, hd, .inl ⟨hp, by simp [tk, hp]⟩⟩
      simp only [Lib.trimPrefixV, List.map_cons]
      rw [← List.map_cons (f := fun b : UInt8 => (b.toNat : Int))]
      unfold Lib.bytesTrimPrefix
      rw [bytesOf_map, bytesOf_map]
      simp [Lib.hasPrefix, hp, Addr.add, Lib.sliceFrom]
    · have hp' : (y :: ys').isPrefixOf bs = false := Bool.eq_false_iff.2 hp
      refine ⟨p, c, bs, ?_, h, .inr ⟨hp', by simp [tk, hp'], rfl⟩⟩
      unfold Lib.trimPrefixV
      split
      · rename_i h1
        unfold Lib.bytesTrimPrefix
        rw [bytesOf_map, bytesOf_map]
        simp [Lib.hasPrefix, hp']
      · rfl
end Go.Proofs.YtbobgebhdafciabDoor
