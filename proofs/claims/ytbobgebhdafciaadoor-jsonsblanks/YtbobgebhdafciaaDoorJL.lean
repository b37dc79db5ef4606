/-
  The library's contracts of bytes at this program.
-/
import Derived.Test.YtbobgebhdafciaaDoorJB
import Derived.Shelf.Bytes.SlTrim
namespace Go.Proofs.YtbobgebhdafciaaDoor
open Go.Shelf Go.RowKit Go.Lib
set_option linter.unusedVariables false
set_option linter.unusedSimpArgs false

def renTrim : Go.Shelf.Ren := ⟨fun | 8 => 32 | 9 => 47 | 11 => 48 | 12 => 49 | 14 => 50 | 16 => 61 | 17 => 53 | 18 => 62 | 20 => 63 | n => n, fun | 0 => 0 | 3 => 3 | 4 => 4 | 5 => 5 | 9 => 9 | 21 => 21 | 22 => 22 | 27 => 83 | 28 => 84 | 31 => 87 | 33 => 91 | 36 => 107 | 37 => 31 | 39 => 109 | 40 => 110 | n => n, fun  | n => n⟩
theorem laysTrim : Go.Proofs.SlLaysV.n8 Tryd.prog renTrim := {
  mixed := by kernel_rfl
  f8 := Tryd.func32.trans (congrArg some (by kernel_rfl))
  f9 := Tryd.func47.trans (congrArg some (by kernel_rfl))
  f11 := Tryd.func48.trans (congrArg some (by kernel_rfl))
  f12 := Tryd.func49.trans (congrArg some (by kernel_rfl))
  f14 := Tryd.func50.trans (congrArg some (by kernel_rfl))
  f16 := Tryd.func61.trans (congrArg some (by kernel_rfl))
  f17 := Tryd.func53.trans (congrArg some (by kernel_rfl))
  f18 := Tryd.func62.trans (congrArg some (by kernel_rfl))
  f20 := Tryd.func63.trans (congrArg some (by kernel_rfl))
  t0 := Tryd.underlying0
  a0 := Tryd.isAgg0
  z0 := Tryd.sizeOf0
  v0 := Tryd.zeroValue0
  t3 := Tryd.underlying3
  a3 := Tryd.isAgg3
  z3 := Tryd.sizeOf3
  v3 := Tryd.zeroValue3
  t4 := Tryd.underlying4
  a4 := Tryd.isAgg4
  z4 := Tryd.sizeOf4
  v4 := Tryd.zeroValue4
  t5 := Tryd.underlying5
  a5 := Tryd.isAgg5
  z5 := Tryd.sizeOf5
  v5 := Tryd.zeroValue5
  t9 := Tryd.underlying9
  a9 := Tryd.isAgg9
  z9 := Tryd.sizeOf9
  v9 := Tryd.zeroValue9
  t21 := Tryd.underlying21
  a21 := Tryd.isAgg21
  z21 := Tryd.sizeOf21
  v21 := Tryd.zeroValue21
  t22 := Tryd.underlying22
  a22 := Tryd.isAgg22
  z22 := Tryd.sizeOf22
  v22 := Tryd.zeroValue22
  t27 := Tryd.underlying83
  a27 := Tryd.isAgg83
  z27 := Tryd.sizeOf83
  t28 := Tryd.underlying84
  a28 := Tryd.isAgg84
  z28 := Tryd.sizeOf84
  v28 := Tryd.zeroValue84
  t31 := Tryd.underlying87
  a31 := Tryd.isAgg87
  z31 := Tryd.sizeOf87
  v31 := Tryd.zeroValue87
  t33 := Tryd.underlying91
  a33 := Tryd.isAgg91
  z33 := Tryd.sizeOf91
  v33 := Tryd.zeroValue91
  t36 := Tryd.underlying107
  a36 := Tryd.isAgg107
  z36 := Tryd.sizeOf107
  t37 := Tryd.underlying31
  a37 := Tryd.isAgg31
  z37 := Tryd.sizeOf31
  v37 := Tryd.zeroValue31
  t39 := Tryd.underlying109
  a39 := Tryd.isAgg109
  z39 := Tryd.sizeOf109
  v39 := Tryd.zeroValue109
  t40 := Tryd.underlying110
  a40 := Tryd.isAgg110
  z40 := Tryd.sizeOf110
  v40 := Tryd.zeroValue110 }
def renCut : Go.Shelf.Ren := ⟨fun | 115 => 59 | 116 => 45 | 141 => 41 | n => n, fun | 3 => 3 | 4 => 4 | 9 => 9 | 37 => 22 | 5 => 5 | n => n, fun  | n => n⟩
theorem laysCut : Go.Proofs.Lays.nb141 Tryd.prog renCut := {
  mixed := by kernel_rfl
  f115 := Tryd.func59.trans (congrArg some (by kernel_rfl))
  f116 := Tryd.func45.trans (congrArg some (by kernel_rfl))
  f141 := Tryd.func41.trans (congrArg some (by kernel_rfl))
  t3 := Tryd.underlying3
  a3 := Tryd.isAgg3
  z3 := Tryd.sizeOf3
  v3 := Tryd.zeroValue3
  t4 := Tryd.underlying4
  a4 := Tryd.isAgg4
  z4 := Tryd.sizeOf4
  v4 := Tryd.zeroValue4
  t9 := Tryd.underlying9
  a9 := Tryd.isAgg9
  z9 := Tryd.sizeOf9
  v9 := Tryd.zeroValue9
  t37 := Tryd.underlying22
  a37 := Tryd.isAgg22
  z37 := Tryd.sizeOf22
  v37 := Tryd.zeroValue22
  t5 := Tryd.underlying5
  a5 := Tryd.isAgg5
  z5 := Tryd.sizeOf5
  v5 := Tryd.zeroValue5 }
def renHas : Go.Shelf.Ren := ⟨fun | 115 => 59 | 116 => 45 | n => n, fun | 3 => 3 | 4 => 4 | 9 => 9 | 37 => 22 | 5 => 5 | n => n, fun  | n => n⟩
theorem laysHas : Go.Proofs.Lays.nb116 Tryd.prog renHas := {
  mixed := by kernel_rfl
  f115 := Tryd.func59.trans (congrArg some (by kernel_rfl))
  f116 := Tryd.func45.trans (congrArg some (by kernel_rfl))
  t3 := Tryd.underlying3
  a3 := Tryd.isAgg3
  z3 := Tryd.sizeOf3
  v3 := Tryd.zeroValue3
  t4 := Tryd.underlying4
  a4 := Tryd.isAgg4
  z4 := Tryd.sizeOf4
  v4 := Tryd.zeroValue4
  t9 := Tryd.underlying9
  a9 := Tryd.isAgg9
  z9 := Tryd.sizeOf9
  v9 := Tryd.zeroValue9
  t37 := Tryd.underlying22
  a37 := Tryd.isAgg22
  z37 := Tryd.sizeOf22
  v37 := Tryd.zeroValue22
  t5 := Tryd.underlying5
  a5 := Tryd.isAgg5
  z5 := Tryd.sizeOf5
  v5 := Tryd.zeroValue5 }


theorem infoSet : (Tryd.prog.info? 83).map (fun i => (i.zero, i.size)) = some (some (.agg (Array.replicate 256 (.bool false))), 256) := by kernel_rfl
/-- bytes.TrimLeft. -/
theorem trim_any (p : Option Addr) (c : Nat) (bs : Bs) (cs : ByteArray) (w : World) (hc : bs.length ≤ c) (hb : c ≤ 9223372036854775807) (hl : Lib.BytesAt w p bs.length bs) (hcs : cs.size < 100) (ha : ∀ (j : Nat) b, cs.data.toList[j]? = some b → b.toNat < 128) :
    Calls Tryd.prog 32 #[.slice p bs.length c, .string cs] w fun e w' => e = .returned (Lib.leftV p bs.length c (bs.length - (Lib.trimLeftS bs cs.data.toList).length)) ∧ Below w.heap.size w w' :=
  Any.bytes_TrimLeft_ascii laysTrim (zero_of_info infoSet).1 (zero_of_info infoSet).2 p bs.length c bs cs w rfl hc (by omega) hl (by omega) ha
/-- bytes.CutPrefix. -/
theorem cut_any (p q : Option Addr) (c d : Nat) (bs ys : Bs) (w : World) (hc : bs.length ≤ c) (h1 : Lib.BytesAt w p bs.length bs) (h2 : Lib.BytesAt w q ys.length ys) :
    Calls Tryd.prog 41 #[.slice p bs.length c, .slice q ys.length d] w fun e w' => e = .returned (.tuple #[Lib.trimPrefixV p bs.length c (bs.map fun b => (b.toNat : Int)) (ys.map fun b => (b.toNat : Int)), .bool (ys.isPrefixOf bs)]) ∧ w' = w := by
  have := Any.bytes_CutPrefix_all laysCut p q bs.length c ys.length d (bs.map fun b => (b.toNat : Int)) (ys.map fun b => (b.toNat : Int)) w (by simp) (by simp) hc (bytesAt_in h1 rfl) (bytesAt_in h2 rfl)
  rw [bytesOf_map, bytesOf_map] at this
  exact this
/-- bytes.HasPrefix. -/
theorem has_any (p q : Option Addr) (c d : Nat) (bs ys : Bs) (w : World) (hc : bs.length ≤ c) (h1 : Lib.BytesAt w p bs.length bs) (h2 : Lib.BytesAt w q ys.length ys) :
    Calls Tryd.prog 45 #[.slice p bs.length c, .slice q ys.length d] w fun e w' => e = .returned (.bool (ys.isPrefixOf bs)) ∧ w' = w := by
  have := Any.bytes_HasPrefix_all laysHas p q bs.length c ys.length d (bs.map fun b => (b.toNat : Int)) (ys.map fun b => (b.toNat : Int)) w (by simp) (by simp) hc (bytesAt_in h1 rfl) (bytesAt_in h2 rfl)
  rw [bytesOf_map, bytesOf_map] at this
  exact this

theorem trimLeftS_drop (bs cs : Bs) : bs.drop (bs.length - (Lib.trimLeftS bs cs).length) = Lib.trimLeftS bs cs := by
  obtain ⟨t, ht⟩ : Lib.trimLeftS bs cs <:+ bs := List.dropWhile_suffix _
  have hl : bs.length = t.length + (Lib.trimLeftS bs cs).length := by have := congrArg List.length ht; simp at this; omega
  rw [show bs.length - (Lib.trimLeftS bs cs).length = t.length by omega]
  conv => lhs; arg 2; rw [← ht]
  simp
theorem trimLeftS_len (bs cs : Bs) : (Lib.trimLeftS bs cs).length ≤ bs.length := (List.dropWhile_suffix _).length_le
/-- What TrimLeft answers is the rest. -/
theorem leftV_rest {w : World} {g : Nat} {p : Option Addr} {c : Nat} {bs : Bs} (h : RestV w g p c bs) (cs : Bs) : ∃ p' c', Lib.leftV p bs.length c (bs.length - (Lib.trimLeftS bs cs).length) = .slice p' (Lib.trimLeftS bs cs).length c' ∧ RestV w g p' c' (Lib.trimLeftS bs cs) := by
  have hl := trimLeftS_len bs cs
  have hd := trimLeftS_drop bs cs
  unfold Lib.leftV
  split
  · rename_i h0
    have h1 : Lib.trimLeftS bs cs = [] := List.eq_nil_of_length_eq_zero (by omega)
    rw [h1]
    exact ⟨none, 0, rfl, RestV.empty w g⟩
  · rename_i h0
    have := h.drop (bs.length - (Lib.trimLeftS bs cs).length) (by omega)
    rw [hd] at this
    refine ⟨_, _, ?_, this⟩
    unfold Lib.fromV
    rw [show bs.length - (bs.length - (Lib.trimLeftS bs cs).length) = (Lib.trimLeftS bs cs).length by omega]
/-- What CutPrefix answers is the rest. -/
theorem cutV_rest {w : World} {g : Nat} {p : Option Addr} {c : Nat} {bs : Bs} (h : RestV w g p c bs) (ys : Bs) : ∃ p' c' zs, Lib.trimPrefixV p bs.length c (bs.map fun b => (b.toNat : Int)) (ys.map fun b => (b.toNat : Int)) = .slice p' zs.length c' ∧ RestV w g p' c' zs ∧ ((ys.isPrefixOf bs = true ∧ tk ys bs = some zs) ∨ (ys.isPrefixOf bs = false ∧ tk ys bs = none ∧ zs = bs)) := by
  by_cases hy : ys = []
  · subst hy
    refine ⟨p, c, bs, ?_, h, .inl ⟨by simp, by simp [tk]⟩⟩
    unfold Lib.trimPrefixV
    split
    · rename_i h1; simp at h1
    · rfl
  · obtain ⟨y, ys', rfl⟩ := List.exists_cons_of_ne_nil hy
    by_cases hp : (y :: ys').isPrefixOf bs = true
    · obtain ⟨t, rfl⟩ := List.isPrefixOf_iff_prefix.1 hp
      have hd := h.drop (y :: ys').length (by simp)
      rw [List.drop_left] at hd
      obtain ⟨b, o, rfl, hcl⟩ := h.lies (by simp)
      refine ⟨_, _, t, ?_, hd, .inl ⟨hp, by simp [tk, hp]⟩⟩
      simp only [Lib.trimPrefixV, List.map_cons]
      rw [← List.map_cons (f := fun b : UInt8 => (b.toNat : Int))]
      unfold Lib.bytesTrimPrefix
      rw [bytesOf_map, bytesOf_map]
      simp [Lib.hasPrefix, hp, Addr.add, Lib.sliceFrom]
    · have hp' : (y :: ys').isPrefixOf bs = false := Bool.eq_false_iff.2 hp
      refine ⟨p, c, bs, ?_, h, .inr ⟨hp', by simp [tk, hp'], rfl⟩⟩
      unfold Lib.trimPrefixV
      split
      · rename_i h1
        unfold Lib.bytesTrimPrefix
        rw [bytesOf_map, bytesOf_map]
        simp [Lib.hasPrefix, hp']
      · rfl
end Go.Proofs.YtbobgebhdafciaaDoor
