import Derived.Test.YtiblpcfkecalcabDoorK08
import Derived.Test.YtiblpcfkecalcabDoorK05
import Derived.WideShapes
import Derived.OpenShut
import Derived.ChangeSame
/-
  append(b, make([]byte, n)...) onto bytes of the call's own; a piece that came in.
-/
namespace Go.Proofs.YtiblpcfkecalcabDoor
open Go.RowKit Go.ChangeShapes Go.WideShapes
set_option linter.unusedVariables false
set_option linter.unusedSimpArgs false

theorem zeroCells_u8 (m : Nat) : Builtin.zeroCells #[Value.int .u8 0] m = (Lib.byteCells (List.replicate m 0)).toArray := by
  unfold Builtin.zeroCells Lib.byteCells
  apply Array.ext'
  simp [Array.toList_map, Nat.mod_one]
  apply List.ext_getElem?
  intro i
  simp [List.getElem?_range, List.getElem?_replicate]
  by_cases h : i < m <;> simp [h]
theorem underInt : Tryd.prog.underlying 3 = some (.int .i64) := by kernel_rfl
/-- Zeros appended to bytes of the call's own. -/
theorem run_append_zeros {w : World} (base : Nat) (ty : TypeId) (g n cap : Nat) (old : Bs) (hown : w.ownsRow base 5 1 (.slice (some ⟨g, 0, none⟩) n cap) n (Lib.byteCells old)) (m : Nat) (hlen : n + m ≤ 10000000) (hbase : base ≤ w.heap.size) :
    ∃ v' w', (Builtin.append_ #[22, 3] ty #[.slice (some ⟨g, 0, none⟩) n cap, .int .i64 (m : Int)]).run Tryd.prog w = .ok v' w' ∧ w'.ownsRow base 5 1 v' (n + m) (Lib.byteCells (old ++ List.replicate m 0)) ∧ w.grownBy w' (some g) ∧ (v'.ownBlock = some g ∨ v'.ownBlock = some w.heap.size) := by
  obtain ⟨i0, hi0, hz0, hz1, hz2⟩ := info_parts infoU8
  rcases hown.2 with ⟨e, _⟩ | ⟨g', cap', cur, e, hbg, hg, hnc, hcm, hcs, htake⟩
  · cases e
  cases e
  have hlo : (Lib.byteCells old).length = n := by have := hown.1; omega
  have hwr : IntKind.i64.wrap (m : Int) = (m : Int) := by
    have : (m : Int) < 9223372036854775807 := by omega
    exact IntWalk.i64_in _ (by omega)
  have hai : ∀ W, (asInt (Value.int .i64 (m : Int))).run Tryd.prog W = .ok (m : Int) W := fun _ => rfl
  have hneg : ¬ ((m : Int) < 0) := by omega
  have hbig : ¬ (281474976710656 < (m : Int)) := by omega
  have hw0 : IntKind.i64.wrap 0 = 0 := by kernel_rfl
  have hone : ∀ u ∈ Lib.byteCells (List.replicate m 0), u.oneCell' = true := by intro u hu; simp only [Lib.byteCells, List.mem_map] at hu; obtain ⟨x, _, rfl⟩ := hu; rfl
  have hml : (Lib.byteCells (List.replicate m 0)).length = m := by simp [Lib.byteCells]
  have hcs1 : cur.size = cap := by omega
  have hzc : Builtin.zeroCells (Value.int .u8 0).cells m = (Lib.byteCells (List.replicate m 0)).toArray := zeroCells_u8 m
  have hcat : Lib.byteCells (old ++ List.replicate m 0) = Lib.byteCells old ++ Lib.byteCells (List.replicate m 0) := (byteCells_app _ _).symm
  have htk : cur.toList.take n = Lib.byteCells old := by rw [Nat.mul_one] at htake; exact htake
  by_cases hroom : n + m ≤ cap
  · have hst := run_storeCells_at Tryd.prog g n 5 (Lib.byteCells (List.replicate m 0)) 0 cur w hg (by rw [hml, hcs1]; omega) hone
    simp only [Nat.add_zero] at hst
    refine ⟨.slice (some ⟨g, 0, none⟩) (n + m) cap, w.setRow g (cur.toList.take n ++ Lib.byteCells (List.replicate m 0) ++ cur.toList.drop (n + (Lib.byteCells (List.replicate m 0)).length)).toArray, ?_, ?_, ?_, .inl rfl⟩
    · by_cases hm0 : m = 0
      · subst hm0
        have hroom' : n ≤ cap := by omega
        simp [Builtin.append_, run_underlying Tryd.underlying22, run_underlying underInt, sizeOf, typeInfo, hi0, hz1, hz2, hroom, storeCells]
        rw [show (0 : Int) = ((0 : Nat) : Int) from rfl, hai]
        simp [Result.andThen, hw0, hroom']
        have h9 := hst
        simp [Lib.byteCells, storeCells] at h9
        simp [Lib.byteCells]
        exact h9
      · simp [Builtin.append_, run_underlying Tryd.underlying22, run_underlying underInt, sizeOf, typeInfo, zeroValue, hi0, hz0, hz1, hz2, hai, hwr, hneg, hbig, hroom, hm0, hzc, Addr.add_lit, hst]
    · refine ⟨by rw [hcat, List.length_append, hlo, hml, Nat.mul_one], .inr ⟨g, cap, _, rfl, hbg, setRow_heap w g cur _ _ _ hg, hroom, hcm, ?_, ?_⟩⟩
      · simp only [List.size_toArray, List.length_append, List.length_take, List.length_drop, Array.length_toList, hml]
        omega
      · rw [hcat, htk, Nat.mul_one]
        have : (Lib.byteCells old ++ Lib.byteCells (List.replicate m 0)).length = n + m := by rw [List.length_append, hlo, hml]
        rw [← this]
        exact List.take_left
    · exact ⟨rfl, rfl, rfl, by simp, fun k _ hk => setRow_other w g k _ (fun e => hk (by rw [e]))⟩
  · have hm0 : m ≠ 0 := by omega
    have hn' : ¬ (n + m ≤ cap) := hroom
    have h63' : ¬ (9223372036854775807 < ((n : Int) + (m : Int))) := by omega
    have hfit : Builtin.nextslicecap (n + m) cap * 1 ≤ 281474976710656 := growslice_fits (by omega) (by omega)
    have h48' : ¬ (281474976710656 < Builtin.nextslicecap (n + m) cap) := by omega
    have holds : ∀ j u, (Lib.byteCells old)[j]? = some u → w.drew.cell? ((⟨g, 0, none⟩ : Addr).add j) = some u := by
      intro j u hj
      have := hown.cells (g := g) rfl j u hj
      simpa using this
    have hfo := run_firstCells_some (P := Tryd.prog) w.drew 1 n ⟨g, 0, none⟩ n cap (Lib.byteCells old) (by rw [hlo, Nat.mul_one]) holds
    refine ⟨.slice (some ⟨w.heap.size, 0, none⟩) (n + m) (grownCap w (n + m) cap 5), w.drew.alloc (.cells ((Lib.byteCells old).toArray ++ (Lib.byteCells (List.replicate m 0)).toArray ++ Builtin.zeroCells (Value.int .u8 0).cells (grownCap w (n + m) cap 5 - (n + m))) 5), ?_, ?_, ?_, .inr rfl⟩
    · simp [Builtin.append_, run_underlying Tryd.underlying22, run_underlying underInt, sizeOf, typeInfo, zeroValue, hi0, hz0, hz1, hz2, hai, hwr, hneg, hbig, hn', hm0, hzc, h63', h48', Question.forced, hfo, newRow, grownCap]
      have ee : ∀ Z : Array Value, (Lib.byteCells old).toArray ++ ((Lib.byteCells (List.replicate m 0)).toArray ++ Z) = (Lib.byteCells old ++ Lib.byteCells (List.replicate m 0)).toArray ++ Z := fun Z => by apply Array.ext'; simp
      rw [ee]
    · have hge := grownCap_ge w (n + m) cap 5
      have hcm2 : grownCap w (n + m) cap 5 ≤ maxLen := grownCap_le_maxLen w (n + m) cap 5 (by unfold maxLen; omega)
      refine ⟨by rw [hcat, List.length_append, hlo, hml, Nat.mul_one], .inr ⟨w.heap.size, _, _, rfl, hbase, heap_alloc_new w.drew _, hge, hcm2, ?_, ?_⟩⟩
      · simp only [Array.size_append, List.size_toArray, size_zeroCells, hlo, hml]
        show n + m + (grownCap w (n + m) cap 5 - (n + m)) * 1 = _
        omega
      · rw [hcat, Nat.mul_one]
        have : (Lib.byteCells old ++ Lib.byteCells (List.replicate m 0)).length = n + m := by rw [List.length_append, hlo, hml]
        simp only [Array.toList_append, List.append_assoc]
        rw [← List.append_assoc, ← this]
        exact List.take_left
    · exact ⟨rfl, rfl, rfl, by simp, fun k hk _ => Below.heap_alloc w.drew _ k hk⟩
theorem tlvFields : ∃ f0 f1 : Field, Tryd.prog.underlying 24 = some (.struct #[f0, f1]) ∧ f0.offset = 0 ∧ f1.offset = 1 ∧ f0.type = 5 ∧ f1.type = 22 := ⟨_, _, Tryd.underlying24, rfl, rfl, rfl, rfl⟩
/-- A piece that came in. -/
theorem open_tlv {H : Type} {enc : TypeId × Value → H} {w : World} {held : Bool} {fuel : Nat} {cs : Array Value} {x : DataW H × List MemPlace} (h : DataW.trod enc Tryd.prog w 0 (fun _ => true) held fuel 24 cs.toList = some x) :
    ∃ (t : Int) (a1 : Option Addr) (l1 c1 : Nat) (z1 : List Int), cs = #[.int .u8 t, .slice a1 l1 c1] ∧ (0 ≤ t ∧ t < 256) ∧ CameJ .u8 w a1 l1 c1 z1 := by
  obtain ⟨f0, f1, hu, o0, o1, t0, t1⟩ := tlvFields
  have hc : Tryd.prog.cellsOf 5 = 1 := by kernel_rfl
  have hc1 : Tryd.prog.cellsOf 22 = 1 := by kernel_rfl
  have hc2 : Tryd.prog.cellsOf 24 = 2 := by kernel_rfl
  obtain ⟨y0, y1, n, _, hl, g0, g1⟩ := trod_struct2 hu h
  rw [hc2] at hl
  rw [o0, t0, hc] at g0
  rw [o1, t1, hc1] at g1
  obtain ⟨v0, v1, hcs⟩ : ∃ v0 v1, cs.toList = [v0, v1] := by
    match hh : cs.toList, hl with
    | [v0, v1], _ => exact ⟨v0, v1, rfl⟩
  rw [hcs] at g0 g1
  simp only [List.drop_zero, List.drop_succ_cons, List.take_succ_cons, List.take_zero] at g0 g1
  obtain ⟨t, rfl, ht⟩ : ∃ t, v0 = .int .u8 t ∧ (0 ≤ t ∧ t < 256) := by
    obtain ⟨z, e0, _, hz⟩ := DataW.trod_int (k := .u8) Tryd.underlying5 g0
    cases e0
    exact ⟨z, rfl, byte_wf hz⟩
  obtain ⟨a1, l1, c1, z1, rfl, w1⟩ : ∃ a l c z, v1 = .slice a l c ∧ CameJ .u8 w a l c z := by
    rcases open_ints Tryd.underlying22 Tryd.underlying5 (by kernel_rfl) g1 with ⟨hcs, _⟩ | ⟨x, l, c, zs, hcs, _, hl, hm, hz, _, hcell, hwz⟩
    · cases hcs
      exact ⟨none, 0, 0, [], rfl, .inl ⟨rfl, rfl, rfl, rfl⟩⟩
    · cases hcs
      exact ⟨_, _, _, zs, rfl, .inr ⟨_, rfl, hl, hm, by simpa using hz, hcell, hwz⟩⟩
  exact ⟨t, a1, l1, c1, z1, Array.ext' hcs, ht, w1⟩
end Go.Proofs.YtiblpcfkecalcabDoor
