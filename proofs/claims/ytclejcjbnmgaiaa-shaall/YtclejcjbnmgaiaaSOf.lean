/-
  The walk of ShaOf.
-/
import Derived.Test.YtclejcjbnmgaiaaShaGM
namespace Go.Proofs.Ytclejcjbnmgaiaa
open Go.RowKit
set_option linter.unusedVariables false
set_option linter.unusedSimpArgs false
attribute [local go_sem ↓] keep_l8 keep_l64 keep_s8 keep_l32 keep_s32

theorem Own.blk {e : TypeId} {k : IntKind} {w : World} {base : Nat} {ao : Option Addr} {len cap : Nat} {xs : List Int} (h : Own e k w base (.slice ao len cap) xs) : ∀ b off s, ao = some ⟨b, off, s⟩ → b < w.heap.size := by
  intro b off s e'
  rcases h.2 with ⟨h0, _⟩ | ⟨g, cap', cur, h0, hg, hrow, _⟩
  · simp at h0; rw [h0.1] at e'; cases e'
  · simp only [Value.slice.injEq] at h0
    rw [h0.1] at e'
    simp only [Option.some.injEq, Addr.mk.injEq] at e'
    rw [← e'.1]
    exact (Array.getElem?_eq_some_iff.1 hrow).1

set_option maxRecDepth 100000 in
set_option maxHeartbeats 4000000 in
/-- The hash of any bytes. -/
theorem ShaOf_walk (a_b : Option Addr) (l_b c_b : Nat) (z_b : List Int) (w : World) (came_b : Came .u8 w a_b l_b c_b z_b) :
    Calls Try.prog 3 #[.slice a_b l_b c_b] w fun e w' => e = .returned (.bool true) ∧ Below w.heap.size w w' := by
  have hmx := came_b.le
  unfold maxLen at hmx
  have C_b : Hid (Came .u8 w a_b l_b c_b z_b) := came_b
  clear came_b
  by_cases hlong : 5000 < l_b
  · have hlong' : (5000 : Int) < (l_b : Int) := by omega
    go_enter Try.func3, Try.ntmps3
    go_wp2_with fail
    refine (SAwake_any w).mono ?_
    rintro e wA ⟨rfl, hb⟩
    go_wp2
    go_ret
    exact ⟨rfl, hb⟩
  have hlong' : ¬ (5000 : Int) < (l_b : Int) := by omega
  have hsm : l_b ≤ 5000 := by omega
  clear hlong
  go_enter Try.func3, Try.ntmps3
  go_wp2_with fail
  refine (SAwake_any w).mono ?_
  rintro e wA ⟨rfl, hb⟩
  have N_b : Hid (NumIn .u8 256 wA a_b l_b c_b (z_b.take l_b)) := (C_b.out.old hb).num (fun _ => word_u8) (by omega)
  have BW : Hid (Below w.heap.size w wA) := hb
  clear C_b hb
  generalize z_b.take l_b = xs at *
  have LX : Hid (xs.length = l_b ∧ Dg 256 xs) := ⟨N_b.out.len, N_b.out.dg⟩
  have hl1 : ([] : List Int).length + l_b ≤ 1073741824 := by simp; omega
  go_wp2_with (at_builtin; refine wpList_append_nums rfl _ _ 22 rfl 5 .u8 1 Try.underlying22 Try.infoB' wA.heap.size (.slice (some ⟨wA.heap.size, 0, none⟩) 0 0) [] (by rfl) (own_lit0 5 .u8 wA wA.heap.size (Nat.le_refl _)) a_b l_b c_b xs (by rfl) (N_b.out.lies.old ((Below.refl _ _).alloc (Nat.le_refl _) _)) N_b.out.nn hl1 (by decide) wA ((Below.refl _ _).alloc (Nat.le_refl _) _) (by simp) ?_; intro v1 w1 hown1 hb1 _ hs1)
  rw [List.nil_append] at hown1
  obtain ⟨ao, cap, rfl, hn1⟩ := hown1.num (B := 256) LX.out.2 (by rw [LX.out.1]; omega)
  rw [LX.out.1] at hn1 ⊢
  rw [LX.out.1] at hown1
  have hblk := hown1.blk
  have HOF := HOf_any xs ao l_b cap w1 LX.out.2 hn1.lies hn1.lc hn1.cm hn1.nn (by omega) hblk
  have HSU := fun w' hl' => rSum_any xs a_b l_b c_b w' LX.out.2 hl' N_b.out.nn (by omega)
  have hl32 := shaS_length xs
  generalize shaS xs = hh at *
  refine HOF.mono ?_
  rintro e w2 ⟨rfl, hb2⟩
  go_wp2_with fail
  refine (HSU w2 ((N_b.out.lies.old hb1).old hb2)).mono ?_
  rintro e w3 ⟨rfl, hb3⟩
  have hb13 : Below w1.heap.size w1 w3 := hb2.trans (hb3.mono hb2.size)
  have hcv1 := conv_bytes w3 22 9 5 Try.underlying22 Try.underlying5 Try.underlying9 ao l_b cap xs (hn1.lies.old hb13)
  have hcv2 := conv_bytes w3 22 9 5 Try.underlying22 Try.underlying5 Try.underlying9 a_b l_b c_b xs ((N_b.out.lies.old hb1).old hb13)
  have HB : Hid (Below w.heap.size w w3) := BW.out.trans ((hb1.mono BW.out.size).trans (hb13.mono (by have := BW.out.size; have := hb1.size; omega)))
  clear HOF HSU hb1 hb2 hb3 hb13 hn1 hown1 hblk N_b BW hs1
  go_wp2_with ((with_reducible show wpList _ _ _ (Oper.mk _ (Op.binOp .eql _ _ _ _) _ _ _ none :: _) _ _); refine wpList_eql_ag (by with_reducible rfl) _ _ _ (by with_reducible rfl) hh hl32 (by rfl) (by rfl) ?_)
  go_ret
  exact ⟨rfl, HB.out⟩
end Go.Proofs.Ytclejcjbnmgaiaa
