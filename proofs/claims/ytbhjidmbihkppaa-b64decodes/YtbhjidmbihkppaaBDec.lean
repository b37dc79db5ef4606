/-
  The walk of B64Decodes.
-/
import Derived.Test.YtbhjidmbihkppaaB64Q
namespace Go.Proofs.Ytbhjidmbihkppaa
open Go.RowKit
set_option linter.unusedVariables false
set_option linter.unusedSimpArgs false

set_option maxHeartbeats 2000000 in
/-- Any text as bytes. -/
theorem B64Decodes_came (s : ByteArray) (hs : s.size ≤ maxLen) (w : World) :
    Calls Try.prog 4 #[.string s] w fun e w' => e = .returned (.bool true) ∧ Below w.heap.size w w' := by
  unfold maxLen at hs
  by_cases hlong : 3000 < s.size
  · have hlong' : (3000 : Int) < (s.size : Int) := by omega
    go_enter Try.func4, Try.ntmps4
    go_wp2_with fail
    refine (BAwake_any w).mono ?_
    rintro e wA ⟨rfl, hb⟩
    go_wp2
    go_ret
    exact ⟨rfl, hb⟩
  have hlong' : ¬ (3000 : Int) < (s.size : Int) := by omega
  have hsm : s.size ≤ 3000 := by omega
  clear hlong
  have hyl : (ints (byt ((cods s).map vS))).length ≤ 4000 := by rw [ints_length, byt_length, List.length_map, cods_length]; omega
  by_cases g : Good (cods s)
  · have HD := fun w' => Dec_yes s w' (by omega) g
    have HR : ∀ w', Calls Try.prog 12 #[.string s] w' fun e w'' => (∃ v, e = .returned (.tuple #[v, .bool true]) ∧ Own 5 .u8 w'' w'.heap.size v (ints (byt ((cods s).map vS)))) ∧ Below w'.heap.size w' w'' := fun w' => by
      refine (rDec_any s w' (by omega)).mono ?_
      rintro e w'' ⟨⟨_, h⟩ | ⟨hn, _⟩, hb⟩
      · exact ⟨h, hb⟩
      · exact absurd g hn
    have hyd := ints_dg (byt_lt ((cods s).map vS))
    generalize ints (byt ((cods s).map vS)) = ys at *
    have HY : Hid (Dg 256 ys) := hyd
    clear hyd g
    go_enter Try.func4, Try.ntmps4
    go_wp2_with fail
    refine (BAwake_any w).mono ?_
    rintro e wA ⟨rfl, hb⟩
    go_wp2_with fail
    refine (HD wA).mono ?_
    rintro e w1 ⟨⟨v1, rfl, hown1⟩, hb1⟩
    go_wp2_with fail
    refine (HR w1).mono ?_
    rintro e w2 ⟨⟨v2, rfl, hown2⟩, hb2⟩
    obtain ⟨ao1, cap1, rfl, hcv1⟩ := own_str (hown1.below hb2) HY.out ys.length rfl (by omega)
    obtain ⟨ao2, cap2, rfl, hcv2⟩ := own_str hown2 HY.out ys.length rfl (by omega)
    have HB : Hid (Below w.heap.size w w2) := hb.trans ((hb1.mono hb.size).trans (hb2.mono (by have := hb.size; have := hb1.size; omega)))
    clear hown1 hown2 hb hb1 hb2 HD HR
    go_wp2
    go_ret
    exact ⟨rfl, HB.out⟩
  · have HD := fun w' => Dec_no s w' (by omega) g
    have HR : ∀ w', Calls Try.prog 12 #[.string s] w' fun e w'' => e = .returned (.tuple #[.slice none 0 0, .bool false]) ∧ Below w'.heap.size w' w'' := fun w' => by
      refine (rDec_any s w' (by omega)).mono ?_
      rintro e w'' ⟨⟨h, _⟩ | ⟨_, h⟩, hb⟩
      · exact absurd h g
      · exact ⟨h, hb⟩
    clear hyl g
    go_enter Try.func4, Try.ntmps4
    go_wp2_with fail
    refine (BAwake_any w).mono ?_
    rintro e wA ⟨rfl, hb⟩
    go_wp2_with fail
    refine (HD wA).mono ?_
    rintro e w1 ⟨rfl, hb1⟩
    go_wp2_with fail
    refine (HR w1).mono ?_
    rintro e w2 ⟨rfl, hb2⟩
    have HB : Hid (Below w.heap.size w w2) := hb.trans ((hb1.mono hb.size).trans (hb2.mono (by have := hb.size; have := hb1.size; omega)))
    clear hb hb1 hb2 HD HR
    go_wp2
    go_ret
    exact ⟨rfl, HB.out⟩
end Go.Proofs.Ytbhjidmbihkppaa
