/-
  The walk of B64Encodes.
-/
import Derived.Test.YtbhjidmbihkppaaB64R
namespace Go.Proofs.Ytbhjidmbihkppaa
open Go.RowKit
set_option linter.unusedVariables false
set_option linter.unusedSimpArgs false

set_option maxHeartbeats 2000000 in
/-- Any bytes as a text. -/
theorem B64Encodes_walk (a_b : Option Addr) (l_b c_b : Nat) (z_b : List Int) (w : World) (came_b : Came .u8 w a_b l_b c_b z_b) :
    Calls Try.prog 3 #[.slice a_b l_b c_b] w fun e w' => e = .returned (.bool true) ∧ Below w.heap.size w w' := by
  have hmx := came_b.le
  unfold maxLen at hmx
  have C_b : Hid (Came .u8 w a_b l_b c_b z_b) := came_b
  clear came_b
  by_cases hlong : 3000 < l_b
  · have hlong' : (3000 : Int) < (l_b : Int) := by omega
    go_enter Try.func3, Try.ntmps3
    go_wp2_with fail
    refine (BAwake_any w).mono ?_
    rintro e wA ⟨rfl, hb⟩
    go_wp2
    go_ret
    exact ⟨rfl, hb⟩
  have hlong' : ¬ (3000 : Int) < (l_b : Int) := by omega
  have hsm : l_b ≤ 3000 := by omega
  clear hlong
  go_enter Try.func3, Try.ntmps3
  go_wp2_with fail
  refine (BAwake_any w).mono ?_
  rintro e wA ⟨rfl, hb⟩
  have N_b : Hid (NumIn .u8 256 wA a_b l_b c_b (z_b.take l_b)) := (C_b.out.old hb).num (fun _ => word_u8) (by omega)
  have BW : Hid (Below w.heap.size w wA) := hb
  clear C_b hb
  generalize z_b.take l_b = xs at *
  have HE := Enc_any a_b l_b c_b xs wA N_b.out (by omega)
  have HR := fun w' h => rEnc_any a_b l_b c_b xs w' h (by omega)
  rw [show (⟨(encT (nats xs)).toArray⟩ : ByteArray) = txt (nats xs) from rfl] at HE
  generalize txt (nats xs) = s at *
  go_wp2_with fail
  refine HE.mono ?_
  rintro e w1 ⟨rfl, hb1⟩
  go_wp2_with fail
  refine (HR w1 (N_b.out.old hb1)).mono ?_
  rintro e w2 ⟨rfl, hb2⟩
  go_wp2
  go_ret
  exact ⟨rfl, BW.out.trans ((hb1.mono BW.out.size).trans (hb2.mono (by have := BW.out.size; have := hb1.size; omega)))⟩
end Go.Proofs.Ytbhjidmbihkppaa
