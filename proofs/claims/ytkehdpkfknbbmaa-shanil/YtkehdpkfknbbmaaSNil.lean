/-
  The walk of ShaNil.
-/
import Derived.Test.YtkehdpkfknbbmaaShaJ
namespace Go.Proofs.Ytkehdpkfknbbmaa
open Go.RowKit
set_option linter.unusedVariables false
set_option linter.unusedSimpArgs false
attribute [local go_sem ↓] keep_l8 keep_l64 keep_s8

set_option maxRecDepth 100000 in
set_option maxHeartbeats 4000000 in
/-- A nil one; a new one. -/
theorem ShaNil_walk (a_b : Option Addr) (l_b c_b : Nat) (z_b : List Int) (w : World) (came_b : Came .u8 w a_b l_b c_b z_b) :
    Calls Try.prog 7 #[.slice a_b l_b c_b] w fun e w' => e = .returned (.bool true) ∧ Below w.heap.size w w' := by
  have HO1 := fun w => HOf_any [] none 0 0 w (Dg.nil _) (Lies.empty _ _ _) (Nat.le_refl _) (by unfold maxLen; omega) (fun _ => rfl) (by omega) (fun b off s e => by cases e)
  have hl1 := shaS_length []
  have HSUM := fun g w h => Sum_any g [] w h (by simp)
  generalize shaS [] = s1 at *
  clear came_b
  go_enter Try.func7, Try.ntmps7
  go_wp2_with fail
  refine (SAwake_any w).mono ?_
  rintro e wA ⟨rfl, hbA⟩
  go_wp2_with fail
  refine (Put_nil _ _ _ _).mono ?_
  rintro e w' ⟨⟨v, rfl⟩, rfl⟩
  go_wp2_with fail
  refine (Sum_nil _).mono ?_
  rintro e w1 ⟨rfl, hb1⟩
  have HB1 : Hid (Below w.heap.size w w1) := hbA.trans (hb1.mono hbA.size)
  clear hbA hb1
  go_wp2_with (first
    | ((with_reducible show wpList _ _ _ (Oper.mk _ (Op.build _ _) _ _ _ _ :: _) _ _); refine wpList_build (by with_reducible rfl) 24 #[] (by with_reducible rfl) (by simp [Try.builtB]) ?_; simp only [List.map_toArray, List.map_nil, Try.builtB, Option.getD_some])
    | ((with_reducible show wpList _ _ _ (Oper.mk _ (Op.binOp .eql _ _ _ _) _ _ _ none :: _) _ _); refine wpList_eql_ag (by with_reducible rfl) _ _ _ (by with_reducible rfl) (List.replicate 32 0) (by simp) (by rfl) (by rfl) ?_))
  refine (New_any _).mono ?_
  rintro e w2 ⟨rfl, hh2, hb2⟩
  go_wp2_with fail
  refine (HSUM _ _ hh2).mono ?_
  rintro e w3 ⟨rfl, hb3⟩
  have HB3 : Hid (Below w.heap.size w w3) := HB1.out.trans ((hb2.mono HB1.out.size).trans (hb3.mono (by have := HB1.out.size; have := hb2.size; omega)))
  clear HB1 hh2 hb2 hb3
  go_wp2_with fail
  refine (HO1 _).mono ?_
  rintro e w4 ⟨rfl, hb4⟩
  have HB4 : Hid (Below w.heap.size w w4) := HB3.out.trans (hb4.mono HB3.out.size)
  clear HB3 hb4
  go_wp2_with ((with_reducible show wpList _ _ _ (Oper.mk _ (Op.binOp .eql _ _ _ _) _ _ _ (some _) :: _) _ _); refine wpList_unguard (by rfl) ?_; refine wpList_eql_ag rfl _ _ _ rfl s1 hl1 (by rfl) (by rfl) ?_)
  go_ret
  exact ⟨rfl, HB4.out⟩
end Go.Proofs.Ytkehdpkfknbbmaa
