/-
  jsons.Parse.
-/
import Derived.Test.YtbobgebhdafciabDoorJKo
import Derived.Test.YtbobgebhdafciabDoorJKa
import Derived.Test.YtbobgebhdafciabDoorJV
namespace Go.Proofs.YtbobgebhdafciabDoor
open Go.Shelf Go.RowKit
set_option linter.unusedVariables false
set_option linter.unusedSimpArgs false

/-- value, whatever the bytes. -/
theorem value_all : ∀ f, ValOK f := by
  intro f
  induction f using Nat.strongRecOn with
  | ind f ih =>
    cases f with
    | zero => intro g bs ns o w _ _ hf; omega
    | succ f => exact value_any f (brackets_obj f (fun f' h => element_any f' (ih f' (by omega)))) (brackets_arr f (fun f' h => element_any f' (ih f' (by omega))))
theorem ret2sv {v : Value} {a b : Int} (h : a = b) : Ending.returned (.tuple #[v, .int .i64 a]) = .returned (.tuple #[v, .int .i64 b]) := by rw [h]

set_option maxRecDepth 100000 in
set_option maxHeartbeats 4000000 in
/-- Parse. -/
theorem Parse_any (p : Option Addr) (c : Nat) (bs : Bs) (w : World) (hR : RestV w w.heap.size p c bs) (hT : Tabs w) :
    Calls Tryd.prog 6 #[.slice p bs.length c] w fun e w' => Below w.heap.size w w' ∧ ((∃ ns nv hs, parseS bs = .ok ns ∧ e = .returned (.tuple #[nv, .int .i64 0]) ∧ Nodes w' (w.heap.size + 1) nv hs ns ∧ ns.length ≤ 256) ∨ (∃ k : Nat, parseS bs = .error k ∧ 0 < k ∧ k < 100 ∧ e = .returned (.tuple #[.slice none 0 0, .int .i64 k]))) := by
  obtain ⟨n, hn⟩ : ∃ n, bs.length = n := ⟨_, rfl⟩
  rw [hn]
  by_cases h4 : 4096 < n
  · have h4' : 4096 < (n : Int) := by omega
    go_enter Tryd.func6, Tryd.ntmps6
    go_wp2_with fail
    go_ret2
    exact ⟨Below.refl _ _, .inr ⟨3, by unfold parseS; rw [if_pos (by omega)], by decide, by decide, rfl⟩⟩
  have h4' : (n : Int) ≤ 4096 := by omega
  obtain ⟨g, hg⟩ : ∃ g, w.heap.size = g := ⟨_, rfl⟩
  obtain ⟨W, hW⟩ : ∃ W, w.alloc (.cells #[.slice p n c, .slice none 0 0, .int .i64 0] 43) = W := ⟨_, rfl⟩
  have hb : Below w.heap.size w W := by rw [← hW]; exact (Below.refl _ _).alloc (Nat.le_refl _) _
  have S0 : St W g bs [] 0 := by
    refine ⟨.slice none 0 0, [], ⟨p, c, ?_, ?_⟩, Nodes.nil W _, hT.below hb⟩
    · unfold RdAt RC
      rw [← hW, ← hg, hn]
      exact alloc_new _ _
    · have := hR.keep (w' := W) (fun k hk => hb.block k hk)
      rw [hg] at this
      exact this
  have hG : Gl g := fun k hk => by rw [← hg]; exact hT.lt k hk
  have HV := value_all (2 * bs.length + 1) g bs [] 0 W S0 hG (Nat.le_refl _) (by omega) (by omega) (by simp)
  have HB : Hid (Below w.heap.size w W ∧ w.heap.size = g ∧ parseS bs = match valS (2 * bs.length + 1) 0 0 bs with | .error e => .error e | .ok (ns, ys) => if (bl ys) = [] then .ok ns else .error 11) := ⟨hb, hg, by unfold parseS; rw [if_neg (by omega)]; rfl⟩
  have HG : Hid (w.heap.size = g) := hg
  rw [← hg, ← hW] at HV
  have HWW : Hid (w.alloc (.cells #[.slice p n c, .slice none 0 0, .int .i64 0] 43) = W) := hW
  clear S0 hb hT hR hG hg hW
  go_enter Tryd.func6, Tryd.ntmps6
  go_wp2_with fail
  go_at_call 11
  refine HV.mono ?_
  rw [HG.out, HWW.out]
  clear HV hn
  rintro e w1 ⟨F1, (⟨new, ys, v1, rfl, st, hz, tot⟩ | ⟨k, v1, k1, k2, rfl, fl⟩)⟩
  · obtain ⟨nv, hs, r1, n1, t1⟩ := st
    simp only [List.nil_append] at n1 tot
    go_wp2_with fail
    go_at_call 12
    refine (blanks_any g ys nv 0 w1 r1).mono ?_
    rintro e w2 ⟨rfl, r2, b2⟩
    have n2 := n1.but b2
    have hbel : Below g W w2 := F1.1.trans (b2.below (Nat.le_refl _) (Nat.le_of_lt r1.lt))
    have cn := r2.nodes
    obtain ⟨p2, c2, a1, a2⟩ := r2
    have cr := a1.rest
    have HP : Hid (parseS bs = if (bl ys) = [] then .ok new else .error 11) := by
      show _ = _
      rw [HB.out.2.2, show valS (2 * bs.length + 1) 0 0 bs = .ok (new, ys) from v1]
    by_cases he : bl ys = []
    · rw [he] at cr
      simp only [List.length_nil] at cr
      go_wp2_with fail
      go_ret2
      refine ⟨HB.out.1.trans (by rw [HB.out.2.1]; exact hbel), .inl ⟨new, nv, hs, by rw [HP.out, if_pos he], rfl, ?_, tot⟩⟩
      rw [HB.out.2.1]
      exact n2
    · obtain ⟨m, hm⟩ : ∃ m, (bl ys).length = m := ⟨_, rfl⟩
      rw [hm] at cr
      have hm0 : 0 < (m : Int) := by
        have : (bl ys).length ≠ 0 := fun e => he (List.eq_nil_of_length_eq_zero e)
        omega
      go_wp2_with fail
      go_ret2
      exact ⟨HB.out.1.trans (by rw [HB.out.2.1]; exact hbel), .inr ⟨11, by rw [HP.out, if_neg he], by decide, by decide, rfl⟩⟩
  · have k0 : ((k : Int) != 0) = true := by simp; omega
    go_wp2_with fail
    go_ret2
    refine ⟨HB.out.1.trans (by rw [HB.out.2.1]; exact F1.1), .inr ⟨k, ?_, k1, k2, rfl⟩⟩
    rw [HB.out.2.2, show valS (2 * bs.length + 1) 0 0 bs = .error k from v1]
end Go.Proofs.YtbobgebhdafciabDoor
