/-
  The document's Parse.
-/
import Derived.Test.YtbobgebhdafciabDoorJRv
namespace Go.Proofs.YtbobgebhdafciabDoor
open Go.Shelf Go.RowKit
set_option linter.unusedVariables false
set_option linter.unusedSimpArgs false

theorem Dr.atc {w : World} {g : Nat} {B ys : Bs} {d : Nat} {nv : Value} {c : Nat} (h : Dr w g B ys d nv c) : ∃ a : Nat, w.cell? ⟨g, 1, none⟩ = some (.int .i64 a) ∧ a + ys.length = B.length := by
  obtain ⟨pre, p, k, h0, h1, h2, h3⟩ := h
  exact ⟨pre.length, h1.pos, by rw [h0]; simp⟩

set_option maxRecDepth 100000 in
set_option maxHeartbeats 4000000 in
/-- Parse. -/
theorem dParse (p : Option Addr) (c : Nat) (bs : Bs) (w : World) (hR : RestD w w.heap.size p c bs) (hT : Tabs w) :
    Calls Tryd.prog 13 #[.slice p bs.length c] w fun e w' => Below w.heap.size w w' ∧ ((∃ ns nv hs, parseS bs = .ok ns ∧ e = .returned (.tuple #[nv, .int .i64 0]) ∧ Nodes w' (w.heap.size + 1) nv hs ns ∧ ns.length ≤ 256) ∨ (∃ k : Nat, parseS bs = .error k ∧ 0 < k ∧ k < 100 ∧ e = .returned (.tuple #[.slice none 0 0, .int .i64 k]))) := by
  obtain ⟨n, hn⟩ : ∃ n, bs.length = n := ⟨_, rfl⟩
  rw [hn]
  by_cases h4 : 4096 < n
  · have h4' : 4096 < (n : Int) := by omega
    go_enter Tryd.func13, Tryd.ntmps13
    go_wp2_with fail
    go_ret2
    exact ⟨Below.refl _ _, .inr ⟨3, by unfold parseS; rw [if_pos (by omega)], by decide, by decide, rfl⟩⟩
  have h4' : (n : Int) ≤ 4096 := by omega
  obtain ⟨g, hg⟩ : ∃ g, w.heap.size = g := ⟨_, rfl⟩
  obtain ⟨W, hW⟩ : ∃ W, w.alloc (.cells #[.slice p n c, .int .i64 0, .int .i64 0, .slice none 0 0, .int .i64 0] 57) = W := ⟨_, rfl⟩
  have hb : Below w.heap.size w W := by rw [← hW]; exact below_one w _
  have D0 : Dr W g bs bs 0 (.slice none 0 0) 0 := by
    refine ⟨[], p, c, rfl, ?_, ?_, by omega⟩
    · unfold DAt DC
      rw [← hW, ← hg, hn]
      exact alloc_new _ _
    · have := hR.keep (w' := W) (fun k hk => hb.block k hk)
      rw [hg] at this
      exact this
  have hG : Gl g := fun k hk => by rw [← hg]; exact hT.lt k hk
  have HV := dValue_all (2 * bs.length + 1) g bs bs 0 (.slice none 0 0) [] [] W D0 (Nodes.nil W _) (hT.below hb) hG (Nat.le_refl _) (by omega) (by simp)
  have HB : Hid (Below w.heap.size w W ∧ w.heap.size = g ∧ parseS bs = match valS (2 * bs.length + 1) 0 0 bs with | .error e => .error e | .ok (ns, ys) => if (bl ys) = [] then .ok ns else .error 11) := ⟨hb, hg, by unfold parseS; rw [if_neg (by omega)]; rfl⟩
  have HWW : Hid (w.alloc (.cells #[.slice p n c, .int .i64 0, .int .i64 0, .slice none 0 0, .int .i64 0] 57) = W ∧ w.heap.size = g ∧ g < W.heap.size ∧ bs.length = n) := ⟨hW, hg, D0.lt, hn⟩
  clear hb hT hR hG hg hW D0 hn
  go_enter Tryd.func13, Tryd.ntmps13
  go_wp2_with fail
  rw [HWW.out.1, HWW.out.2.1]
  refine HV.mono ?_
  clear HV
  rintro e w1 ⟨nv', hs', ns', k, rfl, V1, hO⟩
  have N1 := V1.nodes
  have hbel : Below g W w1 := V1.below (Nodes.nil W _) HWW.out.2.2.1
  obtain ⟨zs, cd, D1, HO⟩ : ∃ (zs : Bs) (cd : Nat), Dr w1 g bs zs 0 nv' cd ∧ Hid ((cd = 0 ∧ valS (2 * bs.length + 1) 0 0 bs = .ok (ns', zs) ∧ ns'.length ≤ 256) ∨ (0 < cd ∧ cd < 100 ∧ valS (2 * bs.length + 1) 0 0 bs = .error cd)) := by
    rcases hO with ⟨new, z, h1, h2, h3, h4, h5, h6⟩ | ⟨c, z, h1, h2, h3, h4⟩
    · rw [List.nil_append] at h3
      subst h3
      exact ⟨z, 0, h4, .inl ⟨rfl, h1, h6⟩⟩
    · exact ⟨z, c, h4, .inr ⟨h2, h3, h1⟩⟩
  clear hO
  go_wp2_with fail
  go_at_call 22
  refine (DN.start D1).blank.mono ?_
  rintro e w2 ⟨rfl, S2⟩
  have N2 := N1.but' S2.but
  have hbel2 : Below g W w2 := hbel.trans (S2.but.below (Nat.le_refl _) (Nat.le_of_lt D1.lt))
  obtain ⟨a, ea, hab⟩ := S2.dr.atc
  have e4 := S2.dr.codec
  have e3 := S2.dr.nodesc.1
  have HW2 : Hid (Below w.heap.size w w2 ∧ Nodes w2 (w.heap.size + 1) nv' hs' ns') := ⟨HB.out.1.trans (by rw [HB.out.2.1]; exact hbel2), by rw [HB.out.2.1]; exact N2⟩
  rw [HWW.out.2.2.2] at hab
  have HBL : Hid (∀ w', But g w1 w' → Below w.heap.size w w') := fun w' hb' => HB.out.1.trans (by rw [HB.out.2.1]; exact hbel.trans (hb'.below (Nat.le_refl _) (Nat.le_of_lt D1.lt)))
  clear N1 N2 hbel hbel2 V1
  by_cases hcd : cd = 0
  · subst hcd
    have HV : Hid (valS (2 * bs.length + 1) 0 0 bs = .ok (ns', zs) ∧ ns'.length ≤ 256) := by
      rcases HO.out with ⟨_, h1⟩ | ⟨h1, _⟩
      · exact h1
      · omega
    have HP : Hid (parseS bs = if (bl zs) = [] then .ok ns' else .error 11) := by
      show _ = _
      rw [HB.out.2.2, HV.out.1]
    have e4' : w2.cell? ⟨g, 4, none⟩ = some (.int .i64 0) := e4
    by_cases he : bl zs = []
    · have han : a = n := by rw [he] at hab; simpa using hab
      subst han
      have hd : decide ((a : Int) < (a : Int)) = false := by simp
      have HE : Hid (bl zs = []) := he
      clear he hab e4
      go_wp2_with fail
      go_ret2
      exact ⟨HW2.out.1, .inl ⟨ns', nv', hs', by rw [HP.out, if_pos HE.out], rfl, HW2.out.2, HV.out.2⟩⟩
    · have han : (a : Int) < (n : Int) := by
        have : (bl zs).length ≠ 0 := fun e => he (List.eq_nil_of_length_eq_zero e)
        omega
      have hd : decide ((a : Int) < (n : Int)) = true := by simpa using han
      have HE : Hid (¬ bl zs = []) := he
      clear he hab e4
      go_wp2_with fail
      go_at_call 23
      refine (S2.bad 11).mono ?_
      rintro e w3 ⟨rfl, S3⟩
      have e4'' : w3.cell? ⟨g, 4, none⟩ = some (.int .i64 11) := S3.dr.codec
      go_wp2_with fail
      go_quiet (fail)
      go_wp2_with fail
      go_ret2
      exact ⟨HBL.out _ (S3.but.trans (But.ofBelow (below_drewN _ _))), .inr ⟨11, by rw [HP.out, if_neg HE.out], by decide, by decide, rfl⟩⟩
  · have HV : Hid (0 < cd ∧ cd < 100 ∧ valS (2 * bs.length + 1) 0 0 bs = .error cd) := by
      rcases HO.out with ⟨h1, _⟩ | h1
      · exact absurd h1 hcd
      · exact h1
    have hcd' : ((cd : Int) == 0) = false := by simp; omega
    have HP : Hid (parseS bs = .error cd) := by
      show _ = _
      rw [HB.out.2.2, HV.out.2.2]
    clear hcd hab
    go_wp2_with fail
    go_quiet (fail)
    go_wp2_with fail
    go_ret2
    exact ⟨HBL.out _ (S2.but.trans (But.ofBelow (below_drewN _ _))), .inr ⟨cd, HP.out, HV.out.1, HV.out.2.1, rfl⟩⟩
end Go.Proofs.YtbobgebhdafciabDoor
