/-
  Two values' texts in one array: its nodes.
-/
import Derived.Test.YtbobgebhdafciabDoorJPa
namespace Go.Proofs.YtbobgebhdafciabDoor
open Go.RowKit
set_option linter.unusedVariables false
set_option linter.unusedSimpArgs false

/-- A node, its kids further on. -/
def shiftN (s : Nat) (n : Nd) : Nd := ⟨n.kind, n.text, n.names, n.kids.map (· + s)⟩
theorem leafN_shift (s : Nat) (k : Int) (t : Bs) : shiftN s (leafN k t) = leafN k t := by
  unfold leafN
  repeat' split
  all_goals rfl
theorem places_shift (g : Vt → Nat → List Nd) (s : Nat) (H : ∀ v c, g v (c + s) = (g v c).map (shiftN s)) : ∀ (ks : List Vt) (i p : Nat), placesN g i (p + s) ks = ((placesN g i p ks).1.map (· + s), (placesN g i p ks).2.map (shiftN s))
  | [], i, p => rfl
  | k :: ks, i, p => by
    rw [placesN, placesN]
    split
    · rfl
    · have hl : (g k (p + s)).length = (g k p).length := by rw [H, List.length_map]
      have e : p + s + (g k (p + s)).length = p + (g k p).length + s := by rw [hl]; omega
      rw [e, places_shift g s H ks (i + 1) (p + (g k p).length), H]
      simp
theorem vnodes_shift (s : Nat) : ∀ (d : Nat) (v : Vt) (c : Nat), vnodes d v (c + s) = (vnodes d v c).map (shiftN s)
  | 0, v, c => by
    have hm : 0 ≤ v.kind % 7 := Int.emod_nonneg _ (by decide)
    by_cases q : v.kind % 7 ≤ 1
    · rw [vnodes0_grp _ q, vnodes0_grp _ q]; rfl
    · rw [vnodes0_leaf _ (by omega), vnodes0_leaf _ (by omega), List.map_cons, leafN_shift]; rfl
  | d + 1, v, c => by
    have hm : 0 ≤ v.kind % 7 := Int.emod_nonneg _ (by decide)
    have hp := places_shift (vnodes d) s (vnodes_shift s d) v.kids 0 (c + 1)
    have ec : c + s + 1 = c + 1 + s := by omega
    by_cases q : v.kind % 7 = 0
    · rw [vnodes_arr _ q, vnodes_arr _ q, ec, hp]; rfl
    · by_cases q1 : v.kind % 7 = 1
      · rw [vnodes_obj _ q1, vnodes_obj _ q1, ec, hp, List.length_map]; rfl
      · rw [vnodes_leaf _ (by omega), vnodes_leaf _ (by omega), List.map_cons, leafN_shift]; rfl
theorem vnodes_len (d : Nat) (v : Vt) (c : Nat) : (vnodes d v c).length = (vnodes d v 0).length := by
  have := vnodes_shift c d v 0
  rw [Nat.zero_add] at this
  rw [this, List.length_map]
/-- Two texts in brackets. -/
theorem join_read (ga gb : Bs) (hga : isBl ga) (hgb : isBl gb) (d : Nat) (hd : d ≤ 6) (v u : Vt) (hl : ([91] ++ vtext ga d v ++ [44] ++ vtext gb d u ++ [93]).length ≤ 4096) (hn : 1 + (vnodes d v 0).length + (vnodes d u 0).length ≤ 256) :
    parseS ([91] ++ vtext ga d v ++ [44] ++ vtext gb d u ++ [93]) = .ok (⟨2, [], [], [1, 1 + (vnodes d v 0).length]⟩ :: ((vnodes d v 0).map (shiftN 1) ++ (vnodes d u 0).map (shiftN (1 + (vnodes d v 0).length)))) := by
  have e : [91] ++ vtext ga d v ++ [44] ++ vtext gb d u ++ [93] = 91 :: (vtext ga d v ++ 44 :: (vtext gb d u ++ [93])) := by simp
  unfold parseS
  rw [if_neg (by omega)]
  have s1 : vnodes d v 1 = (vnodes d v 0).map (shiftN 1) := by have := vnodes_shift 1 d v 0; rwa [Nat.zero_add] at this
  have s2 : vnodes d u (1 + (vnodes d v 0).length) = (vnodes d u 0).map (shiftN (1 + (vnodes d v 0).length)) := by have := vnodes_shift (1 + (vnodes d v 0).length) d u 0; rwa [Nat.zero_add] at this
  have l1 : (vnodes d v 1).length = (vnodes d v 0).length := vnodes_len d v 1
  have l2 : (vnodes d u (1 + (vnodes d v 0).length)).length = (vnodes d u 0).length := vnodes_len d u _
  have hne := (vtext_lead ga d v).len
  have hne2 := (vtext_lead gb d u).len
  obtain ⟨L, hL⟩ : ∃ L, ([91] ++ vtext ga d v ++ [44] ++ vtext gb d u ++ [93]).length = L := ⟨_, rfl⟩
  have hLe : L = (vtext ga d v).length + (vtext gb d u).length + 3 := by rw [← hL]; simp; omega
  rw [hL, e]
  obtain ⟨F, hF⟩ : ∃ F, 2 * L + 1 = F + 3 := ⟨2 * L - 2, by omega⟩
  obtain ⟨yc, ytl, eY, hyb, _, hy93, _⟩ := vtext_lead ga d v
  have hbY : bl (vtext ga d v ++ 44 :: (vtext gb d u ++ [93])) = vtext ga d v ++ 44 :: (vtext gb d u ++ [93]) := by rw [eY, List.cons_append, bl_stay _ hyb]
  have htk : tk [93] (vtext ga d v ++ 44 :: (vtext gb d u ++ [93])) = none := by rw [eY, List.cons_append]; exact tk_other _ (Ne.symm hy93)
  have v1 := val_read ga hga d v 1 1 (F + 1) [] (44 :: (vtext gb d u ++ [93])) (fun x hx => by simp at hx) (.inr ⟨44, _, rfl, by simp⟩) (by omega) (by omega) (by omega)
  have v2 := val_read gb hgb d u 1 (1 + (vnodes d v 0).length) F [] [93] (fun x hx => by simp at hx) (.inr ⟨93, _, rfl, by simp⟩) (by omega) (by omega) (by omega)
  rw [List.nil_append, if_pos (by rw [l1]; omega)] at v1
  rw [List.nil_append, if_pos (by rw [l2]; omega)] at v2
  rw [hF, valS_grp (f := F + 2) (kind := 2) (cc := 91) (close := 93) (.inr ⟨rfl, rfl, rfl⟩) (bl_stay _ (by decide)) (by decide), grpS_eq, if_neg (by decide), hbY, htk]
  simp only []
  rw [pcsS_succ]
  simp only [aheadS, List.length_nil, Nat.zero_add, Nat.add_zero]
  rw [if_neg (by decide)]
  simp only []
  rw [v1]
  simp only []
  rw [bl_stay _ (by decide), tk_pre]
  simp only []
  rw [pcsS_succ]
  simp only [aheadS, List.nil_append, Nat.zero_add]
  rw [if_neg (by decide)]
  simp only []
  rw [l1, v2]
  simp only []
  rw [bl_stay _ (by decide), tk_other _ (by decide), tk_pre]
  simp only []
  rw [if_pos (show bl [] = [] from rfl), s1, s2]
  simp
end Go.Proofs.YtbobgebhdafciabDoor
