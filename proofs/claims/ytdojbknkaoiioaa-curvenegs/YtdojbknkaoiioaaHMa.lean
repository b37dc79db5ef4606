/-
  CurveNegs: its turn.
-/
import Derived.Test.YtdojbknkaoiioaaHZ
namespace Go.Proofs.Ytdojbknkaoiioaa
open Go.Shelf Go.RowKit
set_option linter.unusedVariables false
set_option linter.unusedSimpArgs false

theorem y_le {P : Nat} [NeZero P] {K : Cz} (g : GoodK K P) {p : Pz} (h : Gd K P p) : p.y ≤ K.p := by
  have h1 := h.1
  have hP := ppos P
  unfold RdP at h1
  rw [g.p]
  cases hi : p.inf with
  | true =>
    rw [hi, if_pos rfl] at h1
    rw [h1]
    show (0 : Int) ≤ _
    omega
  | false =>
    rw [hi, if_neg (by simp)] at h1
    omega
set_option maxRecDepth 100000 in
set_option maxHeartbeats 4000000 in
theorem turn_any (gc : Nat) (p : Value) (K : Cz) (Q : Pz) (L : Nat) (w : World) (v0 v1 v2 : Value) (a1 : Option Addr) (a2 a3 : Nat) (v4 v5 v6 v7 v8 : Value) (hbx : w.heap[gc]? = some (.cells #[v0, v1, v2, .slice a1 a2 a3, v4, v5, v6, v7, v8] 29 (0, 0))) (hK : Nv w (.slice a1 a2 a3) K.p L) (hp : Pv w p Q L) (hL : L ≤ 1000) (hy : Q.y ≤ K.p) :
    Calls Try.prog 29 #[p, .pointer (some ⟨gc, 0, none⟩)] w fun e w' => ∃ v, e = .returned v ∧ Pv w' v (negZ K Q) L ∧ Below w.heap.size w w' := by
  obtain ⟨px, py, rfl, p1, p2⟩ := hp
  have HL := fun W (hW : Below w.heap.size w W) => len_nv py Q.y L W (p2.old hW) hL
  have HS := fun W (hW : Below w.heap.size w W) => nsub_nv (.slice a1 a2 a3) py K.p Q.y L W (hK.old hW) (p2.old hW) hy
  obtain ⟨k1, k2, k3, k4, rfl, k5⟩ := p1
  obtain ⟨l1, l2, l3, l4, rfl, l5⟩ := p2
  unfold negZ
  cases hi : Q.inf with
  | true =>
    rw [if_pos (Or.inl rfl)]
    obtain ⟨_, n2, hb⟩ := pair_new w #[.slice k1 k2 k3, .slice l1 l2 l3, .bool true] #[.slice k1 k2 k3, .slice l1 l2 l3, .bool true] 43 43
    go_enter Try.func29, Try.ntmps29
    go_wp2_with fail
    refine bodyPost_ret (ret_pt1 rfl _ _ (w.heap.size + 1) _ _ _ rfl n2) rfl ?_
    exact ⟨_, rfl, ⟨_, _, by rw [hi], Nv.old ⟨k1, k2, k3, k4, rfl, k5⟩ hb, Nv.old ⟨l1, l2, l3, l4, rfl, l5⟩ hb⟩, hb⟩
  | false =>
    obtain ⟨f1, s1, hb⟩ := two_new w #[.slice k1 k2 k3, .slice l1 l2 l3, .bool false] 43
    obtain ⟨W, hW⟩ : ∃ W, (w.alloc (.cells #[.slice k1 k2 k3, .slice l1 l2 l3, .bool false] 43)).alloc (.cells #[.slice none 0 0, .slice none 0 0, .bool false] 43) = W := ⟨_, rfl⟩
    rw [hW] at f1 s1 hb
    have HLW := HL W hb
    have f2 : PSl W w.heap.size (.slice k1 k2 k3) (.slice l1 l2 l3) (.bool false) := f1
    obtain ⟨y0, y1, y2, _, _, _⟩ := f2.facts
    obtain ⟨z0, z1, z2, z3, z4, z5⟩ := s1.facts
    have hbxW := blk_old hbx hb
    obtain ⟨c0, c1, c2, c3, c4, c5, c6, c7, c8⟩ := cells9 hbxW
    by_cases hz : Q.y = 0
    · rw [if_pos (Or.inr hz)]
      have hbl : blen Q.y.toNat = 0 := by rw [hz]; rfl
      rw [hbl] at HLW
      go_enter Try.func29, Try.ntmps29
      go_wp2_with (go_at_call 30; refine HLW.mono ?_; rintro e w3 ⟨⟨rfl, _⟩, rfl⟩)
      refine bodyPost_ret (ret_pt1 rfl _ _ (w.heap.size + 1) _ _ _ rfl (s1.set3 (.slice k1 k2 k3) (.slice l1 l2 l3) (.bool false))) rfl ?_
      have bt := Bt.set3 w3 (w.heap.size + 1) (.slice k1 k2 k3) (.slice l1 l2 l3) (.bool false)
      exact ⟨_, rfl, ⟨_, _, by rw [hi], (Nv.old ⟨k1, k2, k3, k4, rfl, k5⟩ hb).apart s1 bt, (Nv.old ⟨l1, l2, l3, l4, rfl, l5⟩ hb).apart s1 bt⟩, hb.trans (bt.below (by omega) hb.size)⟩
    · rw [if_neg (by simp [hz])]
      have hbl : (blen Q.y.toNat : Int) ≠ 0 := by
        have h0 : 0 ≤ Q.y := (show Nv w (.slice l1 l2 l3) Q.y L from ⟨l1, l2, l3, l4, rfl, l5⟩).nonneg
        unfold blen
        rw [if_neg (by omega)]
        omega
      obtain ⟨B, hB⟩ : ∃ B, blen Q.y.toNat = B := ⟨_, rfl⟩
      rw [hB] at HLW hbl
      have HSW := HS W hb
      clear HL HS
      go_enter Try.func29, Try.ntmps29
      go_wp2_with (go_at_call 30; refine HLW.mono ?_; rintro e w3 ⟨⟨rfl, _⟩, rfl⟩)
      go_at_call 26
      refine HSW.mono ?_
      rintro e w4 ⟨vy, rfl, hvy, hb4⟩
      obtain ⟨m1, m2, m3, m4, rfl, m5⟩ := hvy
      have s4 := s1.keep hb4
      have f4 := f2.keep hb4
      clear y0 y1 y2 z0 z1 z2 z3 z4 z5 c0 c1 c2 c3 c4 c5 c6 c7 c8
      obtain ⟨y0, y1, y2, _, _, _⟩ := f4.facts
      obtain ⟨z0, z1, z2, z3, z4, z5⟩ := s4.facts
      go_wp2_with fail
      have B4 := hb.trans (hb4.mono hb.size)
      refine bodyPost_ret (ret_pt1 rfl _ _ (w.heap.size + 1) _ _ _ rfl (s4.set3 (.slice k1 k2 k3) (.slice m1 m2 m3) (.bool false))) rfl ?_
      have bt := Bt.set3 w4 (w.heap.size + 1) (.slice k1 k2 k3) (.slice m1 m2 m3) (.bool false)
      exact ⟨_, rfl, ⟨_, _, rfl, (Nv.old ⟨k1, k2, k3, k4, rfl, k5⟩ B4).apart s4 bt, Nv.apart ⟨m1, m2, m3, m4, rfl, m5⟩ s4 bt⟩, B4.trans (bt.below (by omega) B4.size)⟩
end Go.Proofs.Ytdojbknkaoiioaa
