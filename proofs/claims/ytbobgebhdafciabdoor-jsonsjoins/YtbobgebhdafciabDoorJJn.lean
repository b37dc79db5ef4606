/-
  The walk of JsonsJoins.
-/
import Derived.Test.YtbobgebhdafciabDoorJJm
namespace Go.Proofs.YtbobgebhdafciabDoor
open Go.Shelf Go.RowKit
set_option linter.unusedVariables false
set_option linter.unusedSimpArgs false

set_option maxRecDepth 100000 in
set_option maxHeartbeats 8000000 in
/-- JsonsJoins. -/
theorem JsonsJoins_at (v u : Vt) (p p2 : Option Addr) (c c2 : Nat) (w : World) (hv : VOk w 4 [.int .u8 v.kind, .string ⟨v.text.toArray⟩, .slice p v.kids.length c] v) (hu : VOk w 4 [.int .u8 u.kind, .string ⟨u.text.toArray⟩, .slice p2 u.kids.length c2] u) (hT : Tabs w) :
    Calls Tryd.prog 4 #[.agg #[.int .u8 v.kind, .string ⟨v.text.toArray⟩, .slice p v.kids.length c], .agg #[.int .u8 u.kind, .string ⟨u.text.toArray⟩, .slice p2 u.kids.length c2]] w fun e w' => e = .returned (.bool true) ∧ Below w.heap.size w w' := by
  have HT : Hid (Tabs w) := hT
  have HV : Hid (VOk w 4 [.int .u8 v.kind, .string ⟨v.text.toArray⟩, .slice p v.kids.length c] v) := hv
  have HU : Hid (VOk w 4 [.int .u8 u.kind, .string ⟨u.text.toArray⟩, .slice p2 u.kids.length c2] u) := hu
  obtain ⟨vk, hvk⟩ : ∃ x, v.kind = x := ⟨_, rfl⟩
  obtain ⟨vt, hvt⟩ : ∃ x, v.text = x := ⟨_, rfl⟩
  obtain ⟨vn, hvn⟩ : ∃ x, v.kids.length = x := ⟨_, rfl⟩
  obtain ⟨uk, huk⟩ : ∃ x, u.kind = x := ⟨_, rfl⟩
  obtain ⟨ut, hut⟩ : ∃ x, u.text = x := ⟨_, rfl⟩
  obtain ⟨un, hun⟩ : ∃ x, u.kids.length = x := ⟨_, rfl⟩
  rw [hvk, hvt, hvn] at HV ⊢
  rw [huk, hut, hun] at HU ⊢
  clear hv hu hT hvk hvt hvn huk hut hun
  go_enter Tryd.func4, Tryd.ntmps4
  go_wp2_with fail
  go_at_call 5
  have hbA : Below w.heap.size w ((w.alloc (.cells #[.int .u8 vk, .string ⟨vt.toArray⟩, .slice p vn c] 32)).alloc (.cells #[.int .u8 uk, .string ⟨ut.toArray⟩, .slice p2 un c2] 32)) := ((Below.refl _ w).alloc (Nat.le_refl _) _).alloc (by simp) _
  have hszA : ((w.alloc (.cells #[.int .u8 vk, .string ⟨vt.toArray⟩, .slice p vn c] 32)).alloc (.cells #[.int .u8 uk, .string ⟨ut.toArray⟩, .slice p2 un c2] 32)).heap.size = w.heap.size + 1 + 1 := by simp
  have hrow1 := alloc_new w (.cells #[.int .u8 vk, .string ⟨vt.toArray⟩, .slice p vn c] 32)
  have hrowA := heap_alloc_old (w.alloc (.cells #[.int .u8 vk, .string ⟨vt.toArray⟩, .slice p vn c] 32)) (.cells #[.int .u8 uk, .string ⟨ut.toArray⟩, .slice p2 un c2] 32) (r := w.heap.size) (by simp)
  have hrowB := alloc_new (w.alloc (.cells #[.int .u8 vk, .string ⟨vt.toArray⟩, .slice p vn c] 32)) (.cells #[.int .u8 uk, .string ⟨ut.toArray⟩, .slice p2 un c2] 32)
  rw [hrow1] at hrowA
  refine (Awake_any _ (HT.out.below hbA)).mono ?_
  rintro e w1 ⟨rfl, b1⟩
  have HB1 : Hid (Below w.heap.size w w1) := hbA.trans (b1.mono (by rw [hszA]; omega))
  have e1 : w1.heap[w.heap.size]? = some (.cells #[.int .u8 vk, .string ⟨vt.toArray⟩, .slice p vn c] 32) := by rw [b1.block _ (by rw [hszA]; omega)]; exact hrowA
  have e2 : w1.heap[w.heap.size + 1]? = some (.cells #[.int .u8 uk, .string ⟨ut.toArray⟩, .slice p2 un c2] 32) := by rw [b1.block _ (by rw [hszA]; omega)]; simpa using hrowB
  have k0 : w1.cell? ⟨w.heap.size, 0, none⟩ = some (.int .u8 vk) := by simp [World.cell?, e1]
  have k1 : w1.cell? ⟨w.heap.size, 1, none⟩ = some (.string ⟨vt.toArray⟩) := by simp [World.cell?, e1]
  have k2 : w1.cell? ⟨w.heap.size, 2, none⟩ = some (.slice p vn c) := by simp [World.cell?, e1]
  have k3 : w1.cell? ⟨w.heap.size + 1, 0, none⟩ = some (.int .u8 uk) := by simp [World.cell?, e2]
  have k4 : w1.cell? ⟨w.heap.size + 1, 1, none⟩ = some (.string ⟨ut.toArray⟩) := by simp [World.cell?, e2]
  have k5 : w1.cell? ⟨w.heap.size + 1, 2, none⟩ = some (.slice p2 un c2) := by simp [World.cell?, e2]
  have HZ1 : Hid (w.heap.size < w1.heap.size ∧ w.heap.size + 1 < w1.heap.size) := by
    have := (Array.getElem?_eq_some_iff.1 e2).1
    exact ⟨by omega, by omega⟩
  clear b1 hrow1 hrowA hrowB hbA hszA e1 e2
  go_wp2_with fail
  obtain ⟨la, hla⟩ : ∃ l, vtext [] 4 v = l := ⟨_, rfl⟩
  obtain ⟨lb, hlb⟩ : ∃ l, vtext [32] 4 u = l := ⟨_, rfl⟩
  have HLA : Hid (vtext [] 4 v = la ∧ vtext [32] 4 u = lb) := ⟨hla, hlb⟩
  have HTa := fun (W : World) (hW : Below w.heap.size w W) => Text_any 4 (by omega) v [.int .u8 vk, .string ⟨vt.toArray⟩, .slice p vn c] [] W (by decide) (VOk.keep hW 4 _ _ HV.out)
  have HTb := fun (W : World) (hW : Below w.heap.size w W) => Text_any 4 (by omega) u [.int .u8 uk, .string ⟨ut.toArray⟩, .slice p2 un c2] [32] W (by decide) (VOk.keep hW 4 _ _ HU.out)
  simp only [hla] at HTa
  simp only [hlb] at HTb
  change ∀ W, _ → Calls _ _ #[_, Value.int .i64 4, Value.string ⟨#[]⟩] W _ at HTa
  change ∀ W, _ → Calls _ _ #[_, Value.int .i64 4, Value.string ⟨#[32]⟩] W _ at HTb
  have HBd : Hid (Below w.heap.size w w1.drew) := HB1.out.drew
  have T1 : ∀ w2, Below w1.drew.heap.size w1.drew w2 → Hid (Below w.heap.size w w2) ∧ (w2.cell? ⟨w.heap.size, 0, none⟩ = some (.int .u8 vk) ∧ w2.cell? ⟨w.heap.size, 1, none⟩ = some (.string ⟨vt.toArray⟩) ∧ w2.cell? ⟨w.heap.size, 2, none⟩ = some (.slice p vn c) ∧ w2.cell? ⟨w.heap.size + 1, 0, none⟩ = some (.int .u8 uk) ∧ w2.cell? ⟨w.heap.size + 1, 1, none⟩ = some (.string ⟨ut.toArray⟩) ∧ w2.cell? ⟨w.heap.size + 1, 2, none⟩ = some (.slice p2 un c2)) := fun w2 b2 =>
    ⟨HBd.out.trans (b2.mono HBd.out.size), (b2.cell (p := ⟨w.heap.size, 0, none⟩) HZ1.out.1).trans k0, (b2.cell (p := ⟨w.heap.size, 1, none⟩) HZ1.out.1).trans k1, (b2.cell (p := ⟨w.heap.size, 2, none⟩) HZ1.out.1).trans k2, (b2.cell (p := ⟨w.heap.size + 1, 0, none⟩) HZ1.out.2).trans k3, (b2.cell (p := ⟨w.heap.size + 1, 1, none⟩) HZ1.out.2).trans k4, (b2.cell (p := ⟨w.heap.size + 1, 2, none⟩) HZ1.out.2).trans k5⟩
  have T3 : ∀ w2 w3, Hid (Below w.heap.size w w2) → Below w2.heap.size w2 w3 → Hid (Below w.heap.size w w3) := fun w2 w3 h1 b3 => h1.out.trans (b3.mono h1.out.size)
  clear hla hlb HV HU
  apply wp_framesN (fun g W => Below w.heap.size w W)
  case reg =>
    go_region_with (first
      | (go_at_call 8; with_reducible show Calls _ _ #[_, _, Value.string ⟨#[]⟩] w1.drew _; refine (HTa w1.drew HBd.out).mono ?_; rintro e w2 ⟨rfl, b2⟩; obtain ⟨HB2, j0, j1, j2, j3, j4, j5⟩ := T1 w2 b2)
      | (go_at_call 8; with_reducible show Calls _ _ #[_, _, Value.string ⟨#[32]⟩] w1.drew _; refine (HTb w1.drew HBd.out).mono ?_; rintro e w2 ⟨rfl, b2⟩; obtain ⟨HB2, j0, j1, j2, j3, j4, j5⟩ := T1 w2 b2)
      | (go_at_call 8; with_reducible show Calls _ _ #[_, _, Value.string ⟨#[32]⟩] w2 _; refine (HTb w2 HB2.out).mono ?_; rintro e w3 ⟨rfl, b3⟩; have HB3 : Hid (Below w.heap.size w w3) := T3 w2 w3 HB2 b3)
      | (go_at_call 8; with_reducible show Calls _ _ #[_, _, Value.string ⟨#[]⟩] w2 _; refine (HTa w2 HB2.out).mono ?_; rintro e w3 ⟨rfl, b3⟩; have HB3 : Hid (Below w.heap.size w w3) := T3 w2 w3 HB2 b3))
    all_goals (obtain ⟨g, hg⟩ : ∃ g : Nat, g = 0 := ⟨0, rfl⟩; exact ⟨g, HB3.out, rfl⟩)
  case rest =>
    intro g0 W hbW
    have HBW : Hid (Below w.heap.size w W) := hbW
    have hgE : isBl [] := fun x hx => by simp at hx
    have hgB : isBl [32] := by unfold isBl; decide
    have HPA : Hid ((parseS la = .ok (vnodes 4 v 0) ∧ la.length ≤ 4096 ∧ (vnodes 4 v 0).length ≤ 256) ∨ parseS la = .error 14 ∨ parseS la = .error 3) := by
      have := parse_cases [] hgE 4 (by decide) v
      rw [HLA.out.1] at this
      exact this
    have HPB : Hid ((parseS lb = .ok (vnodes 4 u 0) ∧ lb.length ≤ 4096 ∧ (vnodes 4 u 0).length ≤ 256) ∨ parseS lb = .error 14 ∨ parseS lb = .error 3) := by
      have := parse_cases [32] hgB 4 (by decide) u
      rw [HLA.out.2] at this
      exact this
    have HJ : Hid (([91] ++ la ++ [44] ++ lb ++ [93]).length ≤ 4096 → 1 + (vnodes 4 v 0).length + (vnodes 4 u 0).length ≤ 256 → parseS ([91] ++ la ++ [44] ++ lb ++ [93]) = .ok (⟨2, [], [], [1, 1 + (vnodes 4 v 0).length]⟩ :: ((vnodes 4 v 0).map (shiftN 1) ++ (vnodes 4 u 0).map (shiftN (1 + (vnodes 4 v 0).length))))) := fun h1 h2 => by
      have := join_read [] [32] hgE hgB 4 (by decide) v u
      rw [HLA.out.1, HLA.out.2] at this
      exact this h1 h2
    have HLN : Hid (la.length ≤ 20000000 ∧ lb.length ≤ 20000000) := by
      rw [← HLA.out.1, ← HLA.out.2]
      exact ⟨Nat.le_trans (vtext_len [] (by decide) 4 v) (vmax_le (by decide)), Nat.le_trans (vtext_len [32] (by decide) 4 u) (vmax_le (by decide))⟩
    have HNE : Hid (1 ≤ (vnodes 4 v 0).length ∧ 1 ≤ (vnodes 4 u 0).length) := ⟨vnodes_ne 4 v 0, vnodes_ne 4 u 0⟩
    have HKV : Hid ((∀ n ∈ vnodes 4 v 0, n.kids.length ≤ 9 ∧ ∀ k ∈ n.kids, k < 0 + (vnodes 4 v 0).length) ∧ ∀ n ∈ vnodes 4 u 0, n.kids.length ≤ 9 ∧ ∀ k ∈ n.kids, k < 0 + (vnodes 4 u 0).length) := ⟨vnodes_bound 4 v 0, vnodes_bound 4 u 0⟩
    clear hbW k0 k1 k2 k3 k4 k5 HBd T1 T3 HTa HTb HB1 HZ1 HLA hgE hgB
    generalize vnodes 4 v 0 = NA at *
    generalize vnodes 4 u 0 = NB at *
    obtain ⟨na, hna⟩ : ∃ n, la.length = n := ⟨_, rfl⟩
    obtain ⟨nb, hnb⟩ : ∃ n, lb.length = n := ⟨_, rfl⟩
    have hsa : ((⟨la.toArray⟩ : ByteArray)).size = na := hna
    have hsb : ((⟨lb.toArray⟩ : ByteArray)).size = nb := hnb
    have HNA : Hid (la.length = na ∧ lb.length = nb) := ⟨hna, hnb⟩
    have hcva := fun W => conv_bw W la na hna
    have hcvb := fun W => conv_bw W lb nb hnb
    have hnab : na ≤ 20000000 := by rw [← hna]; exact HLN.out.1
    have hnbb : nb ≤ 20000000 := by rw [← hnb]; exact HLN.out.2
    clear hna hnb HLN
    go_wp2_with fail
    refine (parse_txtN W la na HNA.out.1 (by omega) (HT.out.below HBW.out)).mono ?_
    rintro e w4 ⟨b4, (⟨ns, nv, hsa', p1, rfl, N4, l4⟩ | ⟨k, p1, kp, kl, rfl⟩)⟩
    · have HB4 : Hid (Below w.heap.size w w4) := HBW.out.trans (b4.mono HBW.out.size)
      have hA : ns = NA ∧ la.length ≤ 4096 ∧ NA.length ≤ 256 := by
        rcases HPA.out with ⟨h1, h2, h3⟩ | h1 | h1
        · rw [p1] at h1; cases h1; exact ⟨rfl, h2, h3⟩
        · rw [p1] at h1; cases h1
        · rw [p1] at h1; cases h1
      obtain ⟨rfl, hA1, hA2⟩ := hA
      obtain ⟨gl, cl, rfl, hgl1, hgl2⟩ := N4.form (by have := HNE.out.1; omega)
      have H4 : Hid (Nodes w4 W.heap.size (.slice (some ⟨gl, 0, none⟩) ns.length cl) hsa' ns ∧ gl < w4.heap.size ∧ W.heap.size ≤ gl) := ⟨N4, hgl2, hgl1⟩
      have HGL : Hid (w.heap.size ≤ gl) := Nat.le_trans HBW.out.size hgl1
      clear b4 p1 N4 l4 hgl1 hgl2 HPA
      obtain ⟨LA, hLA⟩ : ∃ n, ns.length = n := ⟨_, rfl⟩
      have HLA : Hid (ns.length = LA) := hLA
      rw [hLA] at H4 hA2 ⊢
      clear hLA
      go_wp2_with fail
      refine (parse_txtN w4 lb nb HNA.out.2 (by omega) (HT.out.below HB4.out)).mono ?_
      rintro e w5 ⟨b5, (⟨ms, mv, hsb', p2, rfl, N5, l5⟩ | ⟨k, p2, kp, kl, rfl⟩)⟩
      · have HB5 : Hid (Below w.heap.size w w5) := HB4.out.trans (b5.mono HB4.out.size)
        have hB : ms = NB ∧ lb.length ≤ 4096 ∧ NB.length ≤ 256 := by
          rcases HPB.out with ⟨h1, h2, h3⟩ | h1 | h1
          · rw [p2] at h1; cases h1; exact ⟨rfl, h2, h3⟩
          · rw [p2] at h1; cases h1
          · rw [p2] at h1; cases h1
        obtain ⟨rfl, hB1, hB2⟩ := hB
        obtain ⟨gm, cm, rfl, hgm1, hgm2⟩ := N5.form (by have := HNE.out.2; omega)
        have H5 : Hid (Nodes w5 W.heap.size (.slice (some ⟨gl, 0, none⟩) LA cl) hsa' ns ∧ Nodes w5 w4.heap.size (.slice (some ⟨gm, 0, none⟩) ms.length cm) hsb' ms ∧ gl < gm ∧ gm < w5.heap.size) := ⟨H4.out.1.keep (fun g h1 h2 => b5.block g h2), N5, by have := H4.out.2.1; omega, hgm2⟩
        have HSW : Hid (W.heap.size ≤ w5.heap.size) := by show _ ≤ _; have := H4.out.2; have := b5.size; omega
        clear b5 p2 N5 l5 hgm1 hgm2 HPB H4
        obtain ⟨LB, hLB⟩ : ∃ n, ms.length = n := ⟨_, rfl⟩
        have HLB : Hid (ms.length = LB) := hLB
        rw [hLB] at H5 hB2 ⊢
        clear hLB
        have hna4 : na ≤ 4096 := by rw [← HNA.out.1]; exact hA1
        have hnb4 : nb ≤ 4096 := by rw [← HNA.out.2]; exact hB1
        by_cases c1 : 4096 < na + nb + 3
        · have c1d : decide ((4096 : Int) < (na : Int) + (nb : Int) + 3) = true := by simp; omega
          go_wp2_with fail
          go_ret
          exact ⟨rfl, HB5.out⟩
        have c1d : decide ((4096 : Int) < (na : Int) + (nb : Int) + 3) = false := by simp; omega
        by_cases c2' : 256 < 1 + LA + LB
        · have c2d : decide ((256 : Int) < 1 + (LA : Int) + (LB : Int)) = true := by simp; omega
          go_wp2_with fail
          go_ret
          exact ⟨rfl, HB5.out⟩
        have c2d : decide ((256 : Int) < 1 + (LA : Int) + (LB : Int)) = false := by simp; omega
        have hLT : ([91] ++ la ++ [44] ++ lb ++ [93]).length = na + nb + 3 := by have := HNA.out; simp; omega
        have HPJ : Hid (parseS ([91] ++ la ++ [44] ++ lb ++ [93]) = .ok (⟨2, [], [], [1, 1 + LA]⟩ :: (ns.map (shiftN 1) ++ ms.map (shiftN (1 + LA))))) := by
          have := HJ.out (by rw [hLT]; omega) (by rw [HLA.out, HLB.out]; omega)
          rw [HLA.out] at this
          exact this
        have hcvj := conv_bw w5 ([91] ++ la ++ [44] ++ lb ++ [93]) (na + nb + 3) hLT
        have HPT := parse_txtN w5 ([91] ++ la ++ [44] ++ lb ++ [93]) (na + nb + 3) hLT (by omega) (HT.out.below HB5.out)
        rw [← str_app, ← str_app, ← str_app, ← str_app] at hcvj HPT
        clear HJ hcva hcvb hLT
        go_wp2_with fail
        refine HPT.mono ?_
        clear HPT hcvj
        rintro e w6 ⟨b6, (⟨bs, bv, hsc, p3, rfl, N6, l6⟩ | ⟨k, p3, kp, kl, rfl⟩)⟩
        · have HB6 : Hid (Below w.heap.size w w6) := HB5.out.trans (b6.mono HB5.out.size)
          have hBS : bs = ⟨2, [], [], [1, 1 + LA]⟩ :: (ns.map (shiftN 1) ++ ms.map (shiftN (1 + LA))) := by
            have := HPJ.out
            rw [p3] at this
            cases this
            rfl
          have hbl : bs.length = 1 + LA + LB := by rw [hBS]; simp [HLA.out, HLB.out]; omega
          obtain ⟨gb, cb, rfl, hgb1, hgb2⟩ := N6.form (by omega)
          have H6 : Hid (Nodes w6 W.heap.size (.slice (some ⟨gl, 0, none⟩) LA cl) hsa' ns ∧ Nodes w6 w4.heap.size (.slice (some ⟨gm, 0, none⟩) LB cm) hsb' ms ∧ Nodes w6 w5.heap.size (.slice (some ⟨gb, 0, none⟩) (1 + LA + LB) cb) hsc bs ∧ gl < gm ∧ gm < gb ∧ bs = ⟨2, [], [], [1, 1 + LA]⟩ :: (ns.map (shiftN 1) ++ ms.map (shiftN (1 + LA))) ∧ bs.length = 1 + LA + LB ∧ 1 + LA + LB ≤ cb) := by
            have hcb : bs.length ≤ cb := by
              rcases N6.row.2 with ⟨e, _⟩ | ⟨g', c', cur, e, _, _, h1, _⟩
              · cases e
              · simp only [Value.slice.injEq] at e
                obtain ⟨_, _, rfl⟩ := e
                rw [N6.len] at h1
                exact h1
            rw [hbl] at hcb
            have N6' := N6
            rw [hbl] at N6'
            exact ⟨H5.out.1.keep (fun g h1 h2 => b6.block g h2), H5.out.2.1.keep (fun g h1 h2 => b6.block g h2), N6', H5.out.2.2.1, by have := H5.out.2.2.2; omega, hBS, hbl, hcb⟩
          rw [hbl]
          obtain ⟨x0, hx0, r0, hc0⟩ := (H6.out.2.2.1).cellsAt H6.out.2.2.2.2.2.2.1 0 (by omega)
          have hb0 : bs[0]'(by omega) = ⟨2, [], [], [1, 1 + LA]⟩ := by
            have e := H6.out.2.2.2.2.2.1
            subst e
            rfl
          rw [hb0] at r0
          have hks := r0.kids
          obtain ⟨qk, ck, hvk, hqk⟩ : ∃ qk ck, x0.ks = .slice (some ⟨qk, 0, none⟩) 2 ck ∧ w6.cell? ⟨qk, 0, none⟩ = some (.int .i64 1) ∧ w6.cell? ⟨qk, 1, none⟩ = some (.int .i64 ((1 + LA : Nat) : Int)) := by
            rcases hks.2 with ⟨_, h0⟩ | ⟨q, cap, cur, e, hr⟩
            · simp at h0
            · refine ⟨q, cap, e, ?_⟩
              rw [e] at hks
              exact ⟨owns_cell hks 0 (by simp), owns_cell hks 1 (by simp)⟩
          have c3 : w6.cell? ⟨gb, 3, none⟩ = some (.slice (some ⟨qk, 0, none⟩) 2 ck) := by
            have := hc0 3 (by decide)
            simp [Hd.cells] at this
            rw [this, hvk]
          obtain ⟨k0, k1⟩ := hqk
          have hk1I : ((1 + LA : Nat) : Int) = 1 + (LA : Int) := by omega
          rw [hk1I] at k1
          have HSZ : Hid (W.heap.size ≤ w6.heap.size ∧ gb < w6.heap.size) := ⟨by have := HSW.out; have := b6.size; omega, hgb2⟩
          clear hBS hbl hgb1 hgb2 N6 l6 b6 p3 hx0 r0 hc0 hb0 hks hvk H5 HPJ HSW
          go_wp2_with fail
          clear c3 k0 k1
          generalize hw6 : w6 = w6' at *
          clear hw6
          go_loopw [134] (fun v134 wr => ∃ (i : Nat), v134 = .int .i64 i ∧ i ≤ LA ∧ Hid (∃ hs, Nodes wr W.heap.size (.slice (some ⟨gl, 0, none⟩) LA cl) hs (mixN 1 i ns) ∧ Nodes wr w4.heap.size (.slice (some ⟨gm, 0, none⟩) LB cm) hsb' ms ∧ Nodes wr w5.heap.size (.slice (some ⟨gb, 0, none⟩) (1 + LA + LB) cb) hsc bs ∧ W.heap.size ≤ wr.heap.size ∧ gb < wr.heap.size) ∧ Below w.heap.size w wr) (fun v134 _ => LA - (intOf v134).toNat)
          case atStart => exact ⟨0, rfl, by omega, ⟨hsa', by rw [mix_zero]; exact H6.out.1, H6.out.2.1, H6.out.2.2.1, by have := HSZ.out; omega, HSZ.out.2⟩, HB6.out⟩
          case round =>
            obtain ⟨i, rfl, hi, HI, hbr⟩ := hrel
            have HBr : Hid (Below w.heap.size w wr) := hbr
            clear hbr
            have hi0 : (0 : Int) ≤ (i : Int) := by omega
            by_cases hin : i < LA
            · have hinI : (i : Int) < (LA : Int) := by omega
              have hind : decide ((i : Int) < (LA : Int)) = true := by simpa using hinI
              obtain ⟨hs, Ni, Nm', Nb, hz1, hz2⟩ := HI.out
              have hnl : i < ns.length := by rw [HLA.out]; exact hin
              obtain ⟨nd, hnd⟩ : ∃ nd, ns[i]? = some nd := ⟨_, List.getElem?_eq_getElem hnl⟩
              have hml : (mixN 1 i ns).length = LA := by rw [mix_len 1 i ns (by omega)]; exact HLA.out
              obtain ⟨x, hx, rx, hcx⟩ := Ni.cellsAt hml i hin
              have hmx := mix_at 1 i ns nd hnd
              have hmx2 : (mixN 1 i ns)[i]'(by omega) = nd := by
                rw [List.getElem?_eq_getElem (by omega)] at hmx
                exact Option.some.inj hmx
              rw [hmx2] at rx
              obtain ⟨pk, ck, hks, hrow⟩ := rx.kidRow
              have hc3 : wr.cell? ⟨gl, i * 4 + 3, none⟩ = some (.slice pk nd.kids.length ck) := by
                have := hcx 3 (by decide)
                rw [this, ← hks]
                rfl
              have hf3 : wr.frozen? ⟨gl, i * 4 + 3, none⟩ = false := owns_frozen (by have := Ni.row; rw [Ni.len, hml] at this; exact this) _
              have hgl : gl < wr.heap.size := (owns_lt Ni.row (g := gl) rfl).2.1
              have hbd := HKV.out.1 nd (List.mem_of_getElem? hnd)
              have HFU := further_any pk ck nd.kids 1 wr hrow (fun k hk => by have := hbd.2 k hk; rw [HLA.out] at this; omega) (by omega) (by omega)
              obtain ⟨kn, hkn⟩ : ∃ kn, nd.kids.length = kn := ⟨_, rfl⟩
              rw [hkn] at hc3 HFU
              change Calls _ _ #[_, Value.int .i64 1] _ _ at HFU
              have HST : Hid (ns[i]? = some nd ∧ hs[i]? = some x ∧ nd.kids.length = kn ∧ Nodes wr W.heap.size (.slice (some ⟨gl, 0, none⟩) LA cl) hs (mixN 1 i ns) ∧ Nodes wr w4.heap.size (.slice (some ⟨gm, 0, none⟩) LB cm) hsb' ms ∧ Nodes wr w5.heap.size (.slice (some ⟨gb, 0, none⟩) (1 + LA + LB) cb) hsc bs ∧ W.heap.size ≤ wr.heap.size ∧ gb < wr.heap.size ∧ (mixN 1 i ns)[i]? = some nd) := ⟨hnd, hx, hkn, Ni, Nm', Nb, hz1, hz2, hmx⟩
              clear Ni Nm' Nb hx rx hcx hmx hmx2 hks hrow hnd hml hbd hkn hz1 hz2 HI
              go_wp2_with fail
              refine HFU.mono ?_
              clear HFU
              rintro e w7 ⟨v9, rfl, ho9, b9⟩
              obtain ⟨pv, cv, rfl⟩ := own_form ho9
              have hc7 := (b9.cell (p := ⟨gl, i * 4 + 3, none⟩) hgl).trans hc3
              have hf7 := (b9.frozen (p := ⟨gl, i * 4 + 3, none⟩) hgl).trans hf3
              have HN7 : Hid (∃ hs, Nodes (w7.setCell ⟨gl, i * 4 + 3, none⟩ (.slice pv kn cv)) W.heap.size (.slice (some ⟨gl, 0, none⟩) LA cl) hs (mixN 1 (i + 1) ns) ∧ Nodes (w7.setCell ⟨gl, i * 4 + 3, none⟩ (.slice pv kn cv)) w4.heap.size (.slice (some ⟨gm, 0, none⟩) LB cm) hsb' ms ∧ Nodes (w7.setCell ⟨gl, i * 4 + 3, none⟩ (.slice pv kn cv)) w5.heap.size (.slice (some ⟨gb, 0, none⟩) (1 + LA + LB) cb) hsc bs ∧ W.heap.size ≤ (w7.setCell ⟨gl, i * 4 + 3, none⟩ (.slice pv kn cv)).heap.size ∧ gb < (w7.setCell ⟨gl, i * 4 + 3, none⟩ (.slice pv kn cv)).heap.size) := by
                obtain ⟨h1, h2, h3, h4, h5, h6, h7, h8, h9⟩ := HST.out
                have hl : (nd.kids.map (· + 1)).length = kn := by rw [List.length_map]; exact h3
                have hk := h4.kset i x nd h2 h9 (nd.kids.map (· + 1)) (.slice pv kn cv) (by rw [hl]; exact ho9) b9 h7
                have hms := mix_step 1 i ns nd h1
                have hsz : (w7.setCell ⟨gl, i * 4 + 3, none⟩ (.slice pv kn cv)).heap.size = w7.heap.size := by simp [World.setCell]
                have := b9.size
                exact ⟨_, by rw [← hms]; exact hk, Nodes.apart_set h4 h5 (by simp [Value.ownBlock]; have := H6.out.2.2.2.1; omega) b9 _ _, Nodes.apart_set h4 h6 (by simp [Value.ownBlock]; have := H6.out.2.2.2; omega) b9 _ _, by rw [hsz]; omega, by rw [hsz]; omega⟩
              have HB7 : Hid (Below w.heap.size w (w7.setCell ⟨gl, i * 4 + 3, none⟩ (.slice pv kn cv))) := (HBr.out.trans (b9.mono HBr.out.size)).setCell (p := ⟨gl, i * 4 + 3, none⟩) (by show w.heap.size ≤ gl; exact HGL.out) _
              clear ho9 b9 hc3 hf3
              go_wp2_with fail
              exact ⟨⟨i + 1, by go_num, by omega, HN7.out, HB7.out⟩, by simp only [intOf]; omega⟩
            · have hind : decide ((i : Int) < (LA : Int)) = false := by simp; omega
              have hie : i = LA := by omega
              subst hie
              have HI2 : Hid (∃ hs, Nodes wr W.heap.size (.slice (some ⟨gl, 0, none⟩) i cl) hs (ns.map (shiftN 1)) ∧ Nodes wr w4.heap.size (.slice (some ⟨gm, 0, none⟩) LB cm) hsb' ms ∧ Nodes wr w5.heap.size (.slice (some ⟨gb, 0, none⟩) (1 + i + LB) cb) hsc bs ∧ W.heap.size ≤ wr.heap.size ∧ gb < wr.heap.size) := by
                obtain ⟨hs, h1, h2⟩ := HI.out
                have hm := mix_all 1 ns
                rw [HLA.out] at hm
                rw [hm] at h1
                exact ⟨hs, h1, h2⟩
              clear HI
              go_wp2_with fail
              obtain ⟨hsA, NA0, NM0, NB0, hz01, hz02⟩ := HI2.out
              have HST0 : Hid (Nodes wr W.heap.size (.slice (some ⟨gl, 0, none⟩) i cl) hsA (ns.map (shiftN 1)) ∧ Nodes wr w4.heap.size (.slice (some ⟨gm, 0, none⟩) LB cm) hsb' ms ∧ Nodes wr w5.heap.size (.slice (some ⟨gb, 0, none⟩) (1 + i + LB) cb) hsc bs ∧ w4.heap.size ≤ wr.heap.size ∧ gb < wr.heap.size) := ⟨NA0, NM0, NB0, by have := (owns_lt NM0.row (g := gm) rfl); omega, hz02⟩
              clear NA0 NM0 NB0 hz01 hz02 HI2
              generalize wr = wr0 at *
              go_loopw [150] (fun v150 wr => ∃ (j : Nat), v150 = .int .i64 j ∧ j ≤ LB ∧ Hid (∃ hs, Nodes wr w4.heap.size (.slice (some ⟨gm, 0, none⟩) LB cm) hs (mixN (1 + i) j ms) ∧ Nodes wr W.heap.size (.slice (some ⟨gl, 0, none⟩) i cl) hsA (ns.map (shiftN 1)) ∧ Nodes wr w5.heap.size (.slice (some ⟨gb, 0, none⟩) (1 + i + LB) cb) hsc bs ∧ w4.heap.size ≤ wr.heap.size ∧ gb < wr.heap.size) ∧ Below w.heap.size w wr) (fun v150 _ => LB - (intOf v150).toNat)
              case atStart => exact ⟨0, rfl, by omega, ⟨hsb', by rw [mix_zero]; exact HST0.out.2.1, HST0.out.1, HST0.out.2.2.1, HST0.out.2.2.2.1, HST0.out.2.2.2.2⟩, HBr.out⟩
              case round =>
                obtain ⟨j, rfl, hj, HI, hbr⟩ := hrel
                have HBj : Hid (Below w.heap.size w wr) := hbr
                clear hbr HBr
                have hj0 : (0 : Int) ≤ (j : Int) := by omega
                have hsI : ((1 + i : Nat) : Int) = 1 + (i : Int) := by omega
                by_cases hjn : j < LB
                · have hjnI : (j : Int) < (LB : Int) := by omega
                  have hjnd : decide ((j : Int) < (LB : Int)) = true := by simpa using hjnI
                  obtain ⟨hs, Ni, Nm', Nb, hz1, hz2⟩ := HI.out
                  have hnl : j < ms.length := by rw [HLB.out]; exact hjn
                  obtain ⟨nd, hnd⟩ : ∃ nd, ms[j]? = some nd := ⟨_, List.getElem?_eq_getElem hnl⟩
                  have hml : (mixN (1 + i) j ms).length = LB := by rw [mix_len (1 + i) j ms (by omega)]; exact HLB.out
                  obtain ⟨x, hx, rx, hcx⟩ := Ni.cellsAt hml j hjn
                  have hmx := mix_at (1 + i) j ms nd hnd
                  have hmx2 : (mixN (1 + i) j ms)[j]'(by omega) = nd := by
                    rw [List.getElem?_eq_getElem (by omega)] at hmx
                    exact Option.some.inj hmx
                  rw [hmx2] at rx
                  obtain ⟨pk, ck, hks, hrow⟩ := rx.kidRow
                  have hc3 : wr.cell? ⟨gm, j * 4 + 3, none⟩ = some (.slice pk nd.kids.length ck) := by
                    have := hcx 3 (by decide)
                    rw [this, ← hks]
                    rfl
                  have hf3 : wr.frozen? ⟨gm, j * 4 + 3, none⟩ = false := owns_frozen (by have := Ni.row; rw [Ni.len, hml] at this; exact this) _
                  have hgl : gm < wr.heap.size := (owns_lt Ni.row (g := gm) rfl).2.1
                  have hbd := HKV.out.2 nd (List.mem_of_getElem? hnd)
                  have HFU := further_any pk ck nd.kids (1 + i) wr hrow (fun k hk => by have := hbd.2 k hk; rw [HLB.out] at this; omega) (by omega) (by omega)
                  obtain ⟨kn, hkn⟩ : ∃ kn, nd.kids.length = kn := ⟨_, rfl⟩
                  rw [hkn] at hc3 HFU
                  rw [hsI] at HFU
                  have HST : Hid (ms[j]? = some nd ∧ hs[j]? = some x ∧ nd.kids.length = kn ∧ Nodes wr w4.heap.size (.slice (some ⟨gm, 0, none⟩) LB cm) hs (mixN (1 + i) j ms) ∧ Nodes wr W.heap.size (.slice (some ⟨gl, 0, none⟩) i cl) hsA (ns.map (shiftN 1)) ∧ Nodes wr w5.heap.size (.slice (some ⟨gb, 0, none⟩) (1 + i + LB) cb) hsc bs ∧ w4.heap.size ≤ wr.heap.size ∧ gb < wr.heap.size ∧ (mixN (1 + i) j ms)[j]? = some nd) := ⟨hnd, hx, hkn, Ni, Nm', Nb, hz1, hz2, hmx⟩
                  clear Ni Nm' Nb hx rx hcx hmx hmx2 hks hrow hnd hml hbd hkn hz1 hz2 HI hsI
                  go_wp2_with fail
                  refine HFU.mono ?_
                  clear HFU
                  rintro e w7 ⟨v9, rfl, ho9, b9⟩
                  obtain ⟨pv, cv, rfl⟩ := own_form ho9
                  have hc7 := (b9.cell (p := ⟨gm, j * 4 + 3, none⟩) hgl).trans hc3
                  have hf7 := (b9.frozen (p := ⟨gm, j * 4 + 3, none⟩) hgl).trans hf3
                  have HN7 : Hid (∃ hs, Nodes (w7.setCell ⟨gm, j * 4 + 3, none⟩ (.slice pv kn cv)) w4.heap.size (.slice (some ⟨gm, 0, none⟩) LB cm) hs (mixN (1 + i) (j + 1) ms) ∧ Nodes (w7.setCell ⟨gm, j * 4 + 3, none⟩ (.slice pv kn cv)) W.heap.size (.slice (some ⟨gl, 0, none⟩) i cl) hsA (ns.map (shiftN 1)) ∧ Nodes (w7.setCell ⟨gm, j * 4 + 3, none⟩ (.slice pv kn cv)) w5.heap.size (.slice (some ⟨gb, 0, none⟩) (1 + i + LB) cb) hsc bs ∧ w4.heap.size ≤ (w7.setCell ⟨gm, j * 4 + 3, none⟩ (.slice pv kn cv)).heap.size ∧ gb < (w7.setCell ⟨gm, j * 4 + 3, none⟩ (.slice pv kn cv)).heap.size) := by
                    obtain ⟨h1, h2, h3, h4, h5, h6, h7, h8, h9⟩ := HST.out
                    have hl : (nd.kids.map (· + (1 + i))).length = kn := by rw [List.length_map]; exact h3
                    have hk := h4.kset j x nd h2 h9 (nd.kids.map (· + (1 + i))) (.slice pv kn cv) (by rw [hl]; exact ho9) b9 h7
                    have hms := mix_step (1 + i) j ms nd h1
                    have hsz : (w7.setCell ⟨gm, j * 4 + 3, none⟩ (.slice pv kn cv)).heap.size = w7.heap.size := by simp [World.setCell]
                    have := b9.size
                    exact ⟨_, by rw [← hms]; exact hk, Nodes.apart_set h4 h5 (by simp [Value.ownBlock]; have := H6.out.2.2.2.1; omega) b9 _ _, Nodes.apart_set h4 h6 (by simp [Value.ownBlock]; have := H6.out.2.2.2; omega) b9 _ _, by rw [hsz]; omega, by rw [hsz]; omega⟩
                  have HB7 : Hid (Below w.heap.size w (w7.setCell ⟨gm, j * 4 + 3, none⟩ (.slice pv kn cv))) := (HBj.out.trans (b9.mono HBj.out.size)).setCell (p := ⟨gm, j * 4 + 3, none⟩) (by show w.heap.size ≤ gm; have := HGL.out; have := H6.out.2.2.2.1; omega) _
                  clear ho9 b9 hc3 hf3
                  go_wp2_with fail
                  exact ⟨⟨j + 1, by go_num, by omega, HN7.out, HB7.out⟩, by simp only [intOf]; omega⟩
                · have hjnd : decide ((j : Int) < (LB : Int)) = false := by simp; omega
                  have hje : LB = j := by omega
                  subst hje
                  have HF : Hid (LiesN wr (some ⟨gl, 0, none⟩) (ns.map (shiftN 1)) ∧ LiesN wr (some ⟨gm, 0, none⟩) (ms.map (shiftN (1 + i))) ∧ LiesN wr (some ⟨gb, 0, none⟩) bs) := by
                    obtain ⟨hs, h1, h2, h3, _⟩ := HI.out
                    have hm := mix_all (1 + i) ms
                    rw [HLB.out] at hm
                    rw [hm] at h1
                    refine ⟨?_, ?_, ?_⟩
                    · obtain ⟨p', c', e, hl⟩ := h2.lies
                      simp only [Value.slice.injEq] at e
                      obtain ⟨rfl, _, _⟩ := e
                      exact hl
                    · obtain ⟨p', c', e, hl⟩ := h1.lies
                      simp only [Value.slice.injEq] at e
                      obtain ⟨rfl, _, _⟩ := e
                      exact hl
                    · obtain ⟨p', c', e, hl⟩ := h3.lies
                      simp only [Value.slice.injEq] at e
                      obtain ⟨rfl, _, _⟩ := e
                      exact hl
                  have HL1 : Hid (LiesN wr (some ⟨gb, 4, none⟩) (ns.map (shiftN 1)) ∧ LiesN wr (some ⟨gb, (1 + i) * 4, none⟩) (ms.map (shiftN (1 + i))) ∧ (ns.map (shiftN 1)).length = i ∧ (ms.map (shiftN (1 + i))).length = LB) := by
                    have hln : (ns.map (shiftN 1)).length = i := by rw [List.length_map]; exact HLA.out
                    have hlm : (ms.map (shiftN (1 + i))).length = LB := by rw [List.length_map]; exact HLB.out
                    have h1 := HF.out.2.2.from_ 1 i
                    have h2 := HF.out.2.2.from_ (1 + i) LB
                    have e := H6.out.2.2.2.2.2.1
                    have e1 : (bs.drop 1).take i = ns.map (shiftN 1) := by
                      rw [e, List.drop_succ_cons, List.drop_zero, List.take_append_of_le_length (by rw [hln]; exact Nat.le_refl _), List.take_of_length_le (by rw [hln]; exact Nat.le_refl _)]
                    have e2 : (bs.drop (1 + i)).take LB = ms.map (shiftN (1 + i)) := by
                      rw [e, Nat.add_comm 1 i, List.drop_succ_cons]
                      rw [List.drop_append_of_le_length (by rw [hln]; exact Nat.le_refl _), List.drop_of_length_le (by rw [hln]; exact Nat.le_refl _), List.nil_append, List.take_of_length_le (by rw [List.length_map, HLB.out]; exact Nat.le_refl _)]
                    rw [e1] at h1
                    rw [e2, Nat.zero_add] at h2
                    exact ⟨h1, h2, hln, hlm⟩
                  have hLB1 : 1 ≤ LB := by have := HNE.out.2; rw [HLB.out] at this; exact this
                  have hi1 : 1 ≤ i := by have := HNE.out.1; rw [HLA.out] at this; exact this
                  have hcbb : 1 + i + LB ≤ cb := H6.out.2.2.2.2.2.2.2
                  have hcb1 : ¬ cb = 1 := by omega
                  have hcb2 : ¬ cb = 1 + i := by omega
                  have hcbI : 1 + (i : Int) ≤ (cb : Int) := by omega
                  have hcbJ : 1 + (i : Int) ≤ 1 + (i : Int) + (LB : Int) := by omega
                  have HS1 := same_yes (some ⟨gb, 4, none⟩) (some ⟨gl, 0, none⟩) (cb - 1) cl (ns.map (shiftN 1)) wr HL1.out.1 HF.out.1 (by rw [HL1.out.2.2.1]; omega)
                  rw [HL1.out.2.2.1] at HS1
                  have HS2 := fun k => same_yes (some ⟨gb, (1 + i) * 4, none⟩) (some ⟨gm, 0, none⟩) (cb - (1 + i)) cm (ms.map (shiftN (1 + i))) (wr.drewN k) (HL1.out.2.1.keep (below_drewN wr k)) (HF.out.2.1.keep (below_drewN wr k)) (by rw [HL1.out.2.2.2]; omega)
                  rw [HL1.out.2.2.2] at HS2
                  clear HI HST0 hcbb
                  go_wp2_with fail
                  refine HS1.mono ?_
                  rintro e w8 ⟨rfl, k8, rfl⟩
                  clear HS1
                  go_wp2_with fail
                  refine (HS2 k8).mono ?_
                  rintro e w9 ⟨rfl, k9, rfl⟩
                  clear HS2
                  go_wp2_with fail
                  go_ret
                  exact ⟨rfl, HBj.out.trans ((below_drewN wr _).mono HBj.out.size)⟩
        · have := HPJ.out
          rw [p3] at this
          cases this
      · have HB5 : Hid (Below w.heap.size w w5) := HB4.out.trans (b5.mono HB4.out.size)
        have hk : k = 14 ∨ k = 3 := by
          rcases HPB.out with ⟨h1, _⟩ | h1 | h1
          · rw [p2] at h1; cases h1
          · rw [p2] at h1; cases h1; exact .inl rfl
          · rw [p2] at h1; cases h1; exact .inr rfl
        clear b5 p2 kp kl
        rcases hk with rfl | rfl
        · go_wp2_with fail
          go_ret
          exact ⟨rfl, HB5.out⟩
        · go_wp2_with fail
          go_ret
          exact ⟨rfl, HB5.out⟩
    · have HB4 : Hid (Below w.heap.size w w4) := HBW.out.trans (b4.mono HBW.out.size)
      have hk : k = 14 ∨ k = 3 := by
        rcases HPA.out with ⟨h1, _⟩ | h1 | h1
        · rw [p1] at h1; cases h1
        · rw [p1] at h1; cases h1; exact .inl rfl
        · rw [p1] at h1; cases h1; exact .inr rfl
      clear b4 p1 kp kl
      rcases hk with rfl | rfl
      · go_wp2_with fail
        refine (parse_txtN w4 lb nb HNA.out.2 (by omega) (HT.out.below HB4.out)).mono ?_
        rintro e w5 ⟨b5, (⟨ms, mv, hsb', p2, rfl, N5, l5⟩ | ⟨k, p2, kp, kl, rfl⟩)⟩
        · have HB5 : Hid (Below w.heap.size w w5) := HB4.out.trans (b5.mono HB4.out.size)
          clear b5 N5
          go_wp2_with fail
          go_ret
          exact ⟨rfl, HB5.out⟩
        · have HB5 : Hid (Below w.heap.size w w5) := HB4.out.trans (b5.mono HB4.out.size)
          have hk : k = 14 ∨ k = 3 := by
            rcases HPB.out with ⟨h1, _⟩ | h1 | h1
            · rw [p2] at h1; cases h1
            · rw [p2] at h1; cases h1; exact .inl rfl
            · rw [p2] at h1; cases h1; exact .inr rfl
          clear b5 p2 kp kl
          rcases hk with rfl | rfl
          · go_wp2_with fail
            go_ret
            exact ⟨rfl, HB5.out⟩
          · go_wp2_with fail
            go_ret
            exact ⟨rfl, HB5.out⟩
      · go_wp2_with fail
        refine (parse_txtN w4 lb nb HNA.out.2 (by omega) (HT.out.below HB4.out)).mono ?_
        rintro e w5 ⟨b5, (⟨ms, mv, hsb', p2, rfl, N5, l5⟩ | ⟨k, p2, kp, kl, rfl⟩)⟩
        · have HB5 : Hid (Below w.heap.size w w5) := HB4.out.trans (b5.mono HB4.out.size)
          clear b5 N5
          go_wp2_with fail
          go_ret
          exact ⟨rfl, HB5.out⟩
        · have HB5 : Hid (Below w.heap.size w w5) := HB4.out.trans (b5.mono HB4.out.size)
          have hk : k = 14 ∨ k = 3 := by
            rcases HPB.out with ⟨h1, _⟩ | h1 | h1
            · rw [p2] at h1; cases h1
            · rw [p2] at h1; cases h1; exact .inl rfl
            · rw [p2] at h1; cases h1; exact .inr rfl
          clear b5 p2 kp kl
          rcases hk with rfl | rfl
          · go_wp2_with fail
            go_ret
            exact ⟨rfl, HB5.out⟩
          · go_wp2_with fail
            go_ret
            exact ⟨rfl, HB5.out⟩
theorem JsonsJoins_walk (w : World) (x0 y0 u0 : Value) (t0 : Vt) (w0 : VOk w 4 [x0, y0, u0] t0) (x1 y1 u1 : Value) (t1 : Vt) (w1 : VOk w 4 [x1, y1, u1] t1) (hL : laidMet Tryd.prog Rows.jsonsJoinsRow.laid w) :
    Calls Tryd.prog 4 #[.agg #[x0, y0, u0], .agg #[x1, y1, u1]] w fun e w' => e = .returned (.bool true) ∧ Below w.heap.size w w' := by
  obtain ⟨p, c, hcs, _⟩ := w0.head
  obtain ⟨rfl, rfl, rfl⟩ : x0 = .int .u8 t0.kind ∧ y0 = .string ⟨t0.text.toArray⟩ ∧ u0 = .slice p t0.kids.length c := by simpa using hcs
  obtain ⟨p2, c2, hcs2, _⟩ := w1.head
  obtain ⟨rfl, rfl, rfl⟩ : x1 = .int .u8 t1.kind ∧ y1 = .string ⟨t1.text.toArray⟩ ∧ u1 = .slice p2 t1.kids.length c2 := by simpa using hcs2
  exact JsonsJoins_at t0 t1 p p2 c c2 w w0 w1 (tabs_laid hL)
end Go.Proofs.YtbobgebhdafciabDoor
