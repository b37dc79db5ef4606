/-
  Contract of (*sha.Hash).putBlocks.
-/
import Derived.Test.YtclejcjbnmgaiaaShaX
import Derived.Deep.RegionHeld3
namespace Go.Proofs.Ytclejcjbnmgaiaa
open Go.RowKit
set_option linter.unusedVariables false
set_option linter.unusedSimpArgs false

attribute [local go_sem ↓] keep_l8 keep_l64 keep_s8

theorem Try.sizeB : (Try.prog.info? 5).map (·.size) = some 1 := by kernel_rfl

theorem Row.range {e : TypeId} {k : IntKind} {w : World} {g : Nat} {xs : List Int} (h : Row e k w g xs) : w.rangeAt g 0 (xs.map (Value.int k)) := fun j v hv => by
  have hj : j < xs.length := by have := (List.getElem?_eq_some_iff.1 hv).1; rw [List.length_map] at this; exact this
  rw [Nat.zero_add, h.cell j hj, ← hv]
  simp [List.getD, hj]
/-- b[m:]. -/
theorem lies_cut (b off len cap m : Nat) (bs : List Int) (hlc : len ≤ cap) (hm : m ≤ len) : ∃ A : Addr, (if cap = m then some (⟨b, off, none⟩ : Addr) else some ⟨b, off + m, none⟩) = some A ∧ Hid (∀ wx, Lies .u8 wx (some ⟨b, off, none⟩) len bs → Lies .u8 wx (some A) (len - m) (bs.drop m) ∧ A.block = b ∧ A.spot = none) := by
  by_cases h : cap = m
  · refine ⟨⟨b, off, none⟩, by rw [if_pos h], fun wx hl => ⟨⟨by rw [List.length_drop, hl.1], .inl (by omega)⟩, rfl, rfl⟩⟩
  · refine ⟨⟨b, off + m, none⟩, by rw [if_neg h], fun wx hl => ⟨⟨by rw [List.length_drop, hl.1], ?_⟩, rfl, rfl⟩⟩
    by_cases h0 : len - m = 0
    · exact .inl h0
    · obtain ⟨b', off', e, hlt, hc⟩ := hl.at (by omega)
      cases e
      refine .inr ⟨b, off + m, rfl, hlt, fun i hi => ?_⟩
      rw [Nat.add_assoc, hc (m + i) (by omega)]
      simp [List.getD, List.getElem?_drop]

/-- What holds ahead of each full block that is still to come: so many bytes are left. -/
def PInv (w : World) (g g6 s : Nat) (T rs1 : List Int) (k : Nat) (vb : Value) (wr : World) : Prop :=
  ∃ (D : Nat) (A : Option Addr) (cp : Nat) (ws' : List Int), vb = .slice A k cp ∧ HRow wr g s ws' rs1 ∧ ws' = hb T D ∧ Row 55 .u32 wr g6 KS ∧ Lies .u8 wr A k (T.drop (64 * D)) ∧ (∀ b off s, A = some ⟨b, off, s⟩ → b ≠ g) ∧ k ≤ cp ∧ cp ≤ 2 ^ 63 - 1 ∧ But g w wr ∧ 64 * D ≤ T.length ∧ g6 ≠ g

set_option maxRecDepth 100000 in
set_option maxHeartbeats 8000000 in
/-- putBlocks. -/
theorem putBlocks_any (g : Nat) (all bs ws rs : List Int) (s r : Nat) (ao : Option Addr) (len cap : Nat) (w : World) (hs : all.length = s) (hr : s % 64 = r) (h : HRow w g s ws rs) (hh : Holds all ws rs) (hd : Dg 256 bs)
    (hl : Lies .u8 w ao len bs) (hne : ∀ b off s, ao = some ⟨b, off, s⟩ → b ≠ g) (hlc : len ≤ cap) (hcm : cap ≤ maxLen) (hnn : ao = none → cap = 0) (hfull : 64 ≤ r + len) (hsm : s + len ≤ 1000000000000000) :
    Calls Try.prog 17 #[.pointer (some ⟨g, 0, none⟩), .int .i64 r, .slice ao len cap] w fun e w' => (∃ v, e = .returned v) ∧ ∃ ws' rs', HRow w' g s ws' rs' ∧ Holds (all ++ bs) ws' rs' ∧ But g w w' := by
  obtain ⟨T, hT⟩ : ∃ T, all ++ bs = T := ⟨_, rfl⟩
  rw [hT]
  have HT : Hid (all ++ bs = T) := hT
  clear hT
  have hsz := h.size
  have HW : Hid (HRow w g s ws rs ∧ Holds all ws rs ∧ Dg 256 bs ∧ Lies .u8 w ao len bs ∧ (∀ b off s, ao = some ⟨b, off, s⟩ → b ≠ g) ∧ all.length = s ∧ s % 64 = r) := ⟨h, hh, hd, hl, hne, hs, hr⟩
  unfold maxLen at hcm
  have hr64 : r < 64 := by omega
  have HBEG := beginning_any
  have HCON := constants_any
  by_cases hlt : s < 64
  · have hltI : ((s : Int) < 64) := by omega
    clear h hh hd hl hne hs
    go_enter Try.func17, Try.ntmps17
    go_wp2_with (first
      | (go_at_call 24; refine (HBEG _).mono ?_; rintro e w1 ⟨rfl, hb1⟩; have hr1 : HRow w1 g s ws rs := HW.out.1.old hb1 HW.out.1.lt)
      | (refine wpList_store_words (by with_reducible rfl) 44 _ _ (by with_reducible rfl) Try.sizeW8 g (s : Int) ws rs HS (by rfl) (by rfl) rfl hr1 ?_; intro w2 hr2 hb2 hs2))
    have HA : Hid (HRow w2 g s HS rs ∧ HS = hb T (s / 64) ∧ But g w w2) := ⟨hr2, by rw [show s / 64 = 0 by omega]; rfl, (But.ofBelow hb1).trans hb2⟩
    clear hb1 hr1 hr2 hb2 hs2 hsz
    generalize HS = ws1 at *
    refine (HCON _).mono ?_
    rintro e wB ⟨rfl, hbB⟩
    have HB : Hid (HRow wB g s ws1 rs ∧ ws1 = hb T (s / 64) ∧ But g w wB) := by
      obtain ⟨a1, a2, a3⟩ := HA.out
      exact ⟨a1.old hbB a1.lt, a2, a3.trans (But.ofBelow hbB)⟩
    clear HA hbB HCON HBEG
    by_cases hr0 : 0 < r
    · have hr0I : (0 : Int) < (r : Int) := by omega
      obtain ⟨m, hm⟩ : ∃ m, 64 - r = m := ⟨_, rfl⟩
      have hSR := slice_rest g r hr64
      rw [hm] at hSR
      obtain ⟨b, off, rfl, hblk, _⟩ := HW.out.2.2.2.1.at (by omega)
      have hlies : Lies .u8 wB (some ⟨b, off, none⟩) len bs := HB.out.2.2.lies HW.out.2.2.2.1 HW.out.2.2.2.2.1
      obtain ⟨A, hA, HAD⟩ : ∃ A : Addr, (if cap = m then some (⟨b, off, none⟩ : Addr) else some ⟨b, off + m, none⟩) = some A ∧ Hid (∀ wx, Lies .u8 wx (some ⟨b, off, none⟩) len bs → Lies .u8 wx (some A) (len - m) (bs.drop m) ∧ A.block = b ∧ A.spot = none) := lies_cut b off len cap m bs hlc (by omega)
      have hmr : r + m = 64 := by omega
      have hml : m ≤ len := by omega
      have hmlI : (m : Int) ≤ (len : Int) := by omega
      clear hm
      go_wp2_with (first
        | ((with_reducible show wpList _ _ _ (Oper.mk _ (Op.alloc _) _ _ _ _ :: _) _ _); refine wpList_alloc_row (w := wB) (by with_reducible rfl) 55 (by with_reducible rfl) .u32 64 Try.infoW64 ?_; intro wC hrC hbC hsC)
        | ((with_reducible show wpList _ _ _ (Oper.mk _ (Op.store _ _ _) _ _ _ _ :: _) _ _); refine wpList_store_nums (w := wC) (by with_reducible rfl) 55 _ _ (by with_reducible rfl) .u32 55 64 Try.sizeW64 _ (List.replicate 64 0) KS (by rfl) (by rfl) hrC (by simp) rfl ?_; intro wD hrD hbD hsD hoD; have hhD : HRow wD g s ws1 rs := HB.out.1.old (hbC.trans hbD) HB.out.1.lt; have hlD : Lies .u8 wD (some ⟨b, off, none⟩) len bs := hlies.old (hbC.trans hbD))
        | ((with_reducible show wpList _ _ _ (Oper.mk _ (Op.call { callee := .builtin .copy, args := _, argTypes := _ }) _ _ _ _ :: _) _ _); refine wpList_copy_rest (w := wD) (by with_reducible rfl) _ _ 22 22 (by with_reducible rfl) 5 Try.underlying22 Try.sizeB g r (some ⟨b, off, none⟩) _ _ _ _ (by rfl) (by rfl) (s : Int) ws1 rs bs hhD hlD (by omega) m (by omega) ?_; intro wE hhE hbE hsE))
      generalize hg6 : wB.heap.size = g6 at *
      obtain ⟨rs1, hrs1⟩ : ∃ rs1, rs.take r ++ bs.take m ++ rs.drop (r + m) = rs1 := ⟨_, rfl⟩
      rw [hrs1] at hhE
      have hKE : Row 55 .u32 wE g6 KS := hbE.row hrD (by have := HB.out.1.lt; omega)
      have hLE : Lies .u8 wE (some A) (len - m) (bs.drop m) := (HAD.out wE (hbE.lies hlD HW.out.2.2.2.2.1)).1
      have HT1 : Hid (rs1 = (T.drop (64 * (s / 64))).take 64 ∧ bs.drop m = T.drop (64 * (s / 64 + 1)) ∧ A.block = b ∧ A.spot = none ∧ Dg 256 rs1) := by
        obtain ⟨a1, a2, a3, a4, a5, a6, a7⟩ := HW.out
        have e := full_block a2 a1.lr r (by rw [a6]; exact a7) m hmr (by rw [a4.len]; exact hml) hr0
        rw [hrs1, a6, HT.out] at e
        have e2 := drop_after (all := all) (bs := bs) r (by rw [a6]; exact a7) m hmr
        rw [a6, HT.out] at e2
        refine ⟨e, e2.symm, (HAD.out wE (hbE.lies hlD a5)).2.1, (HAD.out wE (hbE.lies hlD a5)).2.2, ?_⟩
        rw [e, ← HT.out]
        exact ((a2.good.append a3).drop _).take _
      have HE : Hid (HRow wE g s ws1 rs1 ∧ Row 55 .u32 wE g6 KS ∧ Lies .u8 wE (some A) (len - m) (bs.drop m) ∧ But g w wE ∧ g ≠ g6) := ⟨hhE, hKE, hLE, HB.out.2.2.trans ((But.ofBelow ((hbC.trans hbD).mono (by omega))).trans hbE), by have := HB.out.1.lt; omega⟩
      clear hrC hbC hsC hrD hbD hsD hoD hhD hlD hhE hbE hsE hKE hLE hrs1 hSR hlies
      have hld : (HLD 44 (.pointer (some ⟨g, 1, none⟩))).run Try.prog wE.drew = .ok (ag .u32 ws1) wE.drew := (HE.out.1.drewN 1).lda
      have hldk : (HLD 55 (.pointer (some ⟨g6, 0, none⟩))).run Try.prog wE.drew = .ok (ag .u32 KS) wE.drew := (HE.out.2.1.drewN 1).lda rfl
      have hSA := slice_all g
      have HMX := mix_any ws1 KS g 9 64 rs1 wE.drew HE.out.1.lw rfl ((HE.out.1.drewN 1).rest) HT1.out.2.2.2.2 (by omega) (by unfold maxLen; omega)
      go_region_with (first | (go_at_call 26; refine HMX.mono ?_; rintro e wF ⟨rfl, hbF⟩; have hst := ((HE.out.1.drewN 1).old hbF (HE.out.1.drewN 1).lt).sta (mixS KS ws1 rs1) rfl))
      all_goals
        have HI : Hid (PInv w g g6 s T rs1 (len - m) (.slice (some A) (len - m) (cap - m)) (wF.setRow g (HC s (mixS KS ws1 rs1) rs1).toArray)) := by
          obtain ⟨a1, a2, a3, a4, a5⟩ := HE.out
          obtain ⟨b1, b2, b3, b4, b5⟩ := HT1.out
          have hF : HRow wF g s ws1 rs1 := (a1.drewN 1).old hbF (a1.drewN 1).lt
          have hbW : But g w wF := a4.trans ((But.drewN g wE 1).trans (But.ofBelow hbF))
          have hbS := But.setRow g wF (HC s (mixS KS ws1 rs1) rs1).toArray
          refine ⟨s / 64 + 1, some A, cap - m, mixS KS ws1 rs1, rfl, hF.setWords _ rfl, ?_, hbS.row ((a2.drewN 1).below hbF (a2.drewN 1).lt) (fun e => a5 e.symm), ?_, ?_, by omega, by omega, hbW.trans hbS, ?_, fun e => a5 e.symm⟩
          · rw [HB.out.2.1, b1]; rfl
          · rw [← b2]; exact hbS.lies ((a3.old (Drew.below ⟨1, rfl⟩ _)).old hbF) (fun b0 off0 s0 e => by cases e; simp only at b3; subst b3; exact HW.out.2.2.2.2.1 _ _ _ rfl)
          · intro b0 off0 s0 e
            cases e
            simp only at b3
            subst b3
            exact HW.out.2.2.2.2.1 _ _ _ rfl
          · have := HW.out.2.2.2.2.2.1
            have := HW.out.2.2.2.1.len
            rw [← HT.out]
            simp; omega
        have HTD : Hid (Dg 256 T ∧ T.length ≤ 1000000000000000 ∧ Dg 256 rs1) := by rw [← HT.out]; exact ⟨HW.out.2.1.good.append HW.out.2.2.1, by have := HW.out.2.2.2.2.2.1; have := HW.out.2.2.2.1.len; simp; omega, HT1.out.2.2.2.2⟩
        clear HE HT1 HMX hld hldk hbF hst HB HW HAD hA
        go_wp2
        go_loopg [2] (len - m) (fun k vb wr => PInv w g g6 s T rs1 k vb wr)
        case atStart => exact HI.out
        case round =>
          obtain ⟨D, A1, cp1, ws2, rfl, hh2, hw2, hk2, hl2, hne2, hkc, hcp1, hbut, hDT, hg6n⟩ := hrel
          clear HI
          by_cases hk64 : 64 ≤ gk
          · obtain ⟨b1, off1, rfl, hblk1, _⟩ := hl2.at (by omega)
            obtain ⟨A2, hA2, HAD2⟩ := lies_cut b1 off1 gk cp1 64 (T.drop (64 * D)) hkc hk64
            have hldw : (HLD 44 (.pointer (some ⟨g, 1, none⟩))).run Try.prog wr.drew = .ok (ag .u32 ws2) wr.drew := (hh2.drewN 1).lda
            have hldk : (HLD 55 (.pointer (some ⟨g6, 0, none⟩))).run Try.prog wr.drew = .ok (ag .u32 KS) wr.drew := (hk2.drewN 1).lda rfl
            have HMX := mix_any ws2 KS b1 off1 64 ((T.drop (64 * D)).take 64) wr.drew hh2.lw rfl ((hl2.take 64 hk64).old (Drew.below ⟨1, rfl⟩ _)) ((HTD.out.1.drop _).take _) (by omega) (by unfold maxLen; omega)
            have HP : Hid (HRow wr g s ws2 rs1 ∧ mixS KS ws2 ((T.drop (64 * D)).take 64) = hb T (D + 1) ∧ Row 55 .u32 wr g6 KS ∧ Lies .u8 wr (some ⟨b1, off1, none⟩) gk (T.drop (64 * D)) ∧ b1 ≠ g ∧ But g w wr ∧ 64 * D + gk = T.length ∧ g6 ≠ g) :=
              ⟨hh2, by rw [hw2]; rfl, hk2, hl2, hne2 b1 off1 none rfl, hbut, by have := hl2.len; simp at this; omega, hg6n⟩
            have hk64I : (64 : Int) ≤ (gk : Int) := by omega
            have hc64I : (64 : Int) ≤ (cp1 : Int) := by omega
            clear hh2 hw2 hk2 hl2 hne2 hbut hDT
            generalize mixS KS ws2 ((T.drop (64 * D)).take 64) = wsN at *
            go_wp2
            go_region_with (first | (go_at_call 26; refine HMX.mono ?_; rintro e wG ⟨rfl, hbG⟩; have hst := ((HP.out.1.drewN 1).old hbG (HP.out.1.drewN 1).lt).sta wsN (by rw [HP.out.2.1]; rfl)))
            all_goals
              have HQ : Hid (PInv w g g6 s T rs1 (gk - 64) (.slice (some A2) (gk - 64) (cp1 - 64)) (wG.setRow g (HC s wsN rs1).toArray)) := by
                obtain ⟨a1, a2, a3, a4, a5, a6, a7, a8⟩ := HP.out
                have hG : HRow wG g s ws2 rs1 := (a1.drewN 1).old hbG (a1.drewN 1).lt
                have hbW : But g w wG := a6.trans ((But.drewN g wr 1).trans (But.ofBelow hbG))
                have hbS := But.setRow g wG (HC s wsN rs1).toArray
                have hlG : Lies .u8 wG (some ⟨b1, off1, none⟩) gk (T.drop (64 * D)) := (a4.old (Drew.below ⟨1, rfl⟩ _)).old hbG
                obtain ⟨c1, c2, c3⟩ := HAD2.out _ (hbS.lies hlG (fun b0 off0 s0 e => by cases e; exact a5))
                refine ⟨D + 1, some A2, cp1 - 64, wsN, rfl, hG.setWords _ (by rw [a2]; rfl), a2, hbS.row ((a3.drewN 1).below hbG (a3.drewN 1).lt) a8, ?_, ?_, by omega, by omega, hbW.trans hbS, by omega, a8⟩
                · rw [List.drop_drop] at c1
                  rw [show 64 * (D + 1) = 64 * D + 64 by omega]
                  exact c1
                · intro b0 off0 s0 e
                  cases e
                  simp only at c2
                  subst c2
                  exact a5
              clear HP HMX hldw hldk hbG hst HAD2
              go_wp2
              go_roundg (gk - 64)
              case measure => omega
              case rel => exact HQ.out
          · have HFIN : Hid (∀ w', HRow w' g s ws2 (rs1.take 0 ++ (T.drop (64 * D)).take gk ++ rs1.drop (0 + gk)) → But g wr w' → ∃ ws' rs', HRow w' g s ws' rs' ∧ Holds T ws' rs' ∧ But g w w') := fun w' h1 h2 =>
              ⟨_, _, h1, holds_done D gk hw2 hl2.len (by omega) hDT HTD.out.1 HTD.out.2.2 HTD.out.2.1, hbut.trans h2⟩
            have HH : Hid (HRow wr g s ws2 rs1 ∧ Lies .u8 wr A1 gk (T.drop (64 * D))) := ⟨hh2, hl2⟩
            have hk64I : ¬ ((64 : Int) ≤ (gk : Int)) := by omega
            clear hh2 hw2 hk2 hl2 hne2 hbut hDT
            generalize T.drop (64 * D) = tl at *
            go_wp2_with ((with_reducible show wpList _ _ _ (Oper.mk _ (Op.call { callee := .builtin .copy, args := _, argTypes := _ }) _ _ _ _ :: _) _ _); refine wpList_copy_rest (w := wr) (by with_reducible rfl) _ _ 22 22 (by with_reducible rfl) 5 Try.underlying22 Try.sizeB g 0 A1 _ _ _ _ (by rfl) (by rfl) (s : Int) ws2 rs1 tl HH.out.1 HH.out.2 (by omega) gk (by omega) ?_; intro wZ hhZ hbZ hsZ)
            exact ⟨rfl, _, results_none rfl _ _, ⟨_, rfl⟩, HFIN.out _ hhZ hbZ⟩
    · have hr0I : ¬ ((0 : Int) < (r : Int)) := by omega
      have hSA := slice_all g
      go_wp2_with (first
        | ((with_reducible show wpList _ _ _ (Oper.mk _ (Op.alloc _) _ _ _ _ :: _) _ _); refine wpList_alloc_row (w := wB) (by with_reducible rfl) 55 (by with_reducible rfl) .u32 64 Try.infoW64 ?_; intro wC hrC hbC hsC)
        | ((with_reducible show wpList _ _ _ (Oper.mk _ (Op.store _ _ _) _ _ _ _ :: _) _ _); refine wpList_store_nums (w := wC) (by with_reducible rfl) 55 _ _ (by with_reducible rfl) .u32 55 64 Try.sizeW64 _ (List.replicate 64 0) KS (by rfl) (by rfl) hrC (by simp) rfl ?_; intro wD hrD hbD hsD hoD))
      generalize hg6 : wB.heap.size = g6 at *
      have HI : Hid (PInv w g g6 s T rs len (.slice ao len cap) wD) := by
        obtain ⟨a1, a2, a3⟩ := HB.out
        obtain ⟨b1, b2, b3, b4, b5, b6, b7⟩ := HW.out
        have hbBD : Below g6 wB wD := hbC.trans hbD
        have hlt := a1.lt
        refine ⟨s / 64, ao, cap, ws1, rfl, a1.old hbBD (by omega), a2, hrD, ?_, b5, hlc, hcm, a3.trans (But.ofBelow (hbBD.mono (by omega))), ?_, by omega⟩
        · have e := drop_none (all := all) (bs := bs) (by rw [b6]; omega)
          rw [b6, HT.out] at e
          rw [e]
          exact (a3.lies b4 b5).old (hbBD.mono (by omega))
        · rw [← HT.out]; have := b4.len; simp; omega
      have HTD : Hid (Dg 256 T ∧ T.length ≤ 1000000000000000 ∧ Dg 256 rs) := by rw [← HT.out]; exact ⟨HW.out.2.1.good.append HW.out.2.2.1, by have := HW.out.2.2.2.2.2.1; have := HW.out.2.2.2.1.len; simp; omega, HW.out.2.1.bytes⟩
      clear HB HW hrC hbC hsC hrD hbD hsD hoD hg6
      generalize rs = rs1 at *
      go_wp2
      go_loopg [2] len (fun k vb wr => PInv w g g6 s T rs1 k vb wr)
      case atStart => exact HI.out
      case round =>
        obtain ⟨D, A1, cp1, ws2, rfl, hh2, hw2, hk2, hl2, hne2, hkc, hcp1, hbut, hDT, hg6n⟩ := hrel
        clear HI
        by_cases hk64 : 64 ≤ gk
        · obtain ⟨b1, off1, rfl, hblk1, _⟩ := hl2.at (by omega)
          obtain ⟨A2, hA2, HAD2⟩ := lies_cut b1 off1 gk cp1 64 (T.drop (64 * D)) hkc hk64
          have hldw : (HLD 44 (.pointer (some ⟨g, 1, none⟩))).run Try.prog wr.drew = .ok (ag .u32 ws2) wr.drew := (hh2.drewN 1).lda
          have hldk : (HLD 55 (.pointer (some ⟨g6, 0, none⟩))).run Try.prog wr.drew = .ok (ag .u32 KS) wr.drew := (hk2.drewN 1).lda rfl
          have HMX := mix_any ws2 KS b1 off1 64 ((T.drop (64 * D)).take 64) wr.drew hh2.lw rfl ((hl2.take 64 hk64).old (Drew.below ⟨1, rfl⟩ _)) ((HTD.out.1.drop _).take _) (by omega) (by unfold maxLen; omega)
          have HP : Hid (HRow wr g s ws2 rs1 ∧ mixS KS ws2 ((T.drop (64 * D)).take 64) = hb T (D + 1) ∧ Row 55 .u32 wr g6 KS ∧ Lies .u8 wr (some ⟨b1, off1, none⟩) gk (T.drop (64 * D)) ∧ b1 ≠ g ∧ But g w wr ∧ 64 * D + gk = T.length ∧ g6 ≠ g) :=
            ⟨hh2, by rw [hw2]; rfl, hk2, hl2, hne2 b1 off1 none rfl, hbut, by have := hl2.len; simp at this; omega, hg6n⟩
          have hk64I : (64 : Int) ≤ (gk : Int) := by omega
          have hc64I : (64 : Int) ≤ (cp1 : Int) := by omega
          clear hh2 hw2 hk2 hl2 hne2 hbut hDT
          generalize mixS KS ws2 ((T.drop (64 * D)).take 64) = wsN at *
          go_wp2
          go_region_with (first | (go_at_call 26; refine HMX.mono ?_; rintro e wG ⟨rfl, hbG⟩; have hst := ((HP.out.1.drewN 1).old hbG (HP.out.1.drewN 1).lt).sta wsN (by rw [HP.out.2.1]; rfl)))
          all_goals
            have HQ : Hid (PInv w g g6 s T rs1 (gk - 64) (.slice (some A2) (gk - 64) (cp1 - 64)) (wG.setRow g (HC s wsN rs1).toArray)) := by
              obtain ⟨a1, a2, a3, a4, a5, a6, a7, a8⟩ := HP.out
              have hG : HRow wG g s ws2 rs1 := (a1.drewN 1).old hbG (a1.drewN 1).lt
              have hbW : But g w wG := a6.trans ((But.drewN g wr 1).trans (But.ofBelow hbG))
              have hbS := But.setRow g wG (HC s wsN rs1).toArray
              have hlG : Lies .u8 wG (some ⟨b1, off1, none⟩) gk (T.drop (64 * D)) := (a4.old (Drew.below ⟨1, rfl⟩ _)).old hbG
              obtain ⟨c1, c2, c3⟩ := HAD2.out _ (hbS.lies hlG (fun b0 off0 s0 e => by cases e; exact a5))
              refine ⟨D + 1, some A2, cp1 - 64, wsN, rfl, hG.setWords _ (by rw [a2]; rfl), a2, hbS.row ((a3.drewN 1).below hbG (a3.drewN 1).lt) a8, ?_, ?_, by omega, by omega, hbW.trans hbS, by omega, a8⟩
              · rw [List.drop_drop] at c1
                rw [show 64 * (D + 1) = 64 * D + 64 by omega]
                exact c1
              · intro b0 off0 s0 e
                cases e
                simp only at c2
                subst c2
                exact a5
            clear HP HMX hldw hldk hbG hst HAD2
            go_wp2
            go_roundg (gk - 64)
            case measure => omega
            case rel => exact HQ.out
        · have HFIN : Hid (∀ w', HRow w' g s ws2 (rs1.take 0 ++ (T.drop (64 * D)).take gk ++ rs1.drop (0 + gk)) → But g wr w' → ∃ ws' rs', HRow w' g s ws' rs' ∧ Holds T ws' rs' ∧ But g w w') := fun w' h1 h2 =>
            ⟨_, _, h1, holds_done D gk hw2 hl2.len (by omega) hDT HTD.out.1 HTD.out.2.2 HTD.out.2.1, hbut.trans h2⟩
          have HH : Hid (HRow wr g s ws2 rs1 ∧ Lies .u8 wr A1 gk (T.drop (64 * D))) := ⟨hh2, hl2⟩
          have hk64I : ¬ ((64 : Int) ≤ (gk : Int)) := by omega
          clear hh2 hw2 hk2 hl2 hne2 hbut hDT
          generalize T.drop (64 * D) = tl at *
          go_wp2_with ((with_reducible show wpList _ _ _ (Oper.mk _ (Op.call { callee := .builtin .copy, args := _, argTypes := _ }) _ _ _ _ :: _) _ _); refine wpList_copy_rest (w := wr) (by with_reducible rfl) _ _ 22 22 (by with_reducible rfl) 5 Try.underlying22 Try.sizeB g 0 A1 _ _ _ _ (by rfl) (by rfl) (s : Int) ws2 rs1 tl HH.out.1 HH.out.2 (by omega) gk (by omega) ?_; intro wZ hhZ hbZ hsZ)
          exact ⟨rfl, _, results_none rfl _ _, ⟨_, rfl⟩, HFIN.out _ hhZ hbZ⟩
  · have hltI : ¬ ((s : Int) < 64) := by omega
    have HA : Hid (HRow w g s ws rs ∧ ws = hb T (s / 64) ∧ But g w w) := by
      refine ⟨h, ?_, But.refl _ _⟩
      rw [← HT.out, hb_append _ _ _ (by omega)]
      have := hh.words (by omega)
      rw [hs] at this
      exact this
    clear h hh hd hl hne hs
    go_enter Try.func17, Try.ntmps17
    go_wp2_with fail
    clear hsz
    generalize hws : ws = ws1 at HA
    refine (HCON _).mono ?_
    rintro e wB ⟨rfl, hbB⟩
    have HB : Hid (HRow wB g s ws1 rs ∧ ws1 = hb T (s / 64) ∧ But g w wB) := by
      obtain ⟨a1, a2, a3⟩ := HA.out
      exact ⟨a1.old hbB a1.lt, a2, a3.trans (But.ofBelow hbB)⟩
    clear HA hbB HCON HBEG
    by_cases hr0 : 0 < r
    · have hr0I : (0 : Int) < (r : Int) := by omega
      obtain ⟨m, hm⟩ : ∃ m, 64 - r = m := ⟨_, rfl⟩
      have hSR := slice_rest g r hr64
      rw [hm] at hSR
      obtain ⟨b, off, rfl, hblk, _⟩ := HW.out.2.2.2.1.at (by omega)
      have hlies : Lies .u8 wB (some ⟨b, off, none⟩) len bs := HB.out.2.2.lies HW.out.2.2.2.1 HW.out.2.2.2.2.1
      obtain ⟨A, hA, HAD⟩ : ∃ A : Addr, (if cap = m then some (⟨b, off, none⟩ : Addr) else some ⟨b, off + m, none⟩) = some A ∧ Hid (∀ wx, Lies .u8 wx (some ⟨b, off, none⟩) len bs → Lies .u8 wx (some A) (len - m) (bs.drop m) ∧ A.block = b ∧ A.spot = none) := lies_cut b off len cap m bs hlc (by omega)
      have hmr : r + m = 64 := by omega
      have hml : m ≤ len := by omega
      have hmlI : (m : Int) ≤ (len : Int) := by omega
      clear hm
      go_wp2_with (first
        | ((with_reducible show wpList _ _ _ (Oper.mk _ (Op.alloc _) _ _ _ _ :: _) _ _); refine wpList_alloc_row (w := wB) (by with_reducible rfl) 55 (by with_reducible rfl) .u32 64 Try.infoW64 ?_; intro wC hrC hbC hsC)
        | ((with_reducible show wpList _ _ _ (Oper.mk _ (Op.store _ _ _) _ _ _ _ :: _) _ _); refine wpList_store_nums (w := wC) (by with_reducible rfl) 55 _ _ (by with_reducible rfl) .u32 55 64 Try.sizeW64 _ (List.replicate 64 0) KS (by rfl) (by rfl) hrC (by simp) rfl ?_; intro wD hrD hbD hsD hoD; have hhD : HRow wD g s ws1 rs := HB.out.1.old (hbC.trans hbD) HB.out.1.lt; have hlD : Lies .u8 wD (some ⟨b, off, none⟩) len bs := hlies.old (hbC.trans hbD))
        | ((with_reducible show wpList _ _ _ (Oper.mk _ (Op.call { callee := .builtin .copy, args := _, argTypes := _ }) _ _ _ _ :: _) _ _); refine wpList_copy_rest (w := wD) (by with_reducible rfl) _ _ 22 22 (by with_reducible rfl) 5 Try.underlying22 Try.sizeB g r (some ⟨b, off, none⟩) _ _ _ _ (by rfl) (by rfl) (s : Int) ws1 rs bs hhD hlD (by omega) m (by omega) ?_; intro wE hhE hbE hsE))
      generalize hg6 : wB.heap.size = g6 at *
      obtain ⟨rs1, hrs1⟩ : ∃ rs1, rs.take r ++ bs.take m ++ rs.drop (r + m) = rs1 := ⟨_, rfl⟩
      rw [hrs1] at hhE
      have hKE : Row 55 .u32 wE g6 KS := hbE.row hrD (by have := HB.out.1.lt; omega)
      have hLE : Lies .u8 wE (some A) (len - m) (bs.drop m) := (HAD.out wE (hbE.lies hlD HW.out.2.2.2.2.1)).1
      have HT1 : Hid (rs1 = (T.drop (64 * (s / 64))).take 64 ∧ bs.drop m = T.drop (64 * (s / 64 + 1)) ∧ A.block = b ∧ A.spot = none ∧ Dg 256 rs1) := by
        obtain ⟨a1, a2, a3, a4, a5, a6, a7⟩ := HW.out
        have e := full_block a2 a1.lr r (by rw [a6]; exact a7) m hmr (by rw [a4.len]; exact hml) hr0
        rw [hrs1, a6, HT.out] at e
        have e2 := drop_after (all := all) (bs := bs) r (by rw [a6]; exact a7) m hmr
        rw [a6, HT.out] at e2
        refine ⟨e, e2.symm, (HAD.out wE (hbE.lies hlD a5)).2.1, (HAD.out wE (hbE.lies hlD a5)).2.2, ?_⟩
        rw [e, ← HT.out]
        exact ((a2.good.append a3).drop _).take _
      have HE : Hid (HRow wE g s ws1 rs1 ∧ Row 55 .u32 wE g6 KS ∧ Lies .u8 wE (some A) (len - m) (bs.drop m) ∧ But g w wE ∧ g ≠ g6) := ⟨hhE, hKE, hLE, HB.out.2.2.trans ((But.ofBelow ((hbC.trans hbD).mono (by omega))).trans hbE), by have := HB.out.1.lt; omega⟩
      clear hrC hbC hsC hrD hbD hsD hoD hhD hlD hhE hbE hsE hKE hLE hrs1 hSR hlies
      have hld : (HLD 44 (.pointer (some ⟨g, 1, none⟩))).run Try.prog wE.drew = .ok (ag .u32 ws1) wE.drew := (HE.out.1.drewN 1).lda
      have hldk : (HLD 55 (.pointer (some ⟨g6, 0, none⟩))).run Try.prog wE.drew = .ok (ag .u32 KS) wE.drew := (HE.out.2.1.drewN 1).lda rfl
      have hSA := slice_all g
      have HMX := mix_any ws1 KS g 9 64 rs1 wE.drew HE.out.1.lw rfl ((HE.out.1.drewN 1).rest) HT1.out.2.2.2.2 (by omega) (by unfold maxLen; omega)
      go_region_with (first | (go_at_call 26; refine HMX.mono ?_; rintro e wF ⟨rfl, hbF⟩; have hst := ((HE.out.1.drewN 1).old hbF (HE.out.1.drewN 1).lt).sta (mixS KS ws1 rs1) rfl))
      all_goals
        have HI : Hid (PInv w g g6 s T rs1 (len - m) (.slice (some A) (len - m) (cap - m)) (wF.setRow g (HC s (mixS KS ws1 rs1) rs1).toArray)) := by
          obtain ⟨a1, a2, a3, a4, a5⟩ := HE.out
          obtain ⟨b1, b2, b3, b4, b5⟩ := HT1.out
          have hF : HRow wF g s ws1 rs1 := (a1.drewN 1).old hbF (a1.drewN 1).lt
          have hbW : But g w wF := a4.trans ((But.drewN g wE 1).trans (But.ofBelow hbF))
          have hbS := But.setRow g wF (HC s (mixS KS ws1 rs1) rs1).toArray
          refine ⟨s / 64 + 1, some A, cap - m, mixS KS ws1 rs1, rfl, hF.setWords _ rfl, ?_, hbS.row ((a2.drewN 1).below hbF (a2.drewN 1).lt) (fun e => a5 e.symm), ?_, ?_, by omega, by omega, hbW.trans hbS, ?_, fun e => a5 e.symm⟩
          · rw [HB.out.2.1, b1]; rfl
          · rw [← b2]; exact hbS.lies ((a3.old (Drew.below ⟨1, rfl⟩ _)).old hbF) (fun b0 off0 s0 e => by cases e; simp only at b3; subst b3; exact HW.out.2.2.2.2.1 _ _ _ rfl)
          · intro b0 off0 s0 e
            cases e
            simp only at b3
            subst b3
            exact HW.out.2.2.2.2.1 _ _ _ rfl
          · have := HW.out.2.2.2.2.2.1
            have := HW.out.2.2.2.1.len
            rw [← HT.out]
            simp; omega
        have HTD : Hid (Dg 256 T ∧ T.length ≤ 1000000000000000 ∧ Dg 256 rs1) := by rw [← HT.out]; exact ⟨HW.out.2.1.good.append HW.out.2.2.1, by have := HW.out.2.2.2.2.2.1; have := HW.out.2.2.2.1.len; simp; omega, HT1.out.2.2.2.2⟩
        clear HE HT1 HMX hld hldk hbF hst HB HW HAD hA
        go_wp2
        go_loopg [2] (len - m) (fun k vb wr => PInv w g g6 s T rs1 k vb wr)
        case atStart => exact HI.out
        case round =>
          obtain ⟨D, A1, cp1, ws2, rfl, hh2, hw2, hk2, hl2, hne2, hkc, hcp1, hbut, hDT, hg6n⟩ := hrel
          clear HI
          by_cases hk64 : 64 ≤ gk
          · obtain ⟨b1, off1, rfl, hblk1, _⟩ := hl2.at (by omega)
            obtain ⟨A2, hA2, HAD2⟩ := lies_cut b1 off1 gk cp1 64 (T.drop (64 * D)) hkc hk64
            have hldw : (HLD 44 (.pointer (some ⟨g, 1, none⟩))).run Try.prog wr.drew = .ok (ag .u32 ws2) wr.drew := (hh2.drewN 1).lda
            have hldk : (HLD 55 (.pointer (some ⟨g6, 0, none⟩))).run Try.prog wr.drew = .ok (ag .u32 KS) wr.drew := (hk2.drewN 1).lda rfl
            have HMX := mix_any ws2 KS b1 off1 64 ((T.drop (64 * D)).take 64) wr.drew hh2.lw rfl ((hl2.take 64 hk64).old (Drew.below ⟨1, rfl⟩ _)) ((HTD.out.1.drop _).take _) (by omega) (by unfold maxLen; omega)
            have HP : Hid (HRow wr g s ws2 rs1 ∧ mixS KS ws2 ((T.drop (64 * D)).take 64) = hb T (D + 1) ∧ Row 55 .u32 wr g6 KS ∧ Lies .u8 wr (some ⟨b1, off1, none⟩) gk (T.drop (64 * D)) ∧ b1 ≠ g ∧ But g w wr ∧ 64 * D + gk = T.length ∧ g6 ≠ g) :=
              ⟨hh2, by rw [hw2]; rfl, hk2, hl2, hne2 b1 off1 none rfl, hbut, by have := hl2.len; simp at this; omega, hg6n⟩
            have hk64I : (64 : Int) ≤ (gk : Int) := by omega
            have hc64I : (64 : Int) ≤ (cp1 : Int) := by omega
            clear hh2 hw2 hk2 hl2 hne2 hbut hDT
            generalize mixS KS ws2 ((T.drop (64 * D)).take 64) = wsN at *
            go_wp2
            go_region_with (first | (go_at_call 26; refine HMX.mono ?_; rintro e wG ⟨rfl, hbG⟩; have hst := ((HP.out.1.drewN 1).old hbG (HP.out.1.drewN 1).lt).sta wsN (by rw [HP.out.2.1]; rfl)))
            all_goals
              have HQ : Hid (PInv w g g6 s T rs1 (gk - 64) (.slice (some A2) (gk - 64) (cp1 - 64)) (wG.setRow g (HC s wsN rs1).toArray)) := by
                obtain ⟨a1, a2, a3, a4, a5, a6, a7, a8⟩ := HP.out
                have hG : HRow wG g s ws2 rs1 := (a1.drewN 1).old hbG (a1.drewN 1).lt
                have hbW : But g w wG := a6.trans ((But.drewN g wr 1).trans (But.ofBelow hbG))
                have hbS := But.setRow g wG (HC s wsN rs1).toArray
                have hlG : Lies .u8 wG (some ⟨b1, off1, none⟩) gk (T.drop (64 * D)) := (a4.old (Drew.below ⟨1, rfl⟩ _)).old hbG
                obtain ⟨c1, c2, c3⟩ := HAD2.out _ (hbS.lies hlG (fun b0 off0 s0 e => by cases e; exact a5))
                refine ⟨D + 1, some A2, cp1 - 64, wsN, rfl, hG.setWords _ (by rw [a2]; rfl), a2, hbS.row ((a3.drewN 1).below hbG (a3.drewN 1).lt) a8, ?_, ?_, by omega, by omega, hbW.trans hbS, by omega, a8⟩
                · rw [List.drop_drop] at c1
                  rw [show 64 * (D + 1) = 64 * D + 64 by omega]
                  exact c1
                · intro b0 off0 s0 e
                  cases e
                  simp only at c2
                  subst c2
                  exact a5
              clear HP HMX hldw hldk hbG hst HAD2
              go_wp2
              go_roundg (gk - 64)
              case measure => omega
              case rel => exact HQ.out
          · have HFIN : Hid (∀ w', HRow w' g s ws2 (rs1.take 0 ++ (T.drop (64 * D)).take gk ++ rs1.drop (0 + gk)) → But g wr w' → ∃ ws' rs', HRow w' g s ws' rs' ∧ Holds T ws' rs' ∧ But g w w') := fun w' h1 h2 =>
              ⟨_, _, h1, holds_done D gk hw2 hl2.len (by omega) hDT HTD.out.1 HTD.out.2.2 HTD.out.2.1, hbut.trans h2⟩
            have HH : Hid (HRow wr g s ws2 rs1 ∧ Lies .u8 wr A1 gk (T.drop (64 * D))) := ⟨hh2, hl2⟩
            have hk64I : ¬ ((64 : Int) ≤ (gk : Int)) := by omega
            clear hh2 hw2 hk2 hl2 hne2 hbut hDT
            generalize T.drop (64 * D) = tl at *
            go_wp2_with ((with_reducible show wpList _ _ _ (Oper.mk _ (Op.call { callee := .builtin .copy, args := _, argTypes := _ }) _ _ _ _ :: _) _ _); refine wpList_copy_rest (w := wr) (by with_reducible rfl) _ _ 22 22 (by with_reducible rfl) 5 Try.underlying22 Try.sizeB g 0 A1 _ _ _ _ (by rfl) (by rfl) (s : Int) ws2 rs1 tl HH.out.1 HH.out.2 (by omega) gk (by omega) ?_; intro wZ hhZ hbZ hsZ)
            exact ⟨rfl, _, results_none rfl _ _, ⟨_, rfl⟩, HFIN.out _ hhZ hbZ⟩
    · have hr0I : ¬ ((0 : Int) < (r : Int)) := by omega
      have hSA := slice_all g
      go_wp2_with (first
        | ((with_reducible show wpList _ _ _ (Oper.mk _ (Op.alloc _) _ _ _ _ :: _) _ _); refine wpList_alloc_row (w := wB) (by with_reducible rfl) 55 (by with_reducible rfl) .u32 64 Try.infoW64 ?_; intro wC hrC hbC hsC)
        | ((with_reducible show wpList _ _ _ (Oper.mk _ (Op.store _ _ _) _ _ _ _ :: _) _ _); refine wpList_store_nums (w := wC) (by with_reducible rfl) 55 _ _ (by with_reducible rfl) .u32 55 64 Try.sizeW64 _ (List.replicate 64 0) KS (by rfl) (by rfl) hrC (by simp) rfl ?_; intro wD hrD hbD hsD hoD))
      generalize hg6 : wB.heap.size = g6 at *
      have HI : Hid (PInv w g g6 s T rs len (.slice ao len cap) wD) := by
        obtain ⟨a1, a2, a3⟩ := HB.out
        obtain ⟨b1, b2, b3, b4, b5, b6, b7⟩ := HW.out
        have hbBD : Below g6 wB wD := hbC.trans hbD
        have hlt := a1.lt
        refine ⟨s / 64, ao, cap, ws1, rfl, a1.old hbBD (by omega), a2, hrD, ?_, b5, hlc, hcm, a3.trans (But.ofBelow (hbBD.mono (by omega))), ?_, by omega⟩
        · have e := drop_none (all := all) (bs := bs) (by rw [b6]; omega)
          rw [b6, HT.out] at e
          rw [e]
          exact (a3.lies b4 b5).old (hbBD.mono (by omega))
        · rw [← HT.out]; have := b4.len; simp; omega
      have HTD : Hid (Dg 256 T ∧ T.length ≤ 1000000000000000 ∧ Dg 256 rs) := by rw [← HT.out]; exact ⟨HW.out.2.1.good.append HW.out.2.2.1, by have := HW.out.2.2.2.2.2.1; have := HW.out.2.2.2.1.len; simp; omega, HW.out.2.1.bytes⟩
      clear HB HW hrC hbC hsC hrD hbD hsD hoD hg6
      generalize rs = rs1 at *
      go_wp2
      go_loopg [2] len (fun k vb wr => PInv w g g6 s T rs1 k vb wr)
      case atStart => exact HI.out
      case round =>
        obtain ⟨D, A1, cp1, ws2, rfl, hh2, hw2, hk2, hl2, hne2, hkc, hcp1, hbut, hDT, hg6n⟩ := hrel
        clear HI
        by_cases hk64 : 64 ≤ gk
        · obtain ⟨b1, off1, rfl, hblk1, _⟩ := hl2.at (by omega)
          obtain ⟨A2, hA2, HAD2⟩ := lies_cut b1 off1 gk cp1 64 (T.drop (64 * D)) hkc hk64
          have hldw : (HLD 44 (.pointer (some ⟨g, 1, none⟩))).run Try.prog wr.drew = .ok (ag .u32 ws2) wr.drew := (hh2.drewN 1).lda
          have hldk : (HLD 55 (.pointer (some ⟨g6, 0, none⟩))).run Try.prog wr.drew = .ok (ag .u32 KS) wr.drew := (hk2.drewN 1).lda rfl
          have HMX := mix_any ws2 KS b1 off1 64 ((T.drop (64 * D)).take 64) wr.drew hh2.lw rfl ((hl2.take 64 hk64).old (Drew.below ⟨1, rfl⟩ _)) ((HTD.out.1.drop _).take _) (by omega) (by unfold maxLen; omega)
          have HP : Hid (HRow wr g s ws2 rs1 ∧ mixS KS ws2 ((T.drop (64 * D)).take 64) = hb T (D + 1) ∧ Row 55 .u32 wr g6 KS ∧ Lies .u8 wr (some ⟨b1, off1, none⟩) gk (T.drop (64 * D)) ∧ b1 ≠ g ∧ But g w wr ∧ 64 * D + gk = T.length ∧ g6 ≠ g) :=
            ⟨hh2, by rw [hw2]; rfl, hk2, hl2, hne2 b1 off1 none rfl, hbut, by have := hl2.len; simp at this; omega, hg6n⟩
          have hk64I : (64 : Int) ≤ (gk : Int) := by omega
          have hc64I : (64 : Int) ≤ (cp1 : Int) := by omega
          clear hh2 hw2 hk2 hl2 hne2 hbut hDT
          generalize mixS KS ws2 ((T.drop (64 * D)).take 64) = wsN at *
          go_wp2
          go_region_with (first | (go_at_call 26; refine HMX.mono ?_; rintro e wG ⟨rfl, hbG⟩; have hst := ((HP.out.1.drewN 1).old hbG (HP.out.1.drewN 1).lt).sta wsN (by rw [HP.out.2.1]; rfl)))
          all_goals
            have HQ : Hid (PInv w g g6 s T rs1 (gk - 64) (.slice (some A2) (gk - 64) (cp1 - 64)) (wG.setRow g (HC s wsN rs1).toArray)) := by
              obtain ⟨a1, a2, a3, a4, a5, a6, a7, a8⟩ := HP.out
              have hG : HRow wG g s ws2 rs1 := (a1.drewN 1).old hbG (a1.drewN 1).lt
              have hbW : But g w wG := a6.trans ((But.drewN g wr 1).trans (But.ofBelow hbG))
              have hbS := But.setRow g wG (HC s wsN rs1).toArray
              have hlG : Lies .u8 wG (some ⟨b1, off1, none⟩) gk (T.drop (64 * D)) := (a4.old (Drew.below ⟨1, rfl⟩ _)).old hbG
              obtain ⟨c1, c2, c3⟩ := HAD2.out _ (hbS.lies hlG (fun b0 off0 s0 e => by cases e; exact a5))
              refine ⟨D + 1, some A2, cp1 - 64, wsN, rfl, hG.setWords _ (by rw [a2]; rfl), a2, hbS.row ((a3.drewN 1).below hbG (a3.drewN 1).lt) a8, ?_, ?_, by omega, by omega, hbW.trans hbS, by omega, a8⟩
              · rw [List.drop_drop] at c1
                rw [show 64 * (D + 1) = 64 * D + 64 by omega]
                exact c1
              · intro b0 off0 s0 e
                cases e
                simp only at c2
                subst c2
                exact a5
            clear HP HMX hldw hldk hbG hst HAD2
            go_wp2
            go_roundg (gk - 64)
            case measure => omega
            case rel => exact HQ.out
        · have HFIN : Hid (∀ w', HRow w' g s ws2 (rs1.take 0 ++ (T.drop (64 * D)).take gk ++ rs1.drop (0 + gk)) → But g wr w' → ∃ ws' rs', HRow w' g s ws' rs' ∧ Holds T ws' rs' ∧ But g w w') := fun w' h1 h2 =>
            ⟨_, _, h1, holds_done D gk hw2 hl2.len (by omega) hDT HTD.out.1 HTD.out.2.2 HTD.out.2.1, hbut.trans h2⟩
          have HH : Hid (HRow wr g s ws2 rs1 ∧ Lies .u8 wr A1 gk (T.drop (64 * D))) := ⟨hh2, hl2⟩
          have hk64I : ¬ ((64 : Int) ≤ (gk : Int)) := by omega
          clear hh2 hw2 hk2 hl2 hne2 hbut hDT
          generalize T.drop (64 * D) = tl at *
          go_wp2_with ((with_reducible show wpList _ _ _ (Oper.mk _ (Op.call { callee := .builtin .copy, args := _, argTypes := _ }) _ _ _ _ :: _) _ _); refine wpList_copy_rest (w := wr) (by with_reducible rfl) _ _ 22 22 (by with_reducible rfl) 5 Try.underlying22 Try.sizeB g 0 A1 _ _ _ _ (by rfl) (by rfl) (s : Int) ws2 rs1 tl HH.out.1 HH.out.2 (by omega) gk (by omega) ?_; intro wZ hhZ hbZ hsZ)
          exact ⟨rfl, _, results_none rfl _ _, ⟨_, rfl⟩, HFIN.out _ hhZ hbZ⟩
end Go.Proofs.Ytclejcjbnmgaiaa
