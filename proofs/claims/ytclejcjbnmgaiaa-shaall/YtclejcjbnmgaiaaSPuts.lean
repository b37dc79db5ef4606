/-
  The walk of ShaPuts.
-/
import Derived.Test.YtclejcjbnmgaiaaSOf
namespace Go.Proofs.Ytclejcjbnmgaiaa
open Go.RowKit
set_option linter.unusedVariables false
set_option linter.unusedSimpArgs false
attribute [local go_sem ↓] keep_l8 keep_l64 keep_s8 keep_l32 keep_s32

/-- Two arrays that are the same, asked whether they differ. -/
theorem wpList_neq_ag {w : World} {ops : Array Oper} {rest : List Oper} {o : Oper} {a : Act} {Q : Exit → Act → World → Prop} (hgd : o.guard = none) (x y : Operand) (ty : TypeId) (hop : o.op = Op.binOp .neq 24 x y ty) (xs : List Int) (hl : xs.length = 32) (hx : a.eval x = ag .u8 xs) (hy : a.eval y = ag .u8 xs)
    (h : wpList Try.prog ops Q rest (a.put o.dst (.bool false)) w) : wpList Try.prog ops Q (o :: rest) a w := by
  refine wpList_plain hgd fun K hK => ?_
  have h1 := run_eqGuard_agg (P := Try.prog) w .neq 24 x y ((xs.map (Value.int .u8)).toArray) ((xs.map (Value.int .u8)).toArray) Try.eqGuardType24
  have h2 := run_neq_struct (P := Try.prog) w 24 ((xs.map (Value.int .u8)).toArray) ((xs.map (Value.int .u8)).toArray)
  have h3 := eq_arr' 9998 xs hl w
  unfold ag at h3 hx hy
  rw [h3] at h2
  unfold Oper.wp execOp
  simp only [hop, hx, hy, Sem.run_bind, h1, Result.andThen_ok, h2, Sem.run_pure]
  exact hK _ _ h

/-- A slice of slices of bytes that came in: its rows. -/
def CameRows (w : World) (a : Option Addr) (len cap : Nat) (A : Nat → Option Addr) (L C : Nat → Nat) (Z : Nat → List Int) : Prop :=
  len ≤ maxLen ∧ (len = 0 ∨ ∃ b off, a = some ⟨b, off, none⟩ ∧ len ≤ cap ∧ cap ≤ maxLen ∧ ∀ r, r < len → b < w.heap.size ∧ w.cell? ⟨b, off + r, none⟩ = some (.slice (A r) (L r) (C r)) ∧ Came .u8 w (A r) (L r) (C r) (Z r) ∧ L r ≤ 140737488351232)
theorem CameRows.le {w : World} {a : Option Addr} {len cap : Nat} {A : Nat → Option Addr} {L C : Nat → Nat} {Z : Nat → List Int} (h : CameRows w a len cap A L C Z) : len ≤ maxLen := h.1
theorem Own.keep {e : TypeId} {k : IntKind} {w w' : World} {base : Nat} {v : Value} {xs : List Int} (h : Own e k w base v xs) (hk : ∀ g, base ≤ g → g < w.heap.size → w'.heap[g]? = w.heap[g]?) : Own e k w' base v xs := by
  refine ⟨h.1, ?_⟩
  rcases h.2 with h0 | ⟨g, cap, cur, rfl, hg, hrow, r⟩
  · exact .inl h0
  · exact .inr ⟨g, cap, cur, rfl, hg, by rw [hk g hg (Array.getElem?_eq_some_iff.1 hrow).1]; exact hrow, r⟩

theorem Own.bases {e : TypeId} {k : IntKind} {w : World} {base : Nat} {ao : Option Addr} {len cap : Nat} {xs : List Int} (h : Own e k w base (.slice ao len cap) xs) : ∀ b off s, ao = some ⟨b, off, s⟩ → base ≤ b := by
  intro b off s e'
  rcases h.2 with ⟨h0, _⟩ | ⟨g, cap', cur, h0, hg, hrow, _⟩
  · simp at h0; rw [h0.1] at e'; cases e'
  · simp only [Value.slice.injEq] at h0
    rw [h0.1] at e'
    simp only [Option.some.injEq, Addr.mk.injEq] at e'
    rw [← e'.1]
    exact hg

theorem OwnAt.own {e : TypeId} {k : IntKind} {w : World} {g cap base : Nat} {xs : List Int} (h : OwnAt e k w g cap xs) (hb : base ≤ g) : Own e k w base (.slice (some ⟨g, 0, none⟩) xs.length cap) xs := by
  obtain ⟨cur, h1, h2, h3⟩ := h.blk
  exact ⟨by simp, .inr ⟨g, cap, cur, rfl, hb, h1, h.lc, h.cm, by rw [h3, Nat.mul_one], by rw [Nat.mul_one]; exact h2⟩⟩

set_option maxRecDepth 100000 in
set_option maxHeartbeats 8000000 in
/-- Pieces put in one by one, with sums between. -/
theorem ShaPuts_walk (a : Option Addr) (len cap : Nat) (A : Nat → Option Addr) (L C : Nat → Nat) (Z : Nat → List Int) (w : World) (h : CameRows w a len cap A L C Z) :
    Calls Try.prog 4 #[.slice a len cap] w fun e w' => e = .returned (.bool true) ∧ Below w.heap.size w w' := by
  have hmx := h.le
  unfold maxLen at hmx
  have HC : Hid (CameRows w a len cap A L C Z) := h
  clear h
  go_enter Try.func4, Try.ntmps4
  go_wp2_with fail
  refine (SAwake_any w).mono ?_
  rintro e wA ⟨rfl, hbA⟩
  go_wp2_with fail
  refine (New_any wA).mono ?_
  rintro e w1 ⟨rfl, hh1, hb1⟩
  have HW1 : Hid (HashAt w1 wA.heap.size [] ∧ Below w.heap.size w w1 ∧ w.heap.size ≤ wA.heap.size) := ⟨hh1, hbA.trans (hb1.mono hbA.size), hbA.size⟩
  clear hh1 hb1 hbA
  generalize wA.heap.size = gh at *
  go_wp2
  go_loopw [4, 14] (fun vl vi wr => ∃ (i : Nat) (xs : List Int), i ≤ len ∧ vi = .int .i64 i ∧ HashAt wr gh xs ∧ Own 5 .u8 wr (gh + 1) vl xs ∧ Below w.heap.size w wr ∧ xs.length ≤ 5000 ∧ Dg 256 xs) (fun _ vi _ => len - (intOf vi).toNat)
  case atStart => exact ⟨0, [], by omega, rfl, HW1.out.1, Own.nil _ _ _ _, HW1.out.2.1, by simp, Dg.nil _⟩
  case round =>
    obtain ⟨i, xs, hi, rfl, hh, hown, hbw, hxl, hxd⟩ := hrel
    have HGH : Hid (w.heap.size ≤ gh) := HW1.out.2.2
    clear HW1
    have hlt2 := hh.lt
    obtain ⟨n, hn⟩ : ∃ n, xs.length = n := ⟨_, rfl⟩
    have HXS : Hid (HashAt wr gh xs ∧ Own 5 .u8 wr (gh + 1) u4 xs ∧ Below w.heap.size w wr ∧ Dg 256 xs) := ⟨hh, hown, hbw, hxd⟩
    have HN : Hid (xs.length = n) := hn
    obtain ⟨ao, cp, rfl, hnum⟩ := hown.num hxd (by omega)
    have HNUM : Hid (NumIn .u8 256 wr ao n cp xs) := by rw [hn] at hnum; exact hnum
    rw [hn] at hxl HXS ⊢
    clear hh hown hbw hxd hn hnum
    by_cases hlt : i < len
    · have hltI : (i : Int) < (len : Int) := by omega
      obtain ⟨bq, off, rfl, hcc, hcm, hrows⟩ : ∃ b off, a = some ⟨b, off, none⟩ ∧ len ≤ cap ∧ cap ≤ maxLen ∧ ∀ r, r < len → b < w.heap.size ∧ w.cell? ⟨b, off + r, none⟩ = some (.slice (A r) (L r) (C r)) ∧ Came .u8 w (A r) (L r) (C r) (Z r) ∧ L r ≤ 140737488351232 := by
        rcases HC.out.2 with h0 | h1
        · omega
        · exact h1
      obtain ⟨hbq, hcell, hcame, hreach⟩ := hrows i hlt
      have hck := (HXS.out.2.2.1.cell (p := ⟨bq, off + i, none⟩) hbq).trans hcell
      have HCM : Hid (Came .u8 w (A i) (L i) (C i) (Z i)) := hcame
      generalize A i = ai at *
      generalize L i = li at *
      generalize C i = ci at *
      generalize Z i = zi at *
      clear hcame hcell hcm hrows HC
      by_cases h40 : 40 < i
      · have h40I : (40 : Int) < (i : Int) := by omega
        go_wp2
        go_ret
        exact ⟨rfl, HXS.out.2.2.1⟩
      · have h40I : ¬ (40 : Int) < (i : Int) := by omega
        by_cases h5 : 5000 < n + li
        · have h5I : (5000 : Int) < (n : Int) + (li : Int) := by omega
          go_wp2
          go_ret
          exact ⟨rfl, HXS.out.2.2.1⟩
        · have h5I : ¬ (5000 : Int) < (n : Int) + (li : Int) := by omega
          have hl1 : ([] : List Int).length + li ≤ 1073741824 := by simp; omega
          have NB := (HCM.out.old HXS.out.2.2.1).num (B := 256) (fun _ => word_u8) (by omega)
          have HNB : Hid (NumIn .u8 256 wr ai li ci (zi.take li)) := NB
          have HYW : Hid (Lies .u8 w ai li (zi.take li)) := (HCM.out.num (B := 256) (fun _ => word_u8) (by omega)).lies
          clear NB
          generalize zi.take li = ys at *
          have HYL : Hid (ys.length = li ∧ Dg 256 ys) := ⟨HNB.out.len, HNB.out.dg⟩
          go_wp2_with (at_builtin; refine wpList_append_nums rfl _ _ 22 rfl 5 .u8 1 Try.underlying22 Try.infoB' wr.heap.size (.slice (some ⟨wr.heap.size, 0, none⟩) 0 0) [] (by rfl) (own_lit0 5 .u8 wr wr.heap.size (Nat.le_refl _)) ai li ci ys (by rfl) (HNB.out.lies.old ((Below.refl _ _).alloc (Nat.le_refl _) _)) HNB.out.nn hl1 (by decide) wr ((Below.refl _ _).alloc (Nat.le_refl _) _) (by simp) ?_; intro v2 w2 hown2 hb2 _ hs2)
          rw [List.nil_append] at hown2
          obtain ⟨ao2, cap2, rfl, hn2⟩ := hown2.num (B := 256) HYL.out.2 (by rw [HYL.out.1]; omega)
          rw [HYL.out.1] at hn2 hown2 ⊢
          have hbs2 := hown2.bases
          have HP := Put_any gh xs ys ao2 li cap2 w2 (HXS.out.1.old hb2 hlt2) HYL.out.2 hn2.lies (fun b off s e => by have := hbs2 b off s e; omega) hn2.lc hn2.cm hn2.nn (by rw [HN.out]; omega)
          refine HP.mono ?_
          rintro e w3 ⟨⟨v, rfl⟩, hh3, hbut3⟩
          obtain ⟨s0, hs0⟩ : ∃ s0, wr.heap.size = s0 := ⟨_, rfl⟩
          have HW3 : Hid (HashAt w3 gh (xs ++ ys) ∧ Own 5 .u8 w3 (gh + 1) (.slice ao n cp) xs ∧ Own 5 .u8 w3 s0 (.slice ao2 li cap2) ys ∧ Below w.heap.size w w3 ∧ gh < s0 ∧ wr.heap.size = s0) := by
            have hz := hb2.size
            have hz3 := hbut3.size
            have hzw := HXS.out.2.2.1.size
            refine ⟨hh3, HXS.out.2.1.keep (fun g h1 h2 => by rw [hbut3.block g (by omega) (by omega), hb2.block g h2]), ?_, ?_, by omega, hs0⟩
            · rw [← hs0]
              exact hown2.keep (fun g h1 h2 => hbut3.block g h2 (by omega))
            · exact HXS.out.2.2.1.trans ((hb2.mono hzw).trans (hbut3.below HGH.out (by omega)))
          have HLZ : Hid (∀ r, r < s0 → gh + 1 ≤ r → w3.heap[r]? = wr.heap[r]?) := fun r h1 h2 => by rw [hbut3.block r (by have := hb2.size; omega) (by omega), hb2.block r (by omega)]
          clear HP hh3 hbut3 hn2 hown2 hb2 hs2 hbs2 hs0
          go_wp2
          generalize hwo : wr = wo at *
          go_loopw [37] (fun vk wx => ∃ (k : Nat) (cur : List Int), k ≤ li ∧ vk = .int .i64 k ∧ Own 5 .u8 wx s0 (.slice ao2 li cap2) cur ∧ cur.length = li ∧ Below s0 w3 wx) (fun vk _ => li - (intOf vk).toNat)
          case atStart => exact ⟨0, ys, by omega, rfl, HW3.out.2.2.1, HYL.out.1, Below.refl _ _⟩
          case round =>
            obtain ⟨k, cur, hk, rfl, hownc, hcl, hbx⟩ := hrel
            by_cases hkl : k < li
            · have hklI : (k : Int) < (li : Int) := by omega
              obtain ⟨g, cg, heq, hat, hsg⟩ := hownc.at (by omega)
              rw [hcl] at heq
              simp only [Value.slice.injEq, true_and] at heq
              obtain ⟨rfl, rfl⟩ := heq
              have hc := hat.cell k (by omega)
              have hf := hat.frozen k
              have HAT : Hid (OwnAt 5 .u8 wr g cap2 cur ∧ s0 ≤ g ∧ cur.length = li ∧ Below s0 w3 wr) := ⟨hat, hsg, hcl, hbx⟩
              generalize cur.getD k 0 = x at *
              clear hat hownc hbx hcl
              go_wp2
              refine ⟨⟨k + 1, cur.set k (bits .xor .u8 x 255), by omega, by go_num, ?_, by simpa using HAT.out.2.2.1, HAT.out.2.2.2.setCell HAT.out.2.1 _⟩, ?_⟩
              · have := (HAT.out.1.set k (by have := HAT.out.2.2.1; omega) (bits .xor .u8 x 255)).own HAT.out.2.1
                rw [List.length_set, HAT.out.2.2.1] at this
                exact this
              · simp [intOf]
                omega
            · clear hownc hcl
              have HWX : Hid (HashAt wr gh (xs ++ ys) ∧ Own 5 .u8 wr (gh + 1) (.slice ao n cp) xs ∧ Below w.heap.size w wr ∧ gh < wr.heap.size ∧ Lies .u8 wr ai li ys) := by
                obtain ⟨a1, a2, a3, a4, a5, a6⟩ := HW3.out
                have hz := hbx.size
                have hB : Below w.heap.size w wr := a4.trans (hbx.mono (by have := HGH.out; omega))
                refine ⟨a1.old hbx a5, HXS.out.2.1.keep (fun g h1 h2 => by rw [hbx.block g (by omega), HLZ.out g (by omega) h1]), hB, by have := a1.lt; omega, HYW.out.old hB⟩
              have hl2 : xs.length + li ≤ 1073741824 := by rw [HN.out]; omega
              have HNN : Hid (ai = none → ci = 0) := HNB.out.nn
              have HXD : Hid (Dg 256 xs) := HXS.out.2.2.2
              clear hbx HW3 HLZ HXS HNUM HNB HCM hck HYW
              by_cases h3 : i % 3 = 0
              · have h3I : (i : Int) % 3 = 0 := by omega
                go_wp2_with (at_builtin; refine wpList_append_nums rfl _ _ 22 rfl 5 .u8 1 Try.underlying22 Try.infoB' (gh + 1) (.slice ao n cp) xs (by rfl) HWX.out.2.1 ai li ci ys (by rfl) HWX.out.2.2.2.2 HNN.out hl2 (by decide) wr (Below.refl _ _) (by have := HWX.out.2.2.2.1; omega) ?_; intro v5 w5 hown5 hb5 _ hs5)
                obtain ⟨ao5, cap5, rfl, hn5⟩ := hown5.num (B := 256) (HXD.out.append HYL.out.2) (by rw [List.length_append, HN.out, HYL.out.1]; omega)
                have hl5 : (xs ++ ys).length = n + li := by rw [List.length_append, HN.out, HYL.out.1]
                have hh5 := HWX.out.1.old hb5 (by omega)
                rw [hl5] at hn5 hown5 ⊢
                have HSM := Sum_any gh (xs ++ ys) w5 hh5 (by omega)
                have HRS := fun w' hl' => rSum_any (xs ++ ys) ao5 (n + li) cap5 w' (HXD.out.append HYL.out.2) hl' hn5.nn (by omega)
                have hl32 := shaS_length (xs ++ ys)
                generalize shaS (xs ++ ys) = hv at *
                refine HSM.mono ?_
                rintro e w6 ⟨rfl, hb6⟩
                go_wp2_with fail
                refine (HRS w6 (hn5.lies.old hb6)).mono ?_
                rintro e w7 ⟨rfl, hb7⟩
                have HW7 : Hid (HashAt w7 gh (xs ++ ys) ∧ Own 5 .u8 w7 (gh + 1) (.slice ao5 (n + li) cap5) (xs ++ ys) ∧ Below w.heap.size w w7 ∧ (xs ++ ys).length ≤ 5000 ∧ Dg 256 (xs ++ ys)) := by
                  have hz5 := hb5.size
                  have hz6 := hb6.size
                  have hlt5 := hh5.lt
                  refine ⟨(hh5.old hb6 hlt5).old hb7 (by omega), (hown5.below hb6).below hb7, ?_, by omega, HXD.out.append HYL.out.2⟩
                  have hw := HWX.out.2.2.1
                  have hzw := hw.size
                  exact hw.trans ((hb5.mono (by have := HGH.out; omega)).trans ((hb6.mono (by omega)).trans (hb7.mono (by omega))))
                clear HSM HRS hb5 hb6 hb7 hn5 hown5 hh5 HWX
                go_wp2_with ((with_reducible show wpList _ _ _ (Oper.mk _ (Op.binOp .neq _ _ _ _) _ _ _ (some _) :: _) _ _); refine wpList_unguard (by rfl) ?_; refine wpList_neq_ag rfl _ _ _ rfl hv hl32 (by rfl) (by rfl) ?_)
                refine ⟨⟨i + 1, xs ++ ys, by omega, by go_num, HW7.out.1, HW7.out.2.1, HW7.out.2.2.1, HW7.out.2.2.2.1, HW7.out.2.2.2.2⟩, ?_⟩
                simp [intOf]
                omega
              · have h3I : ((i : Int) % 3 == 0) = false := by simp; omega
                go_wp2_with (at_builtin; refine wpList_append_nums rfl _ _ 22 rfl 5 .u8 1 Try.underlying22 Try.infoB' (gh + 1) (.slice ao n cp) xs (by rfl) HWX.out.2.1 ai li ci ys (by rfl) HWX.out.2.2.2.2 HNN.out hl2 (by decide) wr (Below.refl _ _) (by have := HWX.out.2.2.2.1; omega) ?_; intro v5 w5 hown5 hb5 _ hs5)
                refine ⟨⟨i + 1, xs ++ ys, by omega, by go_num, HWX.out.1.old hb5 (by omega), hown5, HWX.out.2.2.1.trans (hb5.mono (by have := HGH.out; omega)), by rw [List.length_append, HN.out, HYL.out.1]; omega, HXD.out.append HYL.out.2⟩, ?_⟩
                simp [intOf]
                omega
    · have hltI : ¬ (i : Int) < (len : Int) := by omega
      have HSM := fun w' h' => Sum_any gh xs w' h' (by rw [HN.out]; omega)
      have HRS := fun w' hl' => rSum_any xs ao n cp w' HXS.out.2.2.2 hl' HNUM.out.nn (by omega)
      have hl32 := shaS_length xs
      generalize shaS xs = hv at *
      go_wp2_with fail
      refine (HSM wr HXS.out.1).mono ?_
      rintro e w2 ⟨rfl, hb2⟩
      go_wp2_with fail
      refine (HRS w2 (HNUM.out.lies.old hb2)).mono ?_
      rintro e w3 ⟨rfl, hb3⟩
      have hb13 : Below wr.heap.size wr w3 := hb2.trans (hb3.mono hb2.size)
      have HW3 : Hid (HashAt w3 gh xs ∧ Below w.heap.size w w3) := ⟨HXS.out.1.old hb13 hlt2, HXS.out.2.2.1.trans (hb13.mono HXS.out.2.2.1.size)⟩
      clear hb2 hb3 hb13 HRS
      go_wp2_with ((with_reducible show wpList _ _ _ (Oper.mk _ (Op.binOp .eql _ _ _ _) _ _ _ none :: _) _ _); refine wpList_eql_ag (by with_reducible rfl) _ _ _ (by with_reducible rfl) hv hl32 (by rfl) (by rfl) ?_)
      refine (HSM w3 HW3.out.1).mono ?_
      rintro e w4 ⟨rfl, hb4⟩
      go_wp2_with fail
      refine (HSM w4 (HW3.out.1.old hb4 HW3.out.1.lt)).mono ?_
      rintro e w5 ⟨rfl, hb5⟩
      have HW5 : Hid (Below w.heap.size w w5) := HW3.out.2.trans ((hb4.mono HW3.out.2.size).trans (hb5.mono (by have := HW3.out.2.size; have := hb4.size; omega)))
      clear hb4 hb5 HSM
      go_wp2_with ((with_reducible show wpList _ _ _ (Oper.mk _ (Op.binOp .eql _ _ _ _) _ _ _ (some _) :: _) _ _); refine wpList_unguard (by rfl) ?_; refine wpList_eql_ag rfl _ _ _ rfl hv hl32 (by rfl) (by rfl) ?_)
      go_ret
      exact ⟨rfl, HW5.out⟩
end Go.Proofs.Ytclejcjbnmgaiaa
