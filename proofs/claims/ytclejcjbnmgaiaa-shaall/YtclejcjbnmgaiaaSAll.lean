/-
  The walk of ShaAll.
-/
import Derived.Test.YtclejcjbnmgaiaaSAllB
namespace Go.Proofs.Ytclejcjbnmgaiaa
open Go.RowKit Go.Shelf
set_option linter.unusedVariables false
set_option linter.unusedSimpArgs false
attribute [local go_sem ↓] keep_l8 keep_l64 keep_s8 keep_l32 keep_s32

theorem CameRows.old {w w' : World} {a : Option Addr} {len cap : Nat} {A : Nat → Option Addr} {L C : Nat → Nat} {Z : Nat → List Int} (h : CameRows w a len cap A L C Z) (hb : Below w.heap.size w w') : CameRows w' a len cap A L C Z := by
  refine ⟨h.1, ?_⟩
  rcases h.2 with h0 | ⟨b, off, e, h1, h2, h3⟩
  · exact .inl h0
  · refine .inr ⟨b, off, e, h1, h2, fun r hr => ?_⟩
    obtain ⟨c1, c2, c3, c4⟩ := h3 r hr
    exact ⟨Nat.lt_of_lt_of_le c1 hb.size, (hb.cell (p := ⟨b, off + r, none⟩) c1).trans c2, c3.old hb, c4⟩
/-- slices.Values. -/
theorem Values_any (a : Option Addr) (len cap : Nat) (w : World) : Calls Try.prog 14 #[.slice a len cap] w fun e w' => e = .returned (.func (.func 21) #[] #[.pointer (some ⟨w.heap.size, 0, none⟩)]) ∧ w' = w.alloc (.cells #[.slice a len cap] 27) := by
  have hmf : ∀ (fn : Fn) (first cap : Array Value) (w : World), (Instr.makeFunc fn first cap).run Try.prog w = .ok (.func fn first cap) w := fun _ _ _ _ => rfl
  go_enter Try.func14, Try.ntmps14
  go_wp2
  go_ret
  exact ⟨rfl, rfl⟩
theorem below_set_both {B : Nat} {w W : World} (h : Below B w W) (p : Addr) (v : Value) (hp : p.block < B) : Below B (w.setCell p v) (W.setCell p v) := by
  refine ⟨h.os, h.tape, h.output, by simpa [World.setCell] using h.size, fun k hk => ?_⟩
  by_cases e : k = p.block
  · subst e
    simp only [World.setCell]
    rw [Array.getElem?_modify, Array.getElem?_modify, if_pos rfl, if_pos rfl, h.block _ hk]
  · rw [heap_setCell_other W p k v e, heap_setCell_other w p k v e]
    exact h.block k hk

set_option maxRecDepth 100000 in
set_option maxHeartbeats 8000000 in
/-- Pieces gone over are hashed as what they are together. -/
theorem ShaAll_walk (a : Option Addr) (len cap : Nat) (A : Nat → Option Addr) (L C : Nat → Nat) (Z : Nat → List Int) (w : World) (h : CameRows w a len cap A L C Z) :
    Calls Try.prog 5 #[.slice a len cap] w fun e w' => e = .returned (.bool true) ∧ Below w.heap.size w w' := by
  have hmf : ∀ (fn : Fn) (first cap : Array Value) (w : World), (Instr.makeFunc fn first cap).run Try.prog w = .ok (.func fn first cap) w := fun _ _ _ _ => rfl
  have hmx := h.le
  unfold maxLen at hmx
  have HC : Hid (CameRows w a len cap A L C Z) := h
  clear h
  go_enter Try.func5, Try.ntmps5
  go_wp2_with fail
  refine (SAwake_any _).mono ?_
  rintro e wA ⟨rfl, hbA⟩
  obtain ⟨g, hg⟩ : ∃ g, w.heap.size = g := ⟨_, rfl⟩
  have hsz0 : (w.alloc (.cells #[.slice a len cap] 27)).heap.size = g + 1 := by simp [hg]
  have hboxA : wA.heap[g]? = some (.cells #[.slice a len cap] 27) := by
    rw [hbA.block g (by omega), ← hg]
    exact World.alloc_heap_new _ _
  have hbwA : Below g w wA := by
    have h1 := below_alloc w (.cells #[.slice a len cap] 27)
    rw [hg] at h1
    exact h1.trans (hbA.mono (by omega))
  have hszA : g + 1 ≤ wA.heap.size := by have := hbA.size; omega
  have hcA : wA.cell? ⟨g, 0, none⟩ = some (.slice a len cap) := by rw [cell_of_row wA g 0 _ _ _ hboxA]; rfl
  have HWA : Hid (wA.heap[g]? = some (.cells #[.slice a len cap] 27) ∧ Below g w wA) := ⟨hboxA, hbwA⟩
  have HG : Hid (w.heap.size = g) := hg
  rw [hg]
  clear hboxA hbwA hbA hszA hsz0 hg
  go_wp2
  clear hcA
  go_loopw [3, 12] (fun vl vi wr => ∃ i : Nat, i ≤ len ∧ vi = .int .i64 i ∧ Own 5 .u8 wr (g + 1) vl (catP L Z i) ∧ (catP L Z i).length ≤ 20000 ∧ Dg 256 (catP L Z i) ∧ wr.heap[g]? = some (.cells #[.slice a len cap] 27) ∧ Below g w wr) (fun _ vi _ => len - (intOf vi).toNat)
  case atStart => exact ⟨0, by omega, rfl, Own.nil _ _ _ _, by simp [catP], Dg.nil _, HWA.out.1, HWA.out.2⟩
  case round =>
    obtain ⟨i, hi, rfl, hown, hxl, hxd, hbox, hbw⟩ := hrel
    clear HWA
    obtain ⟨n, hn⟩ : ∃ n, (catP L Z i).length = n := ⟨_, rfl⟩
    have HXS : Hid (Own 5 .u8 wr (g + 1) u3 (catP L Z i) ∧ Dg 256 (catP L Z i) ∧ wr.heap[g]? = some (.cells #[.slice a len cap] 27) ∧ Below g w wr ∧ g < wr.heap.size) := ⟨hown, hxd, hbox, hbw, (Array.getElem?_eq_some_iff.1 hbox).1⟩
    have HN : Hid ((catP L Z i).length = n) := hn
    obtain ⟨ao, cp, rfl, hnum⟩ := hown.num hxd (by omega)
    have HNUM : Hid (NumIn .u8 256 wr ao n cp (catP L Z i)) := by rw [hn] at hnum; exact hnum
    rw [hn] at hxl HXS ⊢
    clear hown hbw hxd hn hnum hbox
    by_cases hlt : i < len
    · have hltI : (i : Int) < (len : Int) := by omega
      obtain ⟨bq, off, rfl, hcc, hcm, hrows⟩ := HC.out.2.resolve_left (by omega)
      obtain ⟨hbq, hcell, hcame, hreach⟩ := hrows i hlt
      have hck := (HXS.out.2.2.2.1.cell (p := ⟨bq, off + i, none⟩) (by rw [← HG.out]; exact hbq)).trans hcell
      have HCM : Hid (Came .u8 w (A i) (L i) (C i) (Z i)) := hcame
      have HCS : Hid (catP L Z (i + 1) = catP L Z i ++ (Z i).take (L i)) := catP_succ L Z i
      clear hcame hcell hcm hrows
      by_cases h200 : 200 < i
      · have h200I : (200 : Int) < (i : Int) := by omega
        generalize A i = ai at *
        generalize L i = li at *
        generalize C i = ci at *
        go_wp2
        go_ret
        exact ⟨rfl, by rw [HG.out]; exact HXS.out.2.2.2.1⟩
      · have h200I : ¬ (200 : Int) < (i : Int) := by omega
        by_cases h20 : 20000 < n + L i
        · have h20I : (20000 : Int) < (n : Int) + (L i : Int) := by omega
          generalize A i = ai at *
          generalize L i = li at *
          generalize C i = ci at *
          go_wp2
          go_ret
          exact ⟨rfl, by rw [HG.out]; exact HXS.out.2.2.2.1⟩
        · have h20I : ¬ (20000 : Int) < (n : Int) + (L i : Int) := by omega
          have NB := HCM.out.num (B := 256) (fun _ => word_u8) (by omega)
          have HNB : Hid (Lies .u8 wr (A i) (L i) ((Z i).take (L i)) ∧ (A i = none → C i = 0) ∧ Dg 256 ((Z i).take (L i)) ∧ ((Z i).take (L i)).length = L i) := ⟨NB.lies.old (by rw [HG.out]; exact HXS.out.2.2.2.1), NB.nn, NB.dg, NB.len⟩
          have hl2 : (catP L Z i).length + L i ≤ 1073741824 := by rw [HN.out]; omega
          clear NB
          generalize A i = ai at *
          generalize (Z i).take (L i) = ys at *
          generalize L i = li at *
          generalize C i = ci at *
          go_wp2_with (at_builtin; refine wpList_append_nums rfl _ _ 22 rfl 5 .u8 1 Try.underlying22 Try.infoB' (g + 1) (.slice ao n cp) (catP L Z i) (by rfl) HXS.out.1 ai li ci ys (by rfl) HNB.out.1 HNB.out.2.1 hl2 (by decide) wr (Below.refl _ _) (by have := HXS.out.2.2.2.2; omega) ?_; intro v5 w5 hown5 hb5 _ hs5)
          refine ⟨⟨i + 1, by omega, by go_num, by rw [HCS.out]; exact hown5, by rw [HCS.out, List.length_append, HN.out, HNB.out.2.2.2]; omega, by rw [HCS.out]; exact HXS.out.2.1.append HNB.out.2.2.1, (hb5.block g (by omega)).trans HXS.out.2.2.1, HXS.out.2.2.2.1.trans (hb5.mono (by omega))⟩, ?_⟩
          simp [intOf]
          omega
    · have hltI : ¬ (i : Int) < (len : Int) := by omega
      obtain rfl : i = len := by omega
      obtain ⟨gc, hgc⟩ : ∃ gc, wr.heap.size = gc := ⟨_, rfl⟩
      have hcg : (wr.alloc (.cells #[.int .i64 0] 3)).cell? ⟨g, 0, none⟩ = some (.slice a i cap) := by
        rw [cell_of_row _ g 0 _ _ _ ((Below.heap_alloc _ _ _ HXS.out.2.2.2.2).trans HXS.out.2.2.1)]; rfl
      go_wp2_with fail
      refine (Values_any a i cap _).mono ?_
      rintro e w5 ⟨rfl, hw5⟩
      obtain ⟨w4, hw4⟩ : ∃ w4, wr.alloc (.cells #[.int .i64 0] 3) = w4 := ⟨_, rfl⟩
      have hs4 : w4.heap.size = gc + 1 := by rw [← hw4, World.size_alloc, hgc]
      have hs5 : w5.heap.size = gc + 1 + 1 := by rw [hw5, World.size_alloc, hw4, hs4]
      have hb45 : Below w4.heap.size w4 w5 := by rw [hw5, hw4]; exact below_alloc w4 _
      have hbr4 : Below wr.heap.size wr w4 := by rw [← hw4]; exact below_alloc wr _
      have hbr5 : Below wr.heap.size wr w5 := hbr4.trans (hb45.mono (by omega))
      have hcnt4 : w4.heap[gc]? = some (.cells #[.int .i64 0] 3) := by rw [← hw4, ← hgc]; exact World.alloc_heap_new _ _
      have hbv5 : w5.heap[gc + 1]? = some (.cells #[.slice a i cap] 27) := by rw [hw5, hw4, ← hs4]; exact World.alloc_heap_new _ _
      rw [hw4, hs4]
      have HW5 : Hid (w5.heap[gc]? = some (.cells #[.int .i64 0] 3) ∧ w5.heap[gc + 1]? = some (.cells #[.slice a i cap] 27) ∧ w5.heap[g]? = some (.cells #[.slice a i cap] 27) ∧ Below g w w5 ∧ w5.heap.size = gc + 1 + 1 ∧ Lies .u8 w5 ao n (catP L Z i) ∧ g < gc) := by
        obtain ⟨a1, a2, a3, a4, a5⟩ := HXS.out
        refine ⟨(hb45.block gc (by omega)).trans hcnt4, hbv5, (hbr5.block g a5).trans a3, a4.trans (hbr5.mono (by omega)), hs5, HNUM.out.lies.old hbr5, by omega⟩
      have HBK : Hid (∀ b off s, ao = some ⟨b, off, s⟩ → b < gc) := by
        have := HXS.out.1.blk
        intro b off s e
        have := this b off s e
        omega
      clear hw5 hw4 hs4 hs5 hb45 hbr4 hbr5 hcnt4 hbv5 hcg
      have hid : ∀ W : World, (id W : World) = W := fun _ => rfl
      have hrows5 : CameRows w5 a i cap A L C Z := HC.out.old (by rw [HG.out]; exact HW5.out.2.2.2.1)
      have HA1 := All_any 21 #[.pointer (some ⟨gc + 1, 0, none⟩)] (enters_of Try.func21 (by kernel_rfl) rfl) id w5 a i cap A L C Z hrows5 (by rw [HN.out]; omega)
        (fun l J W hB hp hY h0 => vals_iter 3 (by decide) l (gc + 1) a i cap A L C J W (by
          have hbx : W.heap[gc + 1]? = some (.cells #[.slice a i cap] 27) := (hB.block (gc + 1) (by rw [HW5.out.2.2.2.2.1]; omega)).trans HW5.out.2.1
          rw [cell_of_row W (gc + 1) 0 _ _ _ hbx]; rfl) hp hY h0)
        (fun W h => h) (fun W k _ => rfl) rfl
      have hl32 := shaS_length (catP L Z i)
      have HOF := fun w' hl' hb' => HOf_any (catP L Z i) ao n cp w' HXS.out.2.1 hl' HNUM.out.lc HNUM.out.cm HNUM.out.nn (by omega) hb'
      have HA2 := fun w7 (hr : CameRows (w7.setCell ⟨gc, 0, none⟩ (.int .i64 ((0 : Nat) + 1))) a i cap A L C Z) (hc : w7.heap[gc]? = some (.cells #[.int .i64 0] 3)) (hbx : w7.heap[g]? = some (.cells #[.slice a i cap] 27)) =>
        All_any 12 #[.pointer (some ⟨gc, 0, none⟩), .pointer (some ⟨g, 0, none⟩)] (enters_of Try.func12 (by kernel_rfl) rfl) (fun W => W.setCell ⟨gc, 0, none⟩ (.int .i64 ((0 : Nat) + 1))) w7 a i cap A L C Z hr (by rw [HN.out]; omega)
        (fun l J W hB hp hY h0 => by
          have hgcl : gc < w7.heap.size := (Array.getElem?_eq_some_iff.1 hc).1
          have hgl : g < w7.heap.size := (Array.getElem?_eq_some_iff.1 hbx).1
          have hcW := (hB.block gc hgcl).trans hc
          have hbW := (hB.block g hgl).trans hbx
          refine seq_iter 3 (by decide) l gc g 0 (by decide) a i cap A L C J W (by rw [cell_of_row W gc 0 _ _ _ hcW]; rfl) (frozen_of_row W gc 0 _ _ hcW) ?_ hp hY h0
          have hbW2 : (W.setCell ⟨gc, 0, none⟩ (.int .i64 ((0 : Nat) + 1))).heap[g]? = some (.cells #[.slice a i cap] 27) := by
            rw [heap_setCell_other _ _ _ _ (by show g ≠ gc; have := HW5.out.2.2.2.2.2.2; omega)]; exact hbW
          rw [cell_of_row _ g 0 _ _ _ hbW2]; rfl)
        (fun W h => below_set_both h _ _ (Array.getElem?_eq_some_iff.1 hc).1) (fun W k hk => heap_setCell_other _ _ _ _ (by have := (Array.getElem?_eq_some_iff.1 hc).1; show k ≠ gc; omega)) (by simp [World.setCell])
      generalize shaS (catP L Z i) = hv at *
      go_wp2_with fail
      refine HA1.mono ?_
      rintro e w6 ⟨rfl, hb6⟩
      have hb6' : Below w5.heap.size w5 w6 := hb6
      clear hb6 HA1
      go_wp2_with fail
      refine (HOF w6 (HW5.out.2.2.2.2.2.1.old hb6') (fun b off s e => by have := HBK.out b off s e; have := HW5.out.2.2.2.2.1; have := hb6'.size; omega)).mono ?_
      rintro e w7 ⟨rfl, hb7⟩
      have HW7 : Hid (w7.heap[gc]? = some (.cells #[.int .i64 0] 3) ∧ w7.heap[g]? = some (.cells #[.slice a i cap] 27) ∧ Below g w w7 ∧ gc + 1 < w7.heap.size ∧ Lies .u8 w7 ao n (catP L Z i) ∧ g < gc) := by
        obtain ⟨a1, a2, a3, a4, a5, a6, a7⟩ := HW5.out
        have hb57 : Below w5.heap.size w5 w7 := hb6'.trans (hb7.mono hb6'.size)
        exact ⟨(hb57.block gc (by omega)).trans a1, (hb57.block g (by omega)).trans a3, a4.trans (hb57.mono (by omega)), by have := hb57.size; omega, a6.old hb57, a7⟩
      clear hb6' hb7 HW5
      go_wp2_with ((with_reducible show wpList _ _ _ (Oper.mk _ (Op.binOp .eql _ _ _ _) _ _ _ none :: _) _ _); refine wpList_eql_ag (by with_reducible rfl) _ _ _ (by with_reducible rfl) hv hl32 (by rfl) (by rfl) ?_)
      have hbs7 : Below g w (w7.setCell ⟨gc, 0, none⟩ (.int .i64 ((0 : Nat) + 1))) := HW7.out.2.2.1.setCell (p := ⟨gc, 0, none⟩) (show g ≤ gc by have := HW7.out.2.2.2.2.2; omega) _
      refine (HA2 w7 (HC.out.old (by rw [HG.out]; exact hbs7)) HW7.out.1 HW7.out.2.1).mono ?_
      rintro e w8 ⟨rfl, hb8⟩
      have HW8 : Hid (w8.heap[gc]? = some (.cells #[.int .i64 1] 3) ∧ Below g w w8 ∧ gc + 1 < w8.heap.size ∧ Lies .u8 w8 ao n (catP L Z i)) := by
        obtain ⟨a1, a2, a3, a4, a5, a6⟩ := HW7.out
        have hsz : (w7.setCell ⟨gc, 0, none⟩ (.int .i64 ((0 : Nat) + 1))).heap.size = w7.heap.size := by simp [World.setCell]
        have hz8 := hb8.size
        rw [hsz] at hz8
        refine ⟨?_, hbs7.trans (hb8.mono (by omega)), by omega, ?_⟩
        · rw [hb8.block gc (by omega), heap_setCell_same w7 gc 0 _ _ _ a1]
          rfl
        · have hlz : Lies .u8 (w7.setCell ⟨gc, 0, none⟩ (.int .i64 ((0 : Nat) + 1))) ao n (catP L Z i) := (But.setCell gc w7 0 _).lies a5 (fun b off s e => by have := HBK.out b off s e; omega)
          exact hlz.old (by rw [hsz]; exact hb8)
      clear hb8 hbs7 HA2 HW7
      go_wp2_with fail
      refine (HOF w8 HW8.out.2.2.2 (fun b off s e => by have := HBK.out b off s e; have := HW8.out.2.2.1; omega)).mono ?_
      rintro e w9 ⟨rfl, hb9⟩
      have hc9 : w9.cell? ⟨gc, 0, none⟩ = some (.int .i64 1) := by
        rw [cell_of_row w9 gc 0 _ _ _ ((hb9.block gc (by have := HW8.out.2.2.1; omega)).trans HW8.out.1)]; rfl
      have HW9 : Hid (Below g w w9) := HW8.out.2.1.trans (hb9.mono (by have := HW8.out.2.2.1; have := HXS.out.2.2.2.2; omega))
      clear hb9 HOF HW8
      go_wp2_with ((with_reducible show wpList _ _ _ (Oper.mk _ (Op.binOp .eql _ _ _ _) _ _ _ (some _) :: _) _ _); refine wpList_unguard (by rfl) ?_; refine wpList_eql_ag rfl _ _ _ rfl hv hl32 (by rfl) (by rfl) ?_)
      go_ret
      exact ⟨rfl, by rw [HG.out]; exact HW9.out⟩
end Go.Proofs.Ytclejcjbnmgaiaa
