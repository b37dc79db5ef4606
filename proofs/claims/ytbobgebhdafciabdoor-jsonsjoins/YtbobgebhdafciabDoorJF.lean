/-
  A node's members gone over; find.
-/
import Derived.Test.YtbobgebhdafciabDoorJP
import Derived.RangeFuncNested
import Derived.RangeFuncBound
import Derived.RangeFuncCalls
import Derived.RangeFuncLeaves
import Derived.Shelf.Abstract
import Derived.Shelf.RegionOpen
import Derived.OwnWalkIn
import Derived.TacticsInMore
import Derived.LoopNIn
import Derived.LoopIn
import Derived.Stop.RegionWithIn
namespace Go.Proofs.YtbobgebhdafciabDoor
open Go.Shelf Go.RowKit
set_option linter.unusedVariables false
set_option linter.unusedSimpArgs false
attribute [local go_sem] Oper.semAt_some

/-- A slice that holds these values, one cell each; below n₀. -/
structure RowAt (w : World) (n₀ : Nat) (p : Option Addr) (n : Nat) (xs : List Value) : Prop where
  len : xs.length = n
  cells : 0 < n → ∃ b o, p = some ⟨b, o, none⟩ ∧ b < n₀ ∧ ∀ i, i < n → w.cell? ⟨b, o + i, none⟩ = xs[i]?
theorem RowAt.keep {w w' : World} {n₀ n₁ : Nat} {p : Option Addr} {n : Nat} {xs : List Value} (h : RowAt w n₀ p n xs) (hb : Below n₁ w w') (hn : n₀ ≤ n₁) : RowAt w' n₀ p n xs :=
  ⟨h.len, fun h0 => by
    obtain ⟨b, o, rfl, hlt, hc⟩ := h.cells h0
    exact ⟨b, o, rfl, hlt, fun i hi => by rw [hb.cell (p := ⟨b, o + i, none⟩) (by show b < n₁; omega)]; exact hc i hi⟩⟩

abbrev encM (p : Bs × Int) : Array Value := #[.string ⟨p.1.toArray⟩, .int .i64 p.2]
/-- The members: names and places, as far as there are both. -/
def memL (ns : List Bs) (ks : List Int) : List (Bs × Int) := ns.zip ks
theorem memL_len (ns : List Bs) (ks : List Int) : (memL ns ks).length = min ns.length ks.length := by simp [memL]
theorem memL_get (ns : List Bs) (ks : List Int) (k : Nat) (h1 : k < ns.length) (h2 : k < ks.length) : (memL ns ks)[k]? = some (ns[k], ks[k]) := by
  unfold memL
  exact List.getElem?_zip_eq_some.2 ⟨List.getElem?_eq_getElem h1, List.getElem?_eq_getElem h2⟩
theorem memL_take (ns : List Bs) (ks : List Int) (k : Nat) (h1 : k < ns.length) (h2 : k < ks.length) : (memL ns ks).take (k + 1) = (memL ns ks).take k ++ [(ns[k], ks[k])] := by
  have hl : k < (memL ns ks).length := by rw [memL_len]; omega
  rw [List.take_succ_eq_append_getElem hl]
  congr 2
  have := memL_get ns ks k h1 h2
  rw [List.getElem?_eq_getElem hl] at this
  exact Option.some.inj this

set_option maxRecDepth 100000 in
set_option maxHeartbeats 4000000 in
theorem members_stops (n : Nat) (hn : 1 ≤ n) (w0 : World) (gN gK : Nat) (pN pK : Option Addr) (cN cK : Nat) (ns : List Bs) (ks : List Int)
    (hN : w0.cell? ⟨gN, 0, none⟩ = some (.slice pN ns.length cN)) (hK : w0.cell? ⟨gK, 0, none⟩ = some (.slice pK ks.length cK)) (hgN : gN < w0.heap.size) (hgK : gK < w0.heap.size)
    (rN : RowAt w0 w0.heap.size pN ns.length (strs ns)) (rK : RowAt w0 w0.heap.size pK ks.length (ks.map (Value.int .i64))) (hb1 : ns.length ≤ 4611686018427387904) (hb2 : ks.length ≤ 4611686018427387904) :
    SeqStopsK Fence.wide n Tryd.prog 55 #[.pointer (some ⟨gN, 0, none⟩), .pointer (some ⟨gK, 0, none⟩)] encM (Below w0.heap.size) (fun xs => xs = memL ns ks) (fun pre => pre <+: memL ns ks) (min ns.length ks.length) w0 := fun l J Jx W hW hJ hJx hY h0 => by
  have hcN := (hW.cell (p := ⟨gN, 0, none⟩) hgN).trans hN
  have hcK := (hW.cell (p := ⟨gK, 0, none⟩) hgK).trans hK
  obtain ⟨a, ha⟩ : ∃ a, ns.length = a := ⟨_, rfl⟩
  obtain ⟨b, hb⟩ : ∃ b, ks.length = b := ⟨_, rfl⟩
  have HW : Hid (Below w0.heap.size w0 W) := hW
  have HC : Hid (w0.cell? ⟨gN, 0, none⟩ = some (.slice pN a cN) ∧ w0.cell? ⟨gK, 0, none⟩ = some (.slice pK b cK) ∧ RowAt w0 w0.heap.size pN a (strs ns) ∧ RowAt w0 w0.heap.size pK b (ks.map (Value.int .i64)) ∧ ns.length = a ∧ ks.length = b) := by rw [ha] at hN rN; rw [hb] at hK rK; exact ⟨hN, hK, rN, rK, ha, hb⟩
  rw [ha] at hcN hb1 hY
  rw [hb] at hcK hb2 hY
  clear hJx hW hN hK rN rK ha hb
  obtain ⟨M, hM⟩ : ∃ M, min a b = M := ⟨_, rfl⟩
  have hMI : min (a : Int) (b : Int) = (M : Int) := by omega
  rw [hM] at hY
  have HM : Hid (min a b = M) := hM
  clear hM
  refine callsIn_of_wp Tryd.func55 rfl trivial ?_ rfl
  simp only [Tryd.ntmps55, List.size_toArray, List.length_cons, List.length_nil, Nat.reduceAdd, Nat.reduceSub, Array.replicate_succ, Array.replicate_zero, List.push_toArray, List.append_toArray, List.nil_append, List.cons_append]
  gi_wp2
  gi_loopw [4, 10] (fun _ vi wr => ∃ (k : Nat), k ≤ M ∧ vi = .int .i64 k ∧ J ((memL ns ks).take k) wr ∧ Below w0.heap.size w0 wr) (fun _ vi _ => M - (intOf vi).toNat)
  case atStart => exact ⟨0, Nat.zero_le _, rfl, by rw [List.take_zero]; exact h0, HW.out⟩
  case round =>
    obtain ⟨k, hk, rfl, hJs, hb⟩ := hrel
    clear hcN hcK HW h0
    by_cases hlt : k < M
    · have hka : k < a := by have := HM.out; omega
      have hkb : k < b := by have := HM.out; omega
      have hc1 := (hb.cell (p := ⟨gN, 0, none⟩) hgN).trans HC.out.1
      have hc2 := (hb.cell (p := ⟨gK, 0, none⟩) hgK).trans HC.out.2.1
      have hka' : k < ns.length := by rw [HC.out.2.2.2.2.1]; exact hka
      have hkb' : k < ks.length := by rw [HC.out.2.2.2.2.2]; exact hkb
      obtain ⟨b1, o1, hp1, hlt1, hr1⟩ := (HC.out.2.2.1.keep hb (Nat.le_refl _)).cells (by omega)
      obtain ⟨b2, o2, hp2, hlt2, hr2⟩ := (HC.out.2.2.2.1.keep hb (Nat.le_refl _)).cells (by omega)
      have hd1 := hr1 k hka
      have hd2 := hr2 k hkb
      rw [show (strs ns)[k]? = some (.string ⟨(ns[k]).toArray⟩) by simp [strs, hka']] at hd1
      rw [show (ks.map (Value.int .i64))[k]? = some (.int .i64 ks[k]) by simp [hkb']] at hd2
      rw [hp1] at hc1
      rw [hp2] at hc2
      obtain ⟨fn, tmps, assign, body, hy, hR⟩ := hY ((memL ns ks).take k) (ns[k], ks[k]) wr.drew (hJ _ _ _ none hJs ⟨rfl, rfl, rfl, Nat.le_refl _, fun _ _ _ => rfl⟩ (fun _ e => by cases e)) (by rw [List.length_take, memL_len]; have := HM.out; have := HC.out.2.2.2.2; omega)
      have HB : Hid (Below w0.heap.size w0 wr ∧ (memL ns ks).take (k + 1) = (memL ns ks).take k ++ [(ns[k], ks[k])]) := ⟨hb, memL_take ns ks k hka' hkb'⟩
      dsimp only [encM] at hy
      generalize ns[k] = s at *
      generalize ks[k] = kk at *
      clear hb hY hr1 hr2 hp1 hp2
      gi_wp2
      clear hJ
      have hR2 := hR.mono (R' := fun e W' => ∃ t, e = .returned (.bool t) ∧ Hid ((t = true ∧ J ((memL ns ks).take (k + 1)) W' ∧ Below w0.heap.size wr W') ∨ (t = false ∧ Jx ((memL ns ks).take (k + 1)) W'))) (by
        rintro e W' (⟨rfl, h1, h2⟩ | ⟨rfl, h1⟩)
        · exact ⟨true, rfl, .inl ⟨rfl, by rw [HB.out.2]; exact h1, ⟨h2.os, h2.tape, h2.output, h2.size, h2.block⟩⟩⟩
        · exact ⟨false, rfl, .inr ⟨rfl, by rw [HB.out.2]; exact h1⟩⟩)
      clear hR
      gi_region_with (refine hR2.mono ?_; rintro e W3 ⟨t, rfl, hE⟩)
      all_goals (
        clear hR2 hy hJs
        cases t
        · obtain ⟨h, _⟩ | ⟨_, hJx3⟩ := hE.out
          · cases h
          gi_wp2
          refine bodyPost_ret (results_none rfl _ _ _) rfl ?_
          exact ⟨⟨_, rfl⟩, .inr ⟨_, List.take_prefix _ _, hJx3⟩⟩
        · obtain ⟨_, hJ3, hk3⟩ | ⟨h, _⟩ := hE.out
          · gi_wp2
            go_roundw
            case rel => exact ⟨k + 1, by omega, by go_num, hJ3, HB.out.1.trans hk3⟩
            case measure => simp [intOf] <;> omega
          · cases h)
    · obtain rfl : k = M := by omega
      clear hY
      gi_wp2
      go_end0
      exact ⟨⟨_, rfl⟩, .inl ⟨_, List.take_of_length_le (by rw [memL_len, HC.out.2.2.2.2.1, HC.out.2.2.2.2.2, HM.out]; exact Nat.le_refl _), hJs⟩⟩
end Go.Proofs.YtbobgebhdafciabDoor
