/-
  The iterator over members, while one cell may change.
-/
import Derived.Test.YtbobgebhdafciaaDoorJGo
namespace Go.Proofs.YtbobgebhdafciaaDoor
open Go.Shelf Go.RowKit
set_option linter.unusedVariables false
set_option linter.unusedSimpArgs false

/-- All below B but block q is as it was. -/
structure BelowX (B q : Nat) (w w' : World) : Prop where
  os : w'.os = w.os
  tape : w'.tape = w.tape
  output : w'.output = w.output
  size : w.heap.size ≤ w'.heap.size
  block : ∀ k, k < B → k ≠ q → w'.heap[k]? = w.heap[k]?
theorem BelowX.of {B q : Nat} {w w' : World} (h : Below B w w') : BelowX B q w w' := ⟨h.os, h.tape, h.output, h.size, fun k hk _ => h.block k hk⟩
theorem BelowX.trans {B q : Nat} {a b c : World} (h : BelowX B q a b) (k : BelowX B q b c) : BelowX B q a c := ⟨k.os.trans h.os, k.tape.trans h.tape, k.output.trans h.output, Nat.le_trans h.size k.size, fun i hi hq => (k.block i hi hq).trans (h.block i hi hq)⟩
theorem BelowX.cell {B q : Nat} {w w' : World} (h : BelowX B q w w') {p : Addr} (hp : p.block < B) (hq : p.block ≠ q) : w'.cell? p = w.cell? p := World.cell?_of_block (h.block p.block hp hq)
theorem RowAt.keepX {w w' : World} {B q : Nat} {p : Option Addr} {n : Nat} {xs : List Value} (h : RowAt w B p n xs) (hb : BelowX B q w w') (hq : ∀ a, p = some a → a.block ≠ q) : RowAt w' B p n xs :=
  ⟨h.len, fun h0 => by
    obtain ⟨b, o, rfl, hlt, hc⟩ := h.cells h0
    exact ⟨b, o, rfl, hlt, fun i hi => by rw [hb.cell (p := ⟨b, o + i, none⟩) hlt (hq ⟨b, o, none⟩ rfl)]; exact hc i hi⟩⟩

set_option maxRecDepth 100000 in
set_option maxHeartbeats 4000000 in
theorem members_stopsX (q : Nat) (n : Nat) (hn : 1 ≤ n) (w0 : World) (gN gK : Nat) (pN pK : Option Addr) (cN cK : Nat) (ns : List Bs) (ks : List Int)
    (hN : w0.cell? ⟨gN, 0, none⟩ = some (.slice pN ns.length cN)) (hK : w0.cell? ⟨gK, 0, none⟩ = some (.slice pK ks.length cK)) (hgN : gN < w0.heap.size) (hgK : gK < w0.heap.size)
    (rN : RowAt w0 w0.heap.size pN ns.length (strs ns)) (rK : RowAt w0 w0.heap.size pK ks.length (ks.map (Value.int .i64))) (hb1 : ns.length ≤ 4611686018427387904) (hb2 : ks.length ≤ 4611686018427387904) (qN : gN ≠ q) (qK : gK ≠ q) (qrN : ∀ a, pN = some a → a.block ≠ q) (qrK : ∀ a, pK = some a → a.block ≠ q) :
    SeqStopsK Fence.wide n Tryd.prog 51 #[.pointer (some ⟨gN, 0, none⟩), .pointer (some ⟨gK, 0, none⟩)] encM (BelowX w0.heap.size q) (fun xs => xs = memL ns ks) (fun pre => pre <+: memL ns ks) (min ns.length ks.length) w0 := fun l J Jx W hW hJ hJx hY h0 => by
  have hcN := (hW.cell (p := ⟨gN, 0, none⟩) hgN).trans hN
  have hcK := (hW.cell (p := ⟨gK, 0, none⟩) hgK).trans hK
  obtain ⟨a, ha⟩ : ∃ a, ns.length = a := ⟨_, rfl⟩
  obtain ⟨b, hb⟩ : ∃ b, ks.length = b := ⟨_, rfl⟩
  have HW : Hid (BelowX w0.heap.size q w0 W) := BelowX.of hW
  have HC : Hid (w0.cell? ⟨gN, 0, none⟩ = some (.slice pN a cN) ∧ w0.cell? ⟨gK, 0, none⟩ = some (.slice pK b cK) ∧ RowAt w0 w0.heap.size pN a (strs ns) ∧ RowAt w0 w0.heap.size pK b (ks.map (Value.int .i64)) ∧ ns.length = a ∧ ks.length = b) := by rw [ha] at hN rN; rw [hb] at hK rK; exact ⟨hN, hK, rN, rK, ha, hb⟩
  rw [ha] at hcN hb1 hY
  rw [hb] at hcK hb2 hY
  clear hJx hW hN hK rN rK ha hb
  obtain ⟨M, hM⟩ : ∃ M, min a b = M := ⟨_, rfl⟩
  have hMI : min (a : Int) (b : Int) = (M : Int) := by omega
  rw [hM] at hY
  have HM : Hid (min a b = M) := hM
  clear hM
  refine callsIn_of_wp Tryd.func51 rfl trivial ?_ rfl
  simp only [Tryd.ntmps51, List.size_toArray, List.length_cons, List.length_nil, Nat.reduceAdd, Nat.reduceSub, Array.replicate_succ, Array.replicate_zero, List.push_toArray, List.append_toArray, List.nil_append, List.cons_append]
  gi_wp2
  gi_loopw [4, 10] (fun _ vi wr => ∃ (k : Nat), k ≤ M ∧ vi = .int .i64 k ∧ J ((memL ns ks).take k) wr ∧ BelowX w0.heap.size q w0 wr) (fun _ vi _ => M - (intOf vi).toNat)
  case atStart => exact ⟨0, Nat.zero_le _, rfl, by rw [List.take_zero]; exact h0, HW.out⟩
  case round =>
    obtain ⟨k, hk, rfl, hJs, hb⟩ := hrel
    clear hcN hcK HW h0
    by_cases hlt : k < M
    · have hka : k < a := by have := HM.out; omega
      have hkb : k < b := by have := HM.out; omega
      have hc1 := (hb.cell (p := ⟨gN, 0, none⟩) hgN qN).trans HC.out.1
      have hc2 := (hb.cell (p := ⟨gK, 0, none⟩) hgK qK).trans HC.out.2.1
      have hka' : k < ns.length := by rw [HC.out.2.2.2.2.1]; exact hka
      have hkb' : k < ks.length := by rw [HC.out.2.2.2.2.2]; exact hkb
      obtain ⟨b1, o1, hp1, hlt1, hr1⟩ := (HC.out.2.2.1.keepX hb qrN).cells (by omega)
      obtain ⟨b2, o2, hp2, hlt2, hr2⟩ := (HC.out.2.2.2.1.keepX hb qrK).cells (by omega)
      have hd1 := hr1 k hka
      have hd2 := hr2 k hkb
      rw [show (strs ns)[k]? = some (.string ⟨(ns[k]).toArray⟩) by simp [strs, hka']] at hd1
      rw [show (ks.map (Value.int .i64))[k]? = some (.int .i64 ks[k]) by simp [hkb']] at hd2
      rw [hp1] at hc1
      rw [hp2] at hc2
      obtain ⟨fn, tmps, assign, body, hy, hR⟩ := hY ((memL ns ks).take k) (ns[k], ks[k]) wr.drew (hJ _ _ _ none hJs ⟨rfl, rfl, rfl, Nat.le_refl _, fun _ _ _ => rfl⟩ (fun _ e => by cases e)) (by rw [List.length_take, memL_len]; have := HM.out; have := HC.out.2.2.2.2; omega)
      have HB : Hid (BelowX w0.heap.size q w0 wr ∧ (memL ns ks).take (k + 1) = (memL ns ks).take k ++ [(ns[k], ks[k])]) := ⟨hb, memL_take ns ks k hka' hkb'⟩
      dsimp only [encM] at hy
      generalize ns[k] = s at *
      generalize ks[k] = kk at *
      clear hb hY hr1 hr2 hp1 hp2
      gi_wp2
      clear hJ
      have hR2 := hR.mono (R' := fun e W' => ∃ t, e = .returned (.bool t) ∧ Hid ((t = true ∧ J ((memL ns ks).take (k + 1)) W' ∧ BelowX w0.heap.size q wr W') ∨ (t = false ∧ Jx ((memL ns ks).take (k + 1)) W'))) (by
        rintro e W' (⟨rfl, h1, h2⟩ | ⟨rfl, h1⟩)
        · exact ⟨true, rfl, .inl ⟨rfl, by rw [HB.out.2]; exact h1, ⟨h2.os, h2.tape, h2.output, h2.size, h2.block⟩⟩⟩
        · exact ⟨false, rfl, .inr ⟨rfl, by rw [HB.out.2]; exact h1⟩⟩)
      clear hR
      gi_region_with (refine hR2.mono ?_; rintro e W3 ⟨t, rfl, hE⟩)
      all_goals (
        clear hR2 hy hJs
        cases t
        · obtain ⟨h, _⟩ | ⟨_, hJx3⟩ := hE.out
          · cases h
          gi_wp2
          refine bodyPost_ret (results_none rfl _ _ _) rfl ?_
          exact ⟨⟨_, rfl⟩, .inr ⟨_, List.take_prefix _ _, hJx3⟩⟩
        · obtain ⟨_, hJ3, hk3⟩ | ⟨h, _⟩ := hE.out
          · gi_wp2
            go_roundw
            case rel => exact ⟨k + 1, by omega, by go_num, hJ3, HB.out.1.trans hk3⟩
            case measure => simp [intOf] <;> omega
          · cases h)
    · obtain rfl : k = M := by omega
      clear hY
      gi_wp2
      go_end0
      exact ⟨⟨_, rfl⟩, .inl ⟨_, List.take_of_length_le (by rw [memL_len, HC.out.2.2.2.2.1, HC.out.2.2.2.2.2, HM.out]; exact Nat.le_refl _), hJs⟩⟩
end Go.Proofs.YtbobgebhdafciaaDoor
