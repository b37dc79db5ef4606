/-
  The iterator that nat.Bits hands out: what it yields.
-/
import Derived.Test.YtdojbknkaoiioaaBitC
namespace Go.Proofs.Ytdojbknkaoiioaa
open Go.RowKit Go.Shelf
set_option linter.unusedVariables false
set_option linter.unusedSimpArgs false
attribute [local go_sem] Oper.semAt_some

abbrev encB (p : Int × Bool) : Array Value := #[.int .i64 p.1, .bool p.2]
/-- A number's bits, from the greatest one on. -/
def bitOf (V : Int) (L i : Nat) : Int × Bool := (((L - 1 - i : Nat) : Int), bitAt V (L - 1 - i) == 1)
def bitsOf (V : Int) (L k : Nat) : List (Int × Bool) := (List.range k).map (bitOf V L)
theorem bitsOf_succ (V : Int) (L k : Nat) : bitsOf V L (k + 1) = bitsOf V L k ++ [bitOf V L k] := by simp [bitsOf, List.range_succ]
theorem bitsOf_len (V : Int) (L k : Nat) : (bitsOf V L k).length = k := by simp [bitsOf]
theorem bitsOf_pre (V : Int) (L k m : Nat) (h : k ≤ m) : bitsOf V L k <+: bitsOf V L m := by
  obtain ⟨d, rfl⟩ := Nat.le.dest h
  clear h
  induction d with
  | zero => exact List.prefix_refl _
  | succ d ih => rw [← Nat.add_assoc, bitsOf_succ]; exact ih.trans (List.prefix_append _ _)
theorem bitsOf_take (V : Int) (L : Nat) (pre : List (Int × Bool)) (x : Int × Bool) (h : pre ++ [x] <+: bitsOf V L L) : x = bitOf V L pre.length := by
  obtain ⟨t, ht⟩ := h
  have h1 : (bitsOf V L L)[pre.length]? = some x := by rw [← ht]; simp
  have h2 : pre.length < L := by
    have := congrArg List.length ht
    rw [bitsOf_len] at this
    simp at this
    omega
  rw [bitsOf, List.getElem?_map, List.getElem?_range h2] at h1
  simpa using h1.symm

set_option maxRecDepth 100000 in
set_option maxHeartbeats 2000000 in
theorem bits_stops (n : Nat) (hn : 1 ≤ n) (w0 : World) (g3 g4 : Nat) (V : Int) (L : Nat) (h : BitsAt w0 g3 g4 V L) :
    SeqStopsK Fence.wide n Try.prog 74 #[.pointer (some ⟨g4, 0, none⟩), .pointer (some ⟨g3, 0, none⟩)] encB (Below w0.heap.size) (fun xs => xs = bitsOf V L L) (fun pre => pre <+: bitsOf V L L) L w0 := fun l J Jx W hW hJ hJx hY h0 => by
  obtain ⟨ao, la, ca, xs, hg3, hg4, hc4, hc3, hnum, hv, hL⟩ := h
  have HW : Hid (Below w0.heap.size w0 W) := hW
  have HN : Hid (NumIn .u64 B64 w0 ao la ca xs ∧ val B64 xs = V) := ⟨hnum, hv⟩
  have HC : Hid (w0.cell? ⟨g4, 0, none⟩ = some (.int .i64 L) ∧ w0.cell? ⟨g3, 0, none⟩ = some (.slice ao la ca)) := ⟨hc4, hc3⟩
  have hcW := (hW.cell (p := ⟨g4, 0, none⟩) hg4).trans hc4
  clear hJ hJx hnum hv hc4 hc3 hW
  refine callsIn_of_wp Try.func74 rfl trivial ?_ rfl
  simp only [Try.ntmps74, List.size_toArray, List.length_cons, List.length_nil, Nat.reduceAdd, Nat.reduceSub, Array.replicate_succ, Array.replicate_zero, List.push_toArray, List.append_toArray, List.nil_append, List.cons_append]
  gi_wp2
  gi_loopw [4, 5, 7] (fun _ _ vi wr => ∃ (k : Nat), k ≤ L ∧ vi = .int .i64 k ∧ J (bitsOf V L k) wr ∧ Below w0.heap.size w0 wr) (fun _ _ vi _ => L - (intOf vi).toNat)
  case atStart => exact ⟨0, Nat.zero_le _, rfl, h0, HW.out⟩
  case round =>
    obtain ⟨k, hk, rfl, hJs, hb⟩ := hrel
    clear hcW HW h0
    by_cases hlt : k < L
    · have hc4 := (hb.cell (p := ⟨g4, 0, none⟩) hg4).trans HC.out.1
      have hc3 := (hb.cell (p := ⟨g3, 0, none⟩) hg3).trans HC.out.2
      obtain ⟨fn, tmps, assign, body, hy, hR⟩ := hY (bitsOf V L k) (bitOf V L k) wr hJs (by rw [bitsOf_len]; exact hlt)
      have HI := isSet_any ao la ca xs (L - 1 - k) wr (HN.out.1.old hb) (by omega)
      rw [HN.out.2] at HI
      dsimp only [encB, bitOf] at hy
      obtain ⟨p, hp⟩ : ∃ p, L - 1 - k = p := ⟨_, rfl⟩
      have ep : (L : Int) - 1 - (k : Int) = (p : Int) := by omega
      rw [hp] at hy HI
      clear hp
      have HB : Hid (Below w0.heap.size w0 wr) := hb
      have HP : Hid (bitsOf V L (k + 1) = bitsOf V L k ++ [bitOf V L k] ∧ bitsOf V L (k + 1) <+: bitsOf V L L) := ⟨bitsOf_succ V L k, bitsOf_pre V L _ _ (by omega)⟩
      clear hb hY
      generalize (bitAt V p == 1) = bb at *
      generalize bitOf V L k = bk at *
      gi_wp2_with (refine ⟨trivial, ?_⟩; gi_at_call 75; refine (callsIn_wide.2 HI).mono ?_; rintro e w' ⟨rfl, rfl⟩)
      refine hR.mono ?_
      rintro e W3 (⟨rfl, hJ3, hk3⟩ | ⟨rfl, hJx3⟩)
      · rw [← HP.out.1] at hJ3
        clear hR hy HI hc3 hc4 hJs
        gi_wp2
        go_roundw
        case rel => exact ⟨k + 1, by omega, by go_num, hJ3, HB.out.trans hk3⟩
        case measure => simp [intOf] <;> omega
      · rw [← HP.out.1] at hJx3
        clear hR hy HI hc3 hc4 hJs
        gi_wp2
        refine bodyPost_ret (results_none rfl _ _ _) rfl ?_
        exact ⟨⟨_, rfl⟩, .inr ⟨_, HP.out.2, hJx3⟩⟩
    · obtain rfl : k = L := by omega
      clear hY
      gi_wp2
      go_end0
      exact ⟨⟨_, rfl⟩, .inl ⟨_, rfl, hJs⟩⟩
end Go.Proofs.Ytdojbknkaoiioaa
