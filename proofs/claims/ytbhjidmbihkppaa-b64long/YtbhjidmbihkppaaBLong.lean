/-
  The walk of B64Long.
-/
import Derived.Test.YtbhjidmbihkppaaB64W
namespace Go.Proofs.Ytbhjidmbihkppaa
open Go.RowKit
set_option linter.unusedVariables false
set_option linter.unusedSimpArgs false

theorem cods_str {xs : List Int} (h : Dg 256 xs) : cods (strOfNums xs) = nats xs := by
  unfold cods strOfNums nats
  simp only [List.map_map]
  apply List.map_congr_left
  intro x hx
  have := h x hx
  simp
  omega
theorem str_size (xs : List Int) : (strOfNums xs).size = xs.length := by
  simp [strOfNums, ByteArray.size]

theorem own_slice {e : TypeId} {k : IntKind} {w : World} {base : Nat} {v : Value} {xs : List Int} (h : Own e k w base v xs) (n : Nat) (hn : xs.length = n) : ∃ ao cap, v = .slice ao n cap := by
  subst hn
  rcases h.2 with ⟨rfl, h0⟩ | ⟨g, cap, cur, rfl, _⟩
  · exact ⟨none, 0, by rw [h0]⟩
  · exact ⟨_, cap, rfl⟩
/-- The bytes, i of them in their places. -/
def FillP (n i : Nat) (cur : List Int) : Prop := cur.length = n ∧ ∀ j, j < i → cur.getD j 0 = 65
theorem FillP.step {n i : Nat} {cur : List Int} (h : FillP n i cur) (hi : i < n) : FillP n (i + 1) (cur.set i 65) := by
  refine ⟨by simpa using h.1, fun j hj => ?_⟩
  by_cases e : j = i
  · subst e; simp [List.getD, show j < cur.length by rw [h.1]; exact hi]
  · simp only [List.getD, List.getElem?_set_ne (fun x => e x.symm)]; exact h.2 j (by omega)
theorem FillP.done {n : Nat} {cur : List Int} (h : FillP n n cur) : cur = List.replicate n 65 := by
  apply List.ext_getElem (by simp [h.1])
  intro j h1 h2
  have := h.2 j (by rw [← h.1]; exact h1)
  simpa [List.getD, h1] using this

theorem long_dg (n : Nat) : Dg 256 (List.replicate n (65 : Int)) := fun x hx => by
  have := List.eq_of_mem_replicate hx
  omega
theorem long_good (n : Nat) (h : 6 * n % 8 = 0) : Good (cods (strOfNums (List.replicate n 65))) := by
  rw [cods_str (long_dg n)]
  refine ⟨fun c hc => ?_, ?_⟩
  · obtain ⟨y, hy, rfl⟩ := List.mem_map.1 hc
    rw [List.eq_of_mem_replicate hy]; rfl
  · unfold Full
    rw [List.length_map, nats_length, List.length_replicate, h]
    exact ⟨by decide, Nat.mod_one _⟩
theorem long_len (n : Nat) : (ints (byt ((cods (strOfNums (List.replicate n 65))).map vS))).length = 6 * n / 8 := by
  rw [ints_length, byt_length, List.length_map, cods_str (long_dg n), nats_length, List.length_replicate]

set_option maxHeartbeats 2000000 in
/-- A text as long as may be, and longer. -/
theorem B64Long_walk (o : Nat) (w : World) (ho : o < 256) :
    Calls Try.prog 6 #[.int .u8 o] w fun e w' => e = .returned (.bool true) ∧ Below w.heap.size w w' := by
  obtain ⟨q, hq⟩ : ∃ q, o % 3 = q := ⟨_, rfl⟩
  have hqI : (o : Int) % 3 = (q : Int) := by omega
  have hq3 : q < 3 := by omega
  obtain ⟨n, hn⟩ : ∃ n, 16384 + 4 * q = n := ⟨_, rfl⟩
  have hnI : 16384 + 4 * (q : Int) = (n : Int) := by omega
  have hn2 : n ≤ 16400 := by omega
  have HN : Hid (16384 + 4 * q = n) := hn
  clear hn hq
  go_enter Try.func6, Try.ntmps6
  go_wp2_with fail
  refine (BAwake_any w).mono ?_
  rintro e wA ⟨rfl, hbA⟩
  go_wp2_with (at_make; refine wpList_make_row _ rfl _ _ 22 rfl 5 .u8 1 Try.underlying22 Try.infoB _ _ _ _ n rfl rfl (by first | rfl | omega) (by first | rfl | omega) (by omega) (by unfold maxLen; omega) ?_; intro w1 hr1 hb1)
  have HR1 : Hid (Row 5 .u8 w1 wA.heap.size (List.replicate n 0) ∧ Below w.heap.size w w1 ∧ w.heap.size ≤ wA.heap.size) := ⟨hr1, hbA.trans (hb1.mono hbA.size), hbA.size⟩
  clear hr1 hb1 hbA
  generalize wA.heap.size = gb at *
  go_loopw [19] (fun vi wr => ∃ (i : Nat) (cur : List Int), i ≤ n ∧ vi = .int .i64 i ∧ Row 5 .u8 wr gb cur ∧ FillP n i cur ∧ Below w.heap.size w wr) (fun vi _ => n - (intOf vi).toNat)
  case atStart => exact ⟨0, _, by omega, rfl, HR1.out.1, ⟨by simp, fun j h => by omega⟩, HR1.out.2.1⟩
  case round =>
    obtain ⟨i, cur, hi, rfl, hrw, hm, hb⟩ := hrel
    have HGB : Hid (w.heap.size ≤ gb) := HR1.out.2.2
    clear HR1
    have HRW : Hid (Row 5 .u8 wr gb cur ∧ Below w.heap.size w wr ∧ FillP n i cur) := ⟨hrw, hb, hm⟩
    by_cases hlt : i < n
    · have hcl := hrw.cell i (by have := hm.1; omega)
      have hf := hrw.frozen i
      clear hrw hb hm
      go_wp2
      go_roundw
      case rel => exact ⟨i + 1, cur.set i 65, by omega, by go_num, HRW.out.1.set i _, HRW.out.2.2.step hlt, HRW.out.2.1.setCell HGB.out _⟩
      case measure => simp [intOf] <;> omega
    · have hin : i = n := by omega
      rw [hin] at hm
      have hcur := hm.done
      subst hcur
      have hcv : (convert 22 9 (.slice (some ⟨gb, 0, none⟩) n n)).run Try.prog wr = .ok (.string (strOfNums (List.replicate n 65))) wr := by
        refine conv_bytes wr 22 9 5 Try.underlying22 Try.underlying5 Try.underlying9 _ n n _ ?_
        have := hrw.lies 0 n (by simp)
        simpa using this
      have hsz : (strOfNums (List.replicate n 65)).size = n := by rw [str_size]; simp
      by_cases hq0 : q = 0
      · have hn0 : n = 16384 := by have := HN.out; omega
        have hnI2 : ¬ (16384 : Int) < (n : Int) := by omega
        have HD := Dec_yes (strOfNums (List.replicate n 65)) wr (by rw [hsz]; omega) (long_good n (by omega))
        have hll := long_len n
        have HNN : Hid (n = 16384) := hn0
        generalize ints (byt ((cods (strOfNums (List.replicate n 65))).map vS)) = ys at *
        generalize strOfNums (List.replicate n 65) = tx at *
        clear hrw hm hb hn0 hin
        have h12 : 6 * n / 8 = 12288 := by omega
        rw [h12] at hll
        obtain ⟨m, hm⟩ : ∃ m, m = 12288 := ⟨_, rfl⟩
        rw [← hm] at hll
        have hmI : (n : Int) / 4 * 3 = (m : Int) := by omega
        clear h12
        have HM : Hid (m = 12288) := hm
        clear hm
        go_wp2_with (go_at_call 11; refine HD.mono ?_; rintro e w3 ⟨⟨v, rfl, hown⟩, hb3⟩; obtain ⟨ao, cap, rfl⟩ := own_slice hown m hll; clear hown)
        go_ret
        exact ⟨rfl, HRW.out.2.1.trans (hb3.mono HRW.out.2.1.size)⟩
      · have hn0 : 16384 < n := by have := HN.out; omega
        have hnI2 : (16384 : Int) < (n : Int) := by omega
        have HD := Dec_long (strOfNums (List.replicate n 65)) wr (by rw [hsz]; exact hn0) (by rw [hsz]; omega)
        generalize strOfNums (List.replicate n 65) = tx at *
        clear hrw hm hb hin
        go_wp2_with (go_at_call 11; refine HD.mono ?_; rintro e w3 ⟨rfl, rfl⟩)
        go_ret
        exact ⟨rfl, HRW.out.2.1⟩

theorem byte_of {x : Int} (h : (Lit.int .u8 x).wf = true) : ∃ n : Nat, x = (n : Int) ∧ n < 256 := by
  simp [Lit.wf, IntKind.min, IntKind.max, IntKind.signed, IntKind.bits] at h
  exact ⟨x.toNat, by omega, by omega⟩
/-- The same, of a number as it comes. -/
theorem B64Long_came (a0 : Int) (w0 : (Lit.int .u8 a0).wf = true) (w : World) :
    Calls Try.prog 6 #[.int .u8 a0] w fun e w' => e = .returned (.bool true) ∧ Below w.heap.size w w' := by
  obtain ⟨n, rfl, hn⟩ := byte_of w0
  exact B64Long_walk n w hn
end Go.Proofs.Ytbhjidmbihkppaa
