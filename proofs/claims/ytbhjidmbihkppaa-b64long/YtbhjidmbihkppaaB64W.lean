/-
  Decode in its three ways; contract of Awake (layer 4).
-/
import Derived.Test.YtbhjidmbihkppaaB64D
namespace Go.Proofs.Ytbhjidmbihkppaa
open Go.RowKit
set_option linter.unusedVariables false
set_option linter.unusedSimpArgs false

theorem Dec_yes (s : ByteArray) (w : World) (hl : s.size ≤ 16384) (hg : Good (cods s)) :
    Calls Try.prog 11 #[.string s] w fun e w' => (∃ v, e = .returned (.tuple #[v, .int .i64 0]) ∧ Own 5 .u8 w' w.heap.size v (ints (byt ((cods s).map vS)))) ∧ Below w.heap.size w w' := by
  refine (Dec_any s w hl).mono ?_
  rintro e w' ⟨⟨_, h⟩ | ⟨hn, _⟩, hb⟩
  · exact ⟨h, hb⟩
  · exact absurd hg hn
theorem Dec_no (s : ByteArray) (w : World) (hl : s.size ≤ 16384) (hg : ¬ Good (cods s)) :
    Calls Try.prog 11 #[.string s] w fun e w' => e = .returned (.tuple #[.slice none 0 0, .int .i64 10]) ∧ Below w.heap.size w w' := by
  refine (Dec_any s w hl).mono ?_
  rintro e w' ⟨⟨h, _⟩ | ⟨_, h⟩, hb⟩
  · exact absurd h hg
  · exact ⟨h, hb⟩
set_option maxHeartbeats 1000000 in
theorem Dec_long (s : ByteArray) (w : World) (hl : 16384 < s.size) (hs : s.size ≤ 9223372036854775807) :
    Calls Try.prog 11 #[.string s] w fun e w' => e = .returned (.tuple #[.slice none 0 0, .int .i64 3]) ∧ w' = w := by
  have hl' : (16384 : Int) < (s.size : Int) := by omega
  go_enter Try.func11, Try.ntmps11
  go_wp2
  go_ret2
  exact ⟨rfl, rfl⟩

/-- The four texts of Awake. -/
def wtx (i : Nat) : ByteArray := if i = 0 then ⟨#[65, 66]⟩ else if i = 1 then ⟨#[65]⟩ else if i = 2 then ⟨#[65, 61]⟩ else ⟨#[43, 65]⟩
theorem wtx_bad : ∀ i, i < 4 → (wtx i).size ≤ 16384 ∧ ¬ Good (cods (wtx i)) := by decide
theorem own_str {w : World} {base : Nat} {v : Value} {xs : List Int} (h : Own 5 .u8 w base v xs) (hd : Dg 256 xs) (n : Nat) (hn : xs.length = n) (hs : n ≤ 1073741824) : ∃ ao cap, v = .slice ao n cap ∧ (convert 22 9 (.slice ao n cap)).run Try.prog w = .ok (.string (strOfNums xs)) w := by
  subst hn
  obtain ⟨ao, cap, rfl, hn⟩ := h.num hd hs
  exact ⟨ao, cap, rfl, conv_bytes w 22 9 5 Try.underlying22 Try.underlying5 Try.underlying9 ao _ cap xs hn.lies⟩
theorem strZ : strOfNums [0] = ⟨#[0]⟩ := rfl

set_option maxRecDepth 100000 in
set_option maxHeartbeats 2000000 in
/-- Awake. -/
theorem BAwake_any (w : World) : Calls Try.prog 8 #[] w fun e w' => e = .returned (.bool true) ∧ Below w.heap.size w w' := by
  have HD := Dec_yes ⟨#[65, 65]⟩ w (by decide) (by decide)
  rw [show ints (byt ((cods ⟨#[65, 65]⟩).map vS)) = [0] by decide] at HD
  go_enter Try.func8, Try.ntmps8
  go_wp2_with (go_at_call 11; refine HD.mono ?_; rintro e w1 ⟨⟨v1, rfl, hown1⟩, hb1⟩)
  clear HD
  have hcell : ∀ i, i < 4 → (w1.alloc (.cells #[.string ⟨#[65, 66]⟩, .string ⟨#[65]⟩, .string ⟨#[65, 61]⟩, .string ⟨#[43, 65]⟩] 9)).cell? ⟨w1.heap.size, i, none⟩ = some (.string (wtx i)) := by
    intro i hi
    have : i = 0 ∨ i = 1 ∨ i = 2 ∨ i = 3 := by omega
    rcases this with rfl | rfl | rfl | rfl <;> rw [cell_of_row _ w1.heap.size _ _ 9 (0, 0) (World.alloc_heap_new _ _)] <;> rfl
  have HS : Hid ((∀ i, i < 4 → (w1.alloc (.cells #[.string ⟨#[65, 66]⟩, .string ⟨#[65]⟩, .string ⟨#[65, 61]⟩, .string ⟨#[43, 65]⟩] 9)).cell? ⟨w1.heap.size, i, none⟩ = some (.string (wtx i))) ∧ Own 5 .u8 (w1.alloc (.cells #[.string ⟨#[65, 66]⟩, .string ⟨#[65]⟩, .string ⟨#[65, 61]⟩, .string ⟨#[43, 65]⟩] 9)) w.heap.size v1 [0] ∧ Below w.heap.size w (w1.alloc (.cells #[.string ⟨#[65, 66]⟩, .string ⟨#[65]⟩, .string ⟨#[65, 61]⟩, .string ⟨#[43, 65]⟩] 9)) ∧ w1.heap.size < (w1.alloc (.cells #[.string ⟨#[65, 66]⟩, .string ⟨#[65]⟩, .string ⟨#[65, 61]⟩, .string ⟨#[43, 65]⟩] 9)).heap.size) :=
    ⟨hcell, hown1.alloc _, hb1.alloc hb1.size _, by simp⟩
  clear hcell hown1 hb1
  generalize w1.alloc (.cells #[.string ⟨#[65, 66]⟩, .string ⟨#[65]⟩, .string ⟨#[65, 61]⟩, .string ⟨#[43, 65]⟩] 9) = w2 at *
  generalize w1.heap.size = g at *
  go_loopw [13] (fun vi wr => ∃ k : Nat, k ≤ 4 ∧ vi = .int .i64 k ∧ (∀ i, i < 4 → wr.cell? ⟨g, i, none⟩ = some (.string (wtx i))) ∧ Own 5 .u8 wr w.heap.size v1 [0] ∧ Below w.heap.size w wr ∧ g < wr.heap.size) (fun vi _ => 4 - (intOf vi).toNat)
  case atStart => exact ⟨0, by omega, rfl, HS.out.1, HS.out.2.1, HS.out.2.2.1, HS.out.2.2.2⟩
  case round =>
    obtain ⟨k, hk, rfl, hcl, hown, hbw, hgs⟩ := hrel
    clear HS
    by_cases hlt : k < 4
    · have hck := hcl k hlt
      have hb := wtx_bad k hlt
      have HD := Dec_no (wtx k) wr hb.1 hb.2
      have HW : Hid ((∀ i, i < 4 → wr.cell? ⟨g, i, none⟩ = some (.string (wtx i))) ∧ Own 5 .u8 wr w.heap.size v1 [0] ∧ Below w.heap.size w wr ∧ g < wr.heap.size) := ⟨hcl, hown, hbw, hgs⟩
      generalize wtx k = tx at *
      clear hcl hown hbw hgs hb
      go_wp2_with (go_at_call 11; refine HD.mono ?_; rintro e w3 ⟨rfl, hb3⟩)
      go_roundw
      case rel => exact ⟨k + 1, by omega, by go_num, fun i hi => (hb3.cell HW.out.2.2.2).trans (HW.out.1 i hi), HW.out.2.1.below hb3, HW.out.2.2.1.trans (hb3.mono HW.out.2.2.1.size), Nat.lt_of_lt_of_le HW.out.2.2.2 hb3.size⟩
      case measure => simp [intOf] <;> omega
    · clear hcl
      have hrow : Row 5 .u8 (wr.alloc (.cells #[.int .u8 251, .int .u8 255] 5)) wr.heap.size [251, 255] := by
        unfold Row
        rw [World.alloc_heap_new]; rfl
      have hnb := hrow.num (B := 256) (Dg.cons (by decide) (Dg.cons (by decide) (Dg.nil _))) (by decide)
      have HE := Enc_any _ _ _ _ _ hnb (by decide)
      rw [show encT (nats [251, 255]) = [45, 95, 56] by decide] at HE
      have HO : Hid (Own 5 .u8 (wr.alloc (.cells #[.int .u8 251, .int .u8 255] 5)) w.heap.size v1 [0] ∧ Below w.heap.size w (wr.alloc (.cells #[.int .u8 251, .int .u8 255] 5))) := ⟨hown.alloc _, hbw.alloc hbw.size _⟩
      clear hown hbw hnb hrow
      go_wp2_with (go_at_call 9; refine HE.mono ?_; rintro e w3 ⟨rfl, hb3⟩; obtain ⟨ao, cap, rfl, hcv⟩ := own_str (HO.out.1.below hb3) (Dg.cons (by decide) (Dg.nil _)) 1 rfl (by decide); rw [strZ] at hcv)
      go_ret
      exact ⟨rfl, HO.out.2.trans (hb3.mono HO.out.2.size)⟩
end Go.Proofs.Ytbhjidmbihkppaa
