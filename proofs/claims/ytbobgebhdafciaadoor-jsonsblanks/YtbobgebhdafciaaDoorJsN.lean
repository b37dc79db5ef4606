/-
  The walk of JsonsNumbers.
-/
import Derived.Test.YtbobgebhdafciaaDoorJsP
namespace Go.Proofs.YtbobgebhdafciaaDoor
open Go.Shelf Go.RowKit
set_option linter.unusedVariables false
set_option linter.unusedSimpArgs false

def digL : Bs := [48, 49, 50, 51, 52, 53, 54, 55, 56, 57, 45, 43, 46, 101, 69, 48]
theorem str_app (a b : Bs) : (⟨a.toArray⟩ : ByteArray) ++ ⟨b.toArray⟩ = ⟨(a ++ b).toArray⟩ := by
  apply ByteArray.ext
  simp
theorem below_bw (W : World) (l : Bs) : Below W.heap.size W (Lib.bytesWorld W 5 ⟨l.toArray⟩) := ⟨rfl, rfl, rfl, by rw [Lib.bytesWorld_size]; omega, fun k hk => Lib.bytesWorld_at_old _ _ _ _ hk⟩
/-- A text as bytes. -/
theorem rest_bw (W : World) (l : Bs) : RestD (Lib.bytesWorld W 5 ⟨l.toArray⟩) (Lib.bytesWorld W 5 ⟨l.toArray⟩).heap.size (some ⟨W.heap.size, 0, none⟩) (grownCap W l.length 0 5) l := by
  have hsz : (⟨l.toArray⟩ : ByteArray).size = l.length := rfl
  refine ⟨grownCap_ge _ _ _ _, fun h0 => ⟨W.heap.size, 0, rfl, fun i hi => ?_⟩, fun a ha h0 => ?_⟩
  · rw [Nat.zero_add, Lib.bytesWorld_cell _ _ _ i (by rw [hsz]; exact hi)]
  · cases ha
    exact ⟨by rw [Lib.bytesWorld_size]; simp, rfl⟩
theorem conv_bw (W : World) (l : Bs) (m : Nat) (hm : l.length = m) : (convert 9 22 (.string ⟨l.toArray⟩)).run Tryd.prog W = .ok (.slice (some ⟨W.heap.size, 0, none⟩) m (grownCap W m 0 5)) (Lib.bytesWorld W 5 ⟨l.toArray⟩) := by
  subst hm
  rw [Lib.run_convert_string_bytes W _ _ _ _ Tryd.underlying9 Tryd.underlying22 Tryd.underlying5]
  rfl
/-- told of a text. -/
theorem told_bw (W : World) (l : Bs) (m : Nat) (hm : l.length = m) (hl : m ≤ 1000000) (hT : Tabs W) :
    Calls Tryd.prog 9 #[.slice (some ⟨W.heap.size, 0, none⟩) m (grownCap W m 0 5)] (Lib.bytesWorld W 5 ⟨l.toArray⟩) fun e w' => e = .returned (.bool true) ∧ Below W.heap.size W w' := by
  have hr := rest_bw W l
  rw [hm] at hr
  refine (told_any _ m _ l _ hm hr (fun h => by cases h) (hT.below (below_bw W l)) hl).mono ?_
  rintro e w' ⟨rfl, hb⟩
  exact ⟨rfl, (below_bw W l).trans (hb.mono (below_bw W l).size)⟩
/-- One byte as a text. -/
theorem conv_one (W : World) (d : UInt8) : (convert 22 9 (.slice (some ⟨W.heap.size, 0, none⟩) 1 1)).run Tryd.prog (W.alloc (.cells #[.int .u8 (d.toNat : Int)] 5)) = .ok (.string ⟨[d].toArray⟩) (W.alloc (.cells #[.int .u8 (d.toNat : Int)] 5)) :=
  conv_own (base := W.heap.size) (l := [d]) ⟨rfl, .inr ⟨W.heap.size, 1, #[.int .u8 (d.toNat : Int)], rfl, Nat.le_refl _, alloc_new W _, Nat.le_refl _, by decide, rfl, rfl⟩⟩

set_option maxRecDepth 100000 in
set_option maxHeartbeats 4000000 in
/-- JsonsNumbers. -/
theorem JsonsNumbers_walk (a0 : Option Addr) (len0 cap0 : Nat) (z0 : List Int) (w : World) (w0 : CameJ .u8 w a0 len0 cap0 z0) (hL : laidMet Tryd.prog Rows.jsonsNumbersRow.laid w) :
    Calls Tryd.prog 6 #[.slice a0 len0 cap0] w fun e w' => e = .returned (.bool true) ∧ Below w.heap.size w w' := by
  have hT : Tabs w := tabs_laid hL
  have hle := w0.le
  unfold maxLen at hle
  obtain ⟨bs, hn, hR⟩ := w0.rest
  clear w0 hL
  go_enter Tryd.func6, Tryd.ntmps6
  go_wp2_with fail
  go_at_call 8
  refine (Awake_any w hT).mono ?_
  rintro e w1 ⟨rfl, b1⟩
  by_cases q : 100 < len0
  · have q' : 100 < (len0 : Int) := by omega
    go_wp2_with fail
    go_ret
    exact ⟨rfl, b1⟩
  · have q' : ¬ 100 < (len0 : Int) := by omega
    have hlb : (len0 : Int) ≤ 100 := by omega
    have HR : Hid (RestD w w.heap.size a0 cap0 bs ∧ bs.length = len0 ∧ Tabs w) := ⟨hR, hn, hT⟩
    clear hR hn hT hle q
    go_wp2_with fail
    go_loopw [3, 5, 13] (fun v3 _ v13 wr => ∃ (i : Nat) (t : Bs), v3 = .string ⟨t.toArray⟩ ∧ v13 = .int .i64 i ∧ i ≤ len0 ∧ Hid (t.length = i) ∧ Below w.heap.size w wr) (fun _ _ v13 _ => len0 - (intOf v13).toNat)
    case atStart => exact ⟨0, [], rfl, rfl, by omega, rfl, b1⟩
    case round =>
      obtain ⟨i, t, rfl, rfl, hi, ht, hb⟩ := hrel
      have hi0 : (0 : Int) ≤ (i : Int) := by omega
      rcases Nat.lt_or_eq_of_le hi with hi | rfl
      · have hiI : (i : Int) < (len0 : Int) := by omega
        have hid : decide ((i : Int) < (len0 : Int)) = true := by simpa using hiI
        have hRr := HR.out.1.grow hb
        obtain ⟨b, off, rfl, hc⟩ := hRr.lies (by rw [HR.out.2.1]; omega)
        have hci := hc i (by rw [HR.out.2.1]; exact hi)
        obtain ⟨X, hX⟩ : ∃ X, (bs.getD i 0).toNat = X := ⟨_, rfl⟩
        rw [hX] at hci
        obtain ⟨D, hD⟩ : ∃ D, X % 16 = D := ⟨_, rfl⟩
        have hD16 : D < 16 := by omega
        have hrem : (X : Int) % 16 = (D : Int) := by omega
        have hcv := conv_one wr ((⟨#[48, 49, 50, 51, 52, 53, 54, 55, 56, 57, 45, 43, 46, 101, 69, 48]⟩ : ByteArray)[D]'(show D < 16 from hD16))
        have HB : Hid (Below w.heap.size w wr) := hb
        have hti : t.length ≤ 100 := by have := ht.out; omega
        clear hRr hc hX hb hD
        go_wp2_with fail
        exact ⟨⟨i + 1, t ++ [_], by rw [str_app], by go_num, by omega, by show _ = _; rw [List.length_append, ht.out]; rfl, HB.out.trans ((below_one wr _).mono HB.out.size)⟩, by simp only [intOf]; omega⟩
      · have hid : decide ((i : Int) < (i : Int)) = false := by simp
        have HT2 : Hid (Tabs wr ∧ Below w.heap.size w wr) := ⟨HR.out.2.2.below hb, hb⟩
        have hcv := conv_bw wr t i ht.out
        have hib : i ≤ 100 := by omega
        have hti : t.length ≤ 100 := by have := ht.out; omega
        clear hb
        go_wp2_with fail
        go_at_call 9
        refine (told_bw wr t i ht.out (by omega) HT2.out.1).mono ?_
        rintro e w3 ⟨rfl, b3⟩
        have hL : ([91] ++ t ++ [44] ++ t ++ [93]).length = 2 * i + 3 := by have := ht.out; simp; omega
        have hcv2 := conv_bw w3 ([91] ++ t ++ [44] ++ t ++ [93]) (2 * i + 3) hL
        rw [← str_app, ← str_app, ← str_app, ← str_app] at hcv2
        have HT3 : Hid (Tabs w3 ∧ Below w.heap.size w w3 ∧ ([91] ++ t ++ [44] ++ t ++ [93]).length = 2 * i + 3) := ⟨HT2.out.1.below b3, HT2.out.2.trans (b3.mono HT2.out.2.size), hL⟩
        clear hL hcv b3
        go_wp2_with fail
        go_at_call 9
        have ht2 := told_bw w3 ([91] ++ t ++ [44] ++ t ++ [93]) (2 * i + 3) HT3.out.2.2 (by omega) HT3.out.1
        rw [← str_app, ← str_app, ← str_app, ← str_app] at ht2
        refine ht2.mono ?_
        rintro e w4 ⟨rfl, b4⟩
        go_wp2_with fail
        go_ret
        exact ⟨rfl, HT3.out.2.1.trans (b4.mono HT3.out.2.1.size)⟩
end Go.Proofs.YtbobgebhdafciaaDoor
