/-
  A value of the law as a text.
-/
import Derived.Test.YtbobgebhdafciabDoorJVo
import Derived.Test.YtbobgebhdafciabDoorJR7
import Derived.Test.YtbobgebhdafciabDoorJRe
import Derived.Laws.RangeAny
import Derived.Lib.RuneCount
namespace Go.Proofs.YtbobgebhdafciabDoor
open Go.Shelf Go.RowKit
set_option linter.unusedVariables false
set_option linter.unusedSimpArgs false

theorem str_appV (a b : Bs) : (⟨a.toArray⟩ : ByteArray) ++ ⟨b.toArray⟩ = ⟨(a ++ b).toArray⟩ := by
  apply ByteArray.ext
  simp
theorem conv_oneV (W : World) (d : UInt8) : (convert 27 9 (.slice (some ⟨W.heap.size, 0, none⟩) 1 1)).run Tryd.prog (W.alloc (.cells #[.int .u8 (d.toNat : Int)] 5)) = .ok (.string ⟨[d].toArray⟩) (W.alloc (.cells #[.int .u8 (d.toNat : Int)] 5)) :=
  conv_own (base := W.heap.size) (l := [d]) ⟨rfl, .inr ⟨W.heap.size, 1, #[.int .u8 (d.toNat : Int)], rfl, Nat.le_refl _, alloc_new W _, Nat.le_refl _, by decide, rfl, rfl⟩⟩
/-- Signs as bytes. -/
def encRs (rs : List Nat) : Bs := rs.flatMap fun (r : Nat) => Lib.encodeRune (r : Int)
theorem encRs_snoc (rs : List Nat) (r : Nat) : encRs (rs ++ [r]) = encRs rs ++ Lib.encodeRune (r : Int) := by simp [encRs]
/-- Which signs stand for themselves. -/
def keepR (r n : Nat) : Bool := decide (32 ≤ r) && (r != 34) && (r != 92) && (r != 65533) && decide (n < 40)
def plainR (s : ByteArray) : Nat → Nat → List Nat → List Nat
  | 0, _, rs => rs
  | b + 1, pos, rs => if pos < s.size then plainR s b (pos + (Utf8.decode s pos).2) (if keepR (Utf8.decode s pos).1 (encRs rs).length then rs ++ [(Utf8.decode s pos).1] else rs) else rs
theorem plainR_end (s : ByteArray) (b pos : Nat) (rs : List Nat) (h : ¬ pos < s.size) : plainR s b pos rs = rs := by
  cases b with
  | zero => rfl
  | succ b => simp [plainR, h]
theorem decode_ok (s : ByteArray) (pos : Nat) : okR (Utf8.decode s pos).1 := by
  have hb : ∀ k, (s.get! (pos + k)).toNat < 256 := fun k => (s.get! (pos + k)).toNat_lt
  have h0 := hb 0; have h1 := hb 1; have h2 := hb 2; have h3 := hb 3
  unfold okR
  simp only [Utf8.decode]
  repeat' split
  all_goals simp_all [Utf8.runeError, Utf8.valid]
  all_goals omega
/-- A text's signs that stand for themselves. -/
def plainT (t : Bs) : Bs := encRs (plainR ⟨t.toArray⟩ t.length 0 [])

set_option maxRecDepth 100000 in
set_option maxHeartbeats 4000000 in
/-- plain. -/
theorem lplain_any (t : Bs) (w : World) : Calls Tryd.prog 14 #[.string ⟨t.toArray⟩] w fun e w' => e = .returned (.string ⟨(plainT t).toArray⟩) ∧ Below w.heap.size w w' := by
  obtain ⟨s, hs⟩ : ∃ s : ByteArray, (⟨t.toArray⟩ : ByteArray) = s := ⟨_, rfl⟩
  have hsz : t.length = s.size := by rw [← hs]; rfl
  have HP : Hid (plainT t = encRs (plainR s s.size 0 [])) := by show _ = _; unfold plainT; rw [hs, hsz]
  rw [hs]
  clear hs hsz
  go_enter Tryd.func14, Tryd.ntmps14
  go_wp2
  go_loopw [3] (fun v w' => ∃ (pos b : Nat) (rs : List Nat), w' = w.iter s pos ∧ v = .string ⟨(encRs rs).toArray⟩ ∧ plainR s b pos rs = plainR s s.size 0 [] ∧ s.size ≤ pos + b ∧ (encRs rs).length ≤ 44) (fun _ w' => s.size - w'.iterPos w.heap.size)
  case atStart => exact ⟨0, s.size, [], rfl, rfl, rfl, by omega, by decide⟩
  case round =>
    obtain ⟨pos, b, rs, rfl, rfl, hc, hb, hln⟩ := hrel
    obtain ⟨n, hn⟩ : ∃ n, (encRs rs).length = n := ⟨_, rfl⟩
    by_cases hp : pos < s.size
    · have hnx : ∀ ty, (Instr.next (.pointer (some ⟨w.heap.size, 0, none⟩)) true ty).run Tryd.prog (w.iter s pos) = _ := fun ty => run_next_any w s pos ty hp
      have hwd := Lib.decode_width_pos s pos hp
      have hok := decode_ok s pos
      obtain ⟨b', rfl⟩ : ∃ b', b = b' + 1 := ⟨b - 1, by omega⟩
      have hc2 : plainR s b' (pos + (Utf8.decode s pos).2) (if keepR (Utf8.decode s pos).1 (encRs rs).length then rs ++ [(Utf8.decode s pos).1] else rs) = plainR s s.size 0 [] := by rw [← hc]; simp [plainR, hp]
      obtain ⟨X, hX⟩ : ∃ X, (Utf8.decode s pos).1 = X := ⟨_, rfl⟩
      obtain ⟨D, hD⟩ : ∃ D, (Utf8.decode s pos).2 = D := ⟨_, rfl⟩
      rw [hX, hD] at hnx
      rw [hX, hD, hn] at hc2
      rw [hX] at hok
      rw [hD] at hwd
      have HOK : Hid (okR X) := hok
      have hXI : (X : Int) ≤ 1114111 := hok.int
      have hX0 : (0 : Int) ≤ (X : Int) := by omega
      have HN : Hid ((encRs rs).length = n) := hn
      have HC : Hid (plainR s b' (pos + D) (if keepR X n then rs ++ [X] else rs) = plainR s s.size 0 []) := hc2
      have HW : Hid (1 ≤ D ∧ s.size ≤ pos + (b' + 1) ∧ pos < s.size) := ⟨hwd, hb, hp⟩
      have hnI : (n : Int) ≤ 44 := by omega
      have hstr : ((⟨(encRs rs).toArray⟩ : ByteArray)).size = n := by rw [← hn]; rfl
      have NO : Hid (keepR X n = false → (∃ (pos' b'' : Nat) (rs' : List Nat), w.iter s (pos + D) = w.iter s pos' ∧ Value.string ⟨(encRs rs).toArray⟩ = .string ⟨(encRs rs').toArray⟩ ∧ plainR s b'' pos' rs' = plainR s s.size 0 [] ∧ s.size ≤ pos' + b'' ∧ (encRs rs').length ≤ 44)) := fun hk => by
        refine ⟨pos + D, b', rs, rfl, rfl, ?_, by have := HW.out; omega, by rw [HN.out]; omega⟩
        have := HC.out
        rw [hk] at this
        exact this
      clear hc hc2 hok hX hD hn hb hln
      by_cases q1 : (32 : Int) ≤ (X : Int)
      · have q1d : decide ((32 : Int) ≤ (X : Int)) = true := by simpa using q1
        by_cases q2 : X = 34
        · subst q2
          have hk : keepR 34 n = false := by simp [keepR]
          go_wp2
          exact ⟨NO.out hk, by have := HW.out; simp; omega⟩
        · by_cases q3 : X = 92
          · subst q3
            have hk : keepR 92 n = false := by simp [keepR]
            go_wp2
            exact ⟨NO.out hk, by have := HW.out; simp; omega⟩
          · by_cases q4 : X = 65533
            · subst q4
              have hk : keepR 65533 n = false := by simp [keepR]
              go_wp2
              exact ⟨NO.out hk, by have := HW.out; simp; omega⟩
            · have q2b : ((X : Int) != 34) = true := by simp; omega
              have q3b : ((X : Int) != 92) = true := by simp; omega
              have q4b : ((X : Int) != 65533) = true := by simp; omega
              by_cases q5 : (n : Int) < 40
              · have q5d : decide ((n : Int) < 40) = true := by simpa using q5
                have hk : keepR X n = true := by simp [keepR]; omega
                have hcv : ∀ W, (convert 21 9 (.int .i32 (X : Int))).run Tryd.prog W = .ok (.string ⟨(Lib.encodeRune (X : Int)).toArray⟩) W := fun W => by
                  rw [run_convert_int_string W _ _ _ _ (by rw [Tryd.underlying21]; rfl) Tryd.underlying9, HOK.out.enc]
                obtain ⟨L, hL⟩ : ∃ L, Lib.encodeRune (X : Int) = L := ⟨_, rfl⟩
                have hLl : L.length ≤ 4 := by rw [← hL]; exact (encR_len _).2
                rw [hL] at hcv
                have HL : Hid (Lib.encodeRune (X : Int) = L ∧ L.length ≤ 4) := ⟨hL, hLl⟩
                have hLsz : ((⟨L.toArray⟩ : ByteArray)).size ≤ 4 := hLl
                clear hL NO
                go_wp2
                refine ⟨⟨pos + D, b', rs ++ [X], rfl, ?_, ?_, by have := HW.out; omega, ?_⟩, by have := HW.out; simp; omega⟩
                · rw [str_appV, encRs_snoc, HL.out.1]
                · have := HC.out
                  rw [hk] at this
                  exact this
                · rw [encRs_snoc, List.length_append, HN.out, HL.out.1]
                  omega
              · have q5d : decide ((n : Int) < 40) = false := by simpa using q5
                have hk : keepR X n = false := by simp [keepR]; omega
                go_wp2
                exact ⟨NO.out hk, by have := HW.out; simp; omega⟩
      · have q1d : decide ((32 : Int) ≤ (X : Int)) = false := by simpa using q1
        have hk : keepR X n = false := by simp [keepR]; omega
        go_wp2
        exact ⟨NO.out hk, by have := HW.out; simp; omega⟩
    · have hnx : ∀ ty, (Instr.next (.pointer (some ⟨w.heap.size, 0, none⟩)) true ty).run Tryd.prog (w.iter s pos) = _ := fun ty => run_next_end w s pos ty hp
      have HE : Hid (plainT t = encRs rs) := by show _ = _; rw [HP.out, ← hc, plainR_end s b pos rs hp]
      clear hc HP
      go_wp2
      go_ret
      exact ⟨by rw [HE.out]; rfl, (Below.refl _ _).alloc (Nat.le_refl _) _⟩
end Go.Proofs.YtbobgebhdafciabDoor
