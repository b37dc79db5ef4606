/-
  The document's reader of JSON: bad, blank, digits.
-/
import Derived.Test.YtbobgebhdafciabDoorJR1
namespace Go.Proofs.YtbobgebhdafciabDoor
open Go.Shelf Go.RowKit
set_option linter.unusedVariables false
set_option linter.unusedSimpArgs false

theorem dBad (k : Nat) (g : Nat) (B ys : Bs) (d : Nat) (nv : Value) (w : World) (h : Dr w g B ys d nv 0) :
    Calls Tryd.prog 23 #[.pointer (some ⟨g, 0, none⟩), .int .i64 k] w fun e w' => e = .returned (.tuple #[]) ∧ Dr w' g B ys d nv k ∧ But g w w' := by
  obtain ⟨pre, p, c, h0, h1, h2, h3⟩ := h
  have e4 := h1.code
  have f4 := h1.frozen 4
  have e4' : w.cell? ⟨g, 4, none⟩ = some (.int .i64 0) := e4
  go_enter Tryd.func23, Tryd.ntmps23
  go_wp2
  go_end0
  exact ⟨rfl, ⟨pre, p, c, h0, h1.setCode k, h2.keep (fun j hj => Below.heap_setCell _ _ _ _ (by show j ≠ g; omega)), h3⟩, But.setCell g w 4 _⟩
theorem dBad_no (k : Nat) (g : Nat) (B ys : Bs) (d : Nat) (nv : Value) (c : Nat) (hc : c ≠ 0) (w : World) (h : Dr w g B ys d nv c) :
    Calls Tryd.prog 23 #[.pointer (some ⟨g, 0, none⟩), .int .i64 k] w fun e w' => e = .returned (.tuple #[]) ∧ w' = w := by
  obtain ⟨pre, p, c', h0, h1, h2, h3⟩ := h
  have e4 := h1.code
  have h0b : ((c : Int) == 0) = false := by simp; omega
  go_enter Tryd.func23, Tryd.ntmps23
  go_wp2
  go_end0
  exact ⟨rfl, rfl⟩

theorem trim_yes (cs : Bs) (c : UInt8) (xs : Bs) (h : cs.contains c = true) : Lib.trimLeftS (c :: xs) cs = Lib.trimLeftS xs cs := by unfold Lib.trimLeftS; rw [List.dropWhile_cons, if_pos h]
theorem trim_no (cs : Bs) (c : UInt8) (xs : Bs) (h : cs.contains c = false) : Lib.trimLeftS (c :: xs) cs = c :: xs := by unfold Lib.trimLeftS; rw [List.dropWhile_cons, if_neg (by rw [h]; decide)]
theorem u8_of {c : UInt8} {n : Nat} (hn : n < 256) (h : c.toNat = n) : c = UInt8.ofNat n := by
  apply UInt8.toNat_inj.1
  rw [h]
  simp [UInt8.toNat_ofNat']
  omega
/-- How many bytes are left of n, read off the memory. -/
def leftN (g n : Nat) (w : World) : Nat := match w.cell? ⟨g, 1, none⟩ with
  | some (.int _ a) => n - a.toNat
  | _ => 0
theorem leftN_eq {w : World} {g : Nat} {B ys : Bs} {d : Nat} {nv : Value} {c : Nat} (h : Dr w g B ys d nv c) : leftN g B.length w = ys.length := by
  obtain ⟨pre, p, k, h0, h1, _⟩ := h
  unfold leftN
  rw [h1.pos, h0]
  simp

set_option maxRecDepth 100000 in
set_option maxHeartbeats 4000000 in
/-- blank. -/
theorem dBlank (g : Nat) (B ys : Bs) (d : Nat) (nv : Value) (code : Nat) (w : World) (h : Dr w g B ys d nv code) :
    Calls Tryd.prog 22 #[.pointer (some ⟨g, 0, none⟩)] w fun e w' => e = .returned (.tuple #[]) ∧ Dr w' g B (bl ys) d nv code ∧ But g w w' := by
  go_enter Tryd.func22, Tryd.ntmps22
  go_wp2_with fail
  go_loopw [63] (fun _ wr => ∃ zs, bl ys = bl zs ∧ Dr wr g B zs d nv code ∧ But g w wr) (fun _ wr => leftN g B.length wr)
  case atStart => exact ⟨ys, rfl, h, But.refl _ _⟩
  case round =>
    obtain ⟨zs, hz, hd, hb⟩ := hrel
    clear h
    have hl := leftN_eq hd
    obtain ⟨pre, p, k, h0, h1, h2, h3⟩ := hd
    have e0 := h1.b
    have e1 := h1.pos
    have f1 := h1.frozen 1
    obtain ⟨n, hn⟩ : ∃ n, B.length = n := ⟨_, rfl⟩
    obtain ⟨a, ha⟩ : ∃ a, pre.length = a := ⟨_, rfl⟩
    rw [hn] at e0 hl
    rw [ha] at e1
    have hab : (a : Int) ≤ 4096 := by
      have : pre.length ≤ B.length := by rw [h0]; simp
      omega
    cases zs with
    | nil =>
      have hna : n = a := by rw [← hn, ← ha, h0]; simp
      subst hna
      have hd' : decide ((n : Int) < (n : Int)) = false := by simp
      have H : Hid (bl ys = bl [] ∧ But g w wr ∧ Dr wr g B [] d nv code) := ⟨hz, hb, pre, p, k, h0, h1, h2, h3⟩
      clear hz hb h0 h1 h2 hn ha hl
      go_wp2_with fail
      go_quiet (fail)
      go_wp2_with fail
      go_end0
      refine ⟨rfl, ?_, H.out.2.1.trans (But.ofBelow (below_drewN wr _))⟩
      rw [H.out.1]
      exact H.out.2.2.below (below_drewN wr _)
    | cons c xs =>
      obtain ⟨b, off, rfl, hbg, hc⟩ := bytes_at h2 h0
      rw [ha] at hc
      have hlt : (a : Int) < (n : Int) := by
        have : n = a + (xs.length + 1) := by rw [← hn, ← ha, h0]; simp
        omega
      have ha0 : (0 : Int) ≤ (a : Int) := by omega
      obtain ⟨C, hC⟩ : ∃ C, c.toNat = C := ⟨_, rfl⟩
      rw [hC] at hc
      have H : Hid (bl ys = bl (c :: xs) ∧ But g w wr ∧ B = pre ++ c :: xs ∧ DAt wr g (.slice (some ⟨b, off, none⟩) B.length k) pre.length d nv code ∧ RestD wr g (some ⟨b, off, none⟩) k B ∧ pre.length = a ∧ c.toNat = C ∧ leftN g n wr = (c :: xs).length ∧ B.length = n) := ⟨hz, hb, h0, h1, h2, ha, hC, hl, hn⟩
      clear hz hb h0 h1 h2 hn ha hl hC
      have HG : Hid (bl (c :: xs) = bl xs → ∀ nq, (∃ zs, bl ys = bl zs ∧ Dr ((wr.setCell ⟨g, 1, none⟩ (.int .i64 ((a : Int) + 1))).drewN nq) g B zs d nv code ∧ But g w ((wr.setCell ⟨g, 1, none⟩ (.int .i64 ((a : Int) + 1))).drewN nq)) ∧ leftN g B.length ((wr.setCell ⟨g, 1, none⟩ (.int .i64 ((a : Int) + 1))).drewN nq) < leftN g B.length wr) := by
        intro hbl nq
        have hD := Dr.step (mid := [c]) H.out.2.2.1 rfl H.out.2.2.2.1 H.out.2.2.2.2.1 h3 ((a : Int) + 1) (by rw [H.out.2.2.2.2.2.1]; simp)
        have hD2 := hD.below (below_drewN _ nq)
        refine ⟨⟨xs, by rw [H.out.1, hbl], hD2, (H.out.2.1.trans (But.setCell g wr 1 _)).trans (But.ofBelow (below_drewN _ nq))⟩, ?_⟩
        rw [leftN_eq hD2, H.out.2.2.2.2.2.2.2.2, H.out.2.2.2.2.2.2.2.1]
        simp
      by_cases q32 : C = 32
      · subst q32
        have hbl := HG.out (trim_yes _ c xs (by rw [u8_of (by decide) H.out.2.2.2.2.2.2.1]; decide))
        clear HG H
        go_wp2_with fail
        go_quiet (fail)
        go_wp2_with fail
        exact hbl _
      have w32 : ((C : Int) == 32) = false := by simp; omega
      by_cases q9 : C = 9
      · subst q9
        have hbl := HG.out (trim_yes _ c xs (by rw [u8_of (by decide) H.out.2.2.2.2.2.2.1]; decide))
        clear HG H
        go_wp2_with fail
        go_quiet (fail)
        go_wp2_with fail
        exact hbl _
      have w9 : ((C : Int) == 9) = false := by simp; omega
      by_cases q10 : C = 10
      · subst q10
        have hbl := HG.out (trim_yes _ c xs (by rw [u8_of (by decide) H.out.2.2.2.2.2.2.1]; decide))
        clear HG H
        go_wp2_with fail
        go_quiet (fail)
        go_wp2_with fail
        exact hbl _
      have w10 : ((C : Int) == 10) = false := by simp; omega
      by_cases q13 : C = 13
      · subst q13
        have hbl := HG.out (trim_yes _ c xs (by rw [u8_of (by decide) H.out.2.2.2.2.2.2.1]; decide))
        clear HG H
        go_wp2_with fail
        go_quiet (fail)
        go_wp2_with fail
        exact hbl _
      have w13 : ((C : Int) == 13) = false := by simp; omega
      have hno : bl (c :: xs) = c :: xs := trim_no _ c xs (by
        have hc' := H.out.2.2.2.2.2.2.1
        rw [Bool.eq_false_iff]
        intro hh
        simp at hh
        rcases hh with e | e | e | e <;> (rw [e] at hc'; simp at hc'; omega))
      have HE : Hid (bl ys = c :: xs ∧ But g w wr ∧ Dr wr g B (c :: xs) d nv code) := ⟨by rw [H.out.1, hno], H.out.2.1, pre, _, k, H.out.2.2.1, H.out.2.2.2.1, H.out.2.2.2.2.1, h3⟩
      clear HG H hno
      go_wp2_with fail
      go_quiet (fail)
      go_wp2_with fail
      go_end0
      refine ⟨rfl, ?_, HE.out.2.1.trans (But.ofBelow (below_drewN wr _))⟩
      rw [HE.out.1]
      exact HE.out.2.2.below (below_drewN wr _)
end Go.Proofs.YtbobgebhdafciabDoor
