/-
  The document's reader of JSON: digits, word.
-/
import Derived.Test.YtbobgebhdafciabDoorJR2
namespace Go.Proofs.YtbobgebhdafciabDoor
open Go.Shelf Go.RowKit
set_option linter.unusedVariables false
set_option linter.unusedSimpArgs false

theorem dig_yes {c : UInt8} (h1 : 48 ≤ c.toNat) (h2 : c.toNat ≤ 57) : [48, 49, 50, 51, 52, 53, 54, 55, 56, 57].contains c = true := by
  have : c.toNat = 48 ∨ c.toNat = 49 ∨ c.toNat = 50 ∨ c.toNat = 51 ∨ c.toNat = 52 ∨ c.toNat = 53 ∨ c.toNat = 54 ∨ c.toNat = 55 ∨ c.toNat = 56 ∨ c.toNat = 57 := by omega
  rcases this with h | h | h | h | h | h | h | h | h | h <;> (rw [u8_of (by decide) h]; decide)
theorem dig_no {c : UInt8} (h : c.toNat < 48 ∨ 57 < c.toNat) : [48, 49, 50, 51, 52, 53, 54, 55, 56, 57].contains c = false := by
  rw [Bool.eq_false_iff]
  intro hh
  simp at hh
  rcases hh with e | e | e | e | e | e | e | e | e | e <;> (rw [e] at h; simp at h)

set_option maxRecDepth 100000 in
set_option maxHeartbeats 4000000 in
/-- digits. -/
theorem dDigits (g : Nat) (B ys : Bs) (d : Nat) (nv : Value) (code : Nat) (w : World) (h : Dr w g B ys d nv code) :
    Calls Tryd.prog 51 #[.pointer (some ⟨g, 0, none⟩)] w fun e w' => e = .returned (.int .i64 (nd ys : Int)) ∧ Dr w' g B (dg ys) d nv code ∧ But g w w' := by
  have hyl : ys.length ≤ 4096 := by obtain ⟨pre, p, k, h0, _, _, h3⟩ := h; rw [h0] at h3; simp at h3; omega
  go_enter Tryd.func51, Tryd.ntmps51
  go_wp2_with fail
  go_loopw [3] (fun v3 wr => ∃ (j : Nat) (zs : Bs), v3 = .int .i64 j ∧ j + zs.length = ys.length ∧ dg ys = dg zs ∧ Dr wr g B zs d nv code ∧ But g w wr) (fun _ wr => leftN g B.length wr)
  case atStart => exact ⟨0, ys, rfl, by simp, rfl, h, But.refl _ _⟩
  case round =>
    obtain ⟨j, zs, rfl, hj, hz, hd, hb⟩ := hrel
    clear h
    have hl := leftN_eq hd
    obtain ⟨pre, p, k, h0, h1, h2, h3⟩ := hd
    have e0 := h1.b
    have e1 := h1.pos
    have f1 := h1.frozen 1
    obtain ⟨n, hn⟩ : ∃ n, B.length = n := ⟨_, rfl⟩
    obtain ⟨a, ha⟩ : ∃ a, pre.length = a := ⟨_, rfl⟩
    rw [hn] at e0 hl
    rw [ha] at e1
    have hpl : pre.length + zs.length = B.length := by rw [h0]; simp
    have hab : (a : Int) ≤ 4096 := by omega
    have hsuf : ys.length ≤ 4096 + j := by omega
    have hfin : zs = dg zs → (Ending.returned (.int .i64 (j : Int)) = .returned (.int .i64 (nd ys : Int))) := fun e => by
      unfold nd
      rw [hz, ← e]
      congr 2
      omega
    have HF : Hid (zs = dg zs → (Ending.returned (.int .i64 (j : Int)) = .returned (.int .i64 (nd ys : Int)))) := hfin
    clear hfin hpl
    cases zs with
    | nil =>
      have hna : n = a := by rw [← hn, ← ha, h0]; simp
      subst hna
      have hd' : decide ((n : Int) < (n : Int)) = false := by simp
      have H : Hid (dg ys = dg [] ∧ But g w wr ∧ Dr wr g B [] d nv code) := ⟨hz, hb, pre, p, k, h0, h1, h2, h3⟩
      clear hz hb h0 h1 h2 hn ha hl hj hsuf
      go_wp2_with fail
      go_quiet (fail)
      go_wp2_with fail
      go_ret
      refine ⟨HF.out rfl, ?_, H.out.2.1.trans (But.ofBelow (below_drewN wr _))⟩
      rw [H.out.1]
      exact H.out.2.2.below (below_drewN wr _)
    | cons c xs =>
      obtain ⟨b, off, rfl, hbg, hc⟩ := bytes_at h2 h0
      rw [ha] at hc
      have hlt : (a : Int) < (n : Int) := by
        have : n = a + (xs.length + 1) := by rw [← hn, ← ha, h0]; simp
        omega
      have ha0 : (0 : Int) ≤ (a : Int) := by omega
      obtain ⟨C, hC⟩ : ∃ C, c.toNat = C := ⟨_, rfl⟩
      rw [hC] at hc
      have H : Hid (dg ys = dg (c :: xs) ∧ But g w wr ∧ B = pre ++ c :: xs ∧ DAt wr g (.slice (some ⟨b, off, none⟩) B.length k) pre.length d nv code ∧ RestD wr g (some ⟨b, off, none⟩) k B ∧ pre.length = a ∧ c.toNat = C ∧ leftN g n wr = (c :: xs).length ∧ B.length = n ∧ j + (c :: xs).length = ys.length) := ⟨hz, hb, h0, h1, h2, ha, hC, hl, hn, hj⟩
      have hjb : (j : Int) ≤ 4096 := by omega
      clear hz hb h0 h1 h2 hn ha hl hC hj hsuf
      by_cases q1 : 48 ≤ C
      · by_cases q2 : C ≤ 57
        · have hD := Dr.step (mid := [c]) H.out.2.2.1 rfl H.out.2.2.2.1 H.out.2.2.2.2.1 h3 ((a : Int) + 1) (by rw [H.out.2.2.2.2.2.1]; simp)
          have HG : Hid (∀ nq, (∃ (j' : Nat) (zs : Bs), Value.int .i64 ((j : Int) + 1) = .int .i64 j' ∧ j' + zs.length = ys.length ∧ dg ys = dg zs ∧ Dr ((wr.setCell ⟨g, 1, none⟩ (.int .i64 ((a : Int) + 1))).drewN nq) g B zs d nv code ∧ But g w ((wr.setCell ⟨g, 1, none⟩ (.int .i64 ((a : Int) + 1))).drewN nq)) ∧ leftN g B.length ((wr.setCell ⟨g, 1, none⟩ (.int .i64 ((a : Int) + 1))).drewN nq) < leftN g B.length wr) := by
            intro nq
            have hD2 := hD.below (below_drewN _ nq)
            refine ⟨⟨j + 1, xs, by go_num, by have := H.out.2.2.2.2.2.2.2.2.2; simp at this; omega, by rw [H.out.1]; exact trim_yes _ c xs (dig_yes (by rw [H.out.2.2.2.2.2.2.1]; exact q1) (by rw [H.out.2.2.2.2.2.2.1]; exact q2)), hD2, (H.out.2.1.trans (But.setCell g wr 1 _)).trans (But.ofBelow (below_drewN _ nq))⟩, ?_⟩
            rw [leftN_eq hD2, H.out.2.2.2.2.2.2.2.2.1, H.out.2.2.2.2.2.2.2.1]
            simp
          have w1 : decide ((48 : Int) ≤ (C : Int)) = true := by simp; omega
          have w2 : decide ((C : Int) ≤ 57) = true := by simp; omega
          have w1' : (48 : Int) ≤ (C : Int) := by omega
          have w2' : (C : Int) ≤ 57 := by omega
          clear H hD
          go_wp2_with fail
          go_quiet (fail)
          go_wp2_with fail
          exact HG.out _
        · have hno : dg (c :: xs) = c :: xs := trim_no _ c xs (dig_no (by rw [H.out.2.2.2.2.2.2.1]; omega))
          have HE : Hid (dg ys = c :: xs ∧ But g w wr ∧ Dr wr g B (c :: xs) d nv code) := ⟨by rw [H.out.1, hno], H.out.2.1, pre, _, k, H.out.2.2.1, H.out.2.2.2.1, H.out.2.2.2.2.1, h3⟩
          have hFF := HF.out hno.symm
          have w1' : (48 : Int) ≤ (C : Int) := by omega
          have w2 : decide ((C : Int) ≤ 57) = false := by simp; omega
          clear H hno HF
          go_wp2_with fail
          go_quiet (fail)
          go_wp2_with fail
          go_ret
          refine ⟨hFF, ?_, HE.out.2.1.trans (But.ofBelow (below_drewN wr _))⟩
          rw [HE.out.1]
          exact HE.out.2.2.below (below_drewN wr _)
      · have hno : dg (c :: xs) = c :: xs := trim_no _ c xs (dig_no (by rw [H.out.2.2.2.2.2.2.1]; omega))
        have HE : Hid (dg ys = c :: xs ∧ But g w wr ∧ Dr wr g B (c :: xs) d nv code) := ⟨by rw [H.out.1, hno], H.out.2.1, pre, _, k, H.out.2.2.1, H.out.2.2.2.1, H.out.2.2.2.2.1, h3⟩
        have hFF := HF.out hno.symm
        have w1 : decide ((48 : Int) ≤ (C : Int)) = false := by simp; omega
        clear H hno HF
        go_wp2_with fail
        go_quiet (fail)
        go_wp2_with fail
        go_ret
        refine ⟨hFF, ?_, HE.out.2.1.trans (But.ofBelow (below_drewN wr _))⟩
        rw [HE.out.1]
        exact HE.out.2.2.below (below_drewN wr _)
end Go.Proofs.YtbobgebhdafciabDoor
