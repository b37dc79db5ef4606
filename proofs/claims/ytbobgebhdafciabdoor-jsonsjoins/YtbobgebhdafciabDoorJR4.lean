/-
  The document's reader of JSON: word.
-/
import Derived.Test.YtbobgebhdafciabDoorJR3
namespace Go.Proofs.YtbobgebhdafciabDoor
open Go.Shelf Go.RowKit
set_option linter.unusedVariables false
set_option linter.unusedSimpArgs false

/-- A part of a slice, from a place on, as a text. -/
theorem conv_mid {w : World} {g : Nat} {b off k : Nat} {B pre ys : Bs} (h : RestD w g (some ⟨b, off, none⟩) k B) (h0 : B = pre ++ ys) (m : Nat) (hm : m ≤ ys.length) (c : Nat) : (convert 27 9 (.slice (some ⟨b, off + pre.length, none⟩) m c)).run Tryd.prog w = .ok (.string ⟨(ys.take m).toArray⟩) w := by
  have hl : (ys.take m).length = m := by simp; omega
  have h1 : Lib.BytesAt w (some ⟨b, off + pre.length, none⟩) m (ys.take m) := fun hm0 => by
    obtain ⟨b', o', e, hc⟩ := h.lies (by rw [h0]; simp; omega)
    cases e
    refine ⟨b, off + pre.length, rfl, fun i hi => ?_⟩
    rw [show off + pre.length + i = off + (pre.length + i) by omega, hc (pre.length + i) (by rw [h0]; simp; omega), h0]
    simp [List.getD, List.getElem?_append_right, List.getElem?_take, hi]
  have h2 := Lib.BytesIn.convert (P := Tryd.prog) (bytesAt_in h1 hl) (by simp; omega) c 27 5 9 Tryd.underlying27 Tryd.underlying5 Tryd.underlying9
  rw [h2, show strOfNums ((ys.take m).map fun b => (b.toNat : Int)) = ⟨(ys.take m).toArray⟩ from by
    apply ByteArray.ext
    apply Array.toList_inj.1
    rw [← Lib.toList_data, Lib.strOfNums_toList, bytesOf_map]]
theorem tk_take (l ys : Bs) (h : l.length ≤ ys.length) : tk l ys = if ys.take l.length = l then some (ys.drop l.length) else none := by
  unfold tk
  by_cases hp : l.isPrefixOf ys = true
  · obtain ⟨t, rfl⟩ := List.isPrefixOf_iff_prefix.1 hp
    rw [if_pos hp, if_pos (by simp)]
  · rw [if_neg hp, if_neg]
    intro e
    exact hp (List.isPrefixOf_iff_prefix.2 ⟨ys.drop l.length, by have := List.take_append_drop l.length ys; rw [e] at this; exact this⟩)

set_option maxRecDepth 100000 in
set_option maxHeartbeats 4000000 in
/-- word. -/
theorem dWord (l : Bs) (hl1 : 1 ≤ l.length) (hl2 : l.length ≤ 100) (g : Nat) (B ys : Bs) (d : Nat) (nv : Value) (code : Nat) (w : World) (h : Dr w g B ys d nv code) :
    Calls Tryd.prog 38 #[.pointer (some ⟨g, 0, none⟩), .string ⟨l.toArray⟩] w fun e w' => But g w w' ∧ ((∃ zs, tk l ys = some zs ∧ e = .returned (.bool true) ∧ Dr w' g B zs d nv code) ∨ (tk l ys = none ∧ e = .returned (.bool false) ∧ Dr w' g B ys d nv code)) := by
  have hdr := h
  obtain ⟨pre, p, k, h0, h1, h2, h3⟩ := h
  have e0 := h1.b
  have e1 := h1.pos
  have f1 := h1.frozen 1
  obtain ⟨n, hn⟩ : ∃ n, B.length = n := ⟨_, rfl⟩
  obtain ⟨a, ha⟩ : ∃ a, pre.length = a := ⟨_, rfl⟩
  obtain ⟨m, hm⟩ : ∃ m, l.length = m := ⟨_, rfl⟩
  have hsz : (⟨l.toArray⟩ : ByteArray).size = m := by simp [ByteArray.size, hm]
  have hpl : n = a + ys.length := by rw [← hn, ← ha, h0]; simp
  rw [hn] at e0
  rw [ha] at e1
  have hab : (a : Int) ≤ 4096 := by omega
  have hnb : (n : Int) ≤ 4096 := by omega
  have hmb : (m : Int) ≤ 100 := by omega
  have han : (a : Int) ≤ (n : Int) := by omega
  by_cases q : ys.length < m
  · have hq : (n : Int) - (a : Int) < (m : Int) := by omega
    have hqd : decide ((n : Int) - (a : Int) < (m : Int)) = true := by simpa using hq
    have HN : Hid (tk l ys = none ∧ Dr w g B ys d nv code) := ⟨by
      unfold tk
      rw [if_neg]
      intro hp
      have := (List.isPrefixOf_iff_prefix.1 hp).length_le
      omega, hdr⟩
    clear hdr h0 h1 h2 hn ha hm hpl q
    go_enter Tryd.func38, Tryd.ntmps38
    go_wp2_with fail
    go_quiet (fail)
    go_wp2_with fail
    go_ret
    exact ⟨But.ofBelow (below_drewN w _), .inr ⟨HN.out.1, rfl, HN.out.2.below (below_drewN w _)⟩⟩
  · have hq : ¬ ((n : Int) - (a : Int) < (m : Int)) := by omega
    have hqd : decide ((n : Int) - (a : Int) < (m : Int)) = false := by simpa using hq
    obtain ⟨b, off, rfl, hbg, _⟩ : ∃ b off, p = some ⟨b, off, none⟩ ∧ b < g ∧ True := by
      cases ys with
      | nil => simp at q; omega
      | cons c xs => obtain ⟨b, off, e, hb, _⟩ := bytes_at h2 h0; exact ⟨b, off, e, hb, trivial⟩
    have hcap : n ≤ k := by rw [← hn]; exact h2.cap
    have hak : ¬ k = a := by omega
    have hcv := fun nq => conv_mid (w := w.drewN nq) (h2.keep (fun j _ => rfl)) h0 m (by omega) (k - a)
    rw [ha] at hcv
    have ht : ∀ l : Bs, (⟨l.toArray⟩ : ByteArray).toList = l := fun l => by rw [Lib.toList_data]
    have htk := tk_take l ys (by omega)
    rw [hm] at htk
    have hs1 : (a : Int) ≤ (a : Int) + (m : Int) := by omega
    have hs2 : (a : Int) + (m : Int) ≤ (n : Int) := by omega
    have ha0 : (0 : Int) ≤ (a : Int) := by omega
    by_cases r : ys.take m = l
    · have hD : ∀ nq, Dr ((w.setCell ⟨g, 1, none⟩ (.int .i64 ((a : Int) + (m : Int)))).drewN nq) g B (ys.drop m) d nv code := fun nq => (Dr.step (mid := ys.take m) h0 (by simp) h1 h2 h3 ((a : Int) + (m : Int)) (by rw [ha]; simp; omega)).below (below_drewN _ nq)
      have HN : Hid (tk l ys = some (ys.drop m) ∧ ∀ nq, Dr ((w.setCell ⟨g, 1, none⟩ (.int .i64 ((a : Int) + (m : Int)))).drewN nq) g B (ys.drop m) d nv code) := ⟨by rw [htk, if_pos r], hD⟩
      have hne : (ys.take m == l) = true := by simp [r]
      clear hdr h0 h1 h2 hn ha hm hpl q r hD htk
      go_enter Tryd.func38, Tryd.ntmps38
      go_wp2_with fail
      go_quiet (fail)
      go_wp2_with fail
      go_ret
      exact ⟨(But.setCell g w 1 _).trans (But.ofBelow (below_drewN _ _)), .inl ⟨_, HN.out.1, rfl, HN.out.2 _⟩⟩
    · have HN : Hid (tk l ys = none ∧ Dr w g B ys d nv code) := ⟨by rw [htk, if_neg r], hdr⟩
      have hne : (ys.take m == l) = false := by simp [r]
      clear hdr h0 h1 h2 hn ha hm hpl q r htk
      go_enter Tryd.func38, Tryd.ntmps38
      go_wp2_with fail
      go_quiet (fail)
      go_wp2_with fail
      go_ret
      exact ⟨But.ofBelow (below_drewN w _), .inr ⟨HN.out.1, rfl, HN.out.2.below (below_drewN w _)⟩⟩
end Go.Proofs.YtbobgebhdafciabDoor
