/-
  The reader's brackets: what is done at their end, and at their beginning.
-/
import Derived.Test.YtbobgebhdafciabDoorJH
import Derived.Defers
import Derived.Deep.RegionLaw
namespace Go.Proofs.YtbobgebhdafciabDoor
open Go.Shelf Go.RowKit
set_option linter.unusedVariables false
set_option linter.unusedSimpArgs false

theorem wp_noPanic {P : Program} {s : Code} {K : Act → World → Prop} {Q' : Exit → Act → World → Prop} {a : Act} {w : World} (h : s.wp P (Exit.then K (fun _ _ _ => False)) a w) : s.wp P (Exit.then K Q') a w := by
  refine wp_mono h ?_
  intro e a' w' hq
  cases e with
  | normal => exact hq
  | exit id => exact hq.elim
  | goto l => exact hq.elim
  | ret => exact hq.elim
  | panic ch => exact hq.elim
  | outgrown => exact hq.elim

theorem Rd.setOpen {w : World} {g : Nat} {bs : Bs} {nv : Value} {o : Nat} (h : Rd w g bs nv o) (o' : Nat) : Rd (w.setCell ⟨g, 2, none⟩ (.int .i64 o')) g bs nv o' := by
  obtain ⟨p, c, h1, h2⟩ := h
  exact ⟨p, c, h1.setOpen o', h2.keep (fun k hk => Below.heap_setCell _ _ _ _ (by show k ≠ g; omega))⟩
theorem St.setOpen {w : World} {g : Nat} {bs : Bs} {ns : List Nd} {o : Nat} (h : St w g bs ns o) (o' : Nat) : St (w.setCell ⟨g, 2, none⟩ (.int .i64 o')) g bs ns o' := by
  obtain ⟨nv, hs, hR, hN, hT⟩ := h
  exact ⟨nv, hs, hR.setOpen o', hN.but (But.setCell g w 2 _), hT.but hR (But.setCell g w 2 _)⟩
theorem Fr.setOpen {w : World} {g : Nat} {bs : Bs} {nv : Value} {o : Nat} (hR : Rd w g bs nv o) (v : Value) : Fr g w (w.setCell ⟨g, 2, none⟩ v) := Fr.ofBut (But.setCell g w 2 v) hR
theorem St.below {w w' : World} {g : Nat} {bs : Bs} {ns : List Nd} {o : Nat} (h : St w g bs ns o) (hb : Below w.heap.size w w') : St w' g bs ns o := by
  obtain ⟨nv, hs, hR, hN, hT⟩ := h
  exact ⟨nv, hs, hR.below hb, hN.keep (fun k _ hk => hb.block k hk), hT.below hb⟩
theorem St.rd {w : World} {g : Nat} {bs : Bs} {ns : List Nd} {o : Nat} (h : St w g bs ns o) : ∃ nv, Rd w g bs nv o := by obtain ⟨nv, hs, hR, _⟩ := h; exact ⟨nv, hR⟩
theorem St.lt {w : World} {g : Nat} {bs : Bs} {ns : List Nd} {o : Nat} (h : St w g bs ns o) : g < w.heap.size := by obtain ⟨nv, hR⟩ := h.rd; exact hR.lt

set_option maxHeartbeats 1000000 in
/-- The deferred function: a bracket less is open. -/
theorem shut_any (rb g : Nat) (bs : Bs) (nv : Value) (o : Nat) (u : FrameMode) (w : World) (hb : Bx w rb 48 (.pointer (some ⟨g, 0, none⟩))) (hr : Rd w g bs nv (o + 1)) (ho : o ≤ 100) :
    CallsD Tryd.prog 25 #[.pointer (some ⟨rb, 0, none⟩)] u w fun e u' w' => u' = u ∧ (e = .returned (.tuple #[]) ∧ w' = w.setCell ⟨g, 2, none⟩ (.int .i64 o)) := by
  have c1 := hb.cell
  have c2 := hr.opn
  have f2 := hr.frz 2
  have e1 : ((o + 1 : Nat) : Int) = (o : Int) + 1 := by omega
  rw [e1] at c2
  have e2 : (o : Int) + 1 - 1 = (o : Int) := by omega
  have ho' : (o : Int) ≤ 100 := by omega
  go_enter_d Tryd.func25, Tryd.ntmps25
  go_wp2
  go_end0
  exact ⟨rfl, rfl⟩

/-- A node put behind the others. -/
theorem push_end {w4 : World} {g n : Nat} {pn : Option Addr} {cn : Nat} {hs : List Hd} {ns : List Nd} {zs : Bs} {o : Nat} (n4 : Nodes w4 (g + 1) (.slice pn n cn) hs ns) (hnn : ns.length = n) (r4 : Rd w4 g zs (.slice pn n cn) o) (t4 : Tabs w4) (hG : Gl g) (kd : Nat) (s : Bs) (W w1 : World) (g' cap' : Nat) (hb : Below w4.heap.size w4 W)
    (o1 : w1.ownsRow (g + 1) 38 4 (.slice (some ⟨g', 0, none⟩) (n + 1) cap') (n + 1) (flat hs ++ Hd.cells ⟨kd, s, .slice none 0 0, .slice none 0 0⟩)) (gr : W.grownBy w1 (Value.slice pn n cn).ownBlock) :
    St (w1.setCell ⟨g, 1, none⟩ (.slice (some ⟨g', 0, none⟩) (n + 1) cap')) g zs (ns ++ [⟨kd, s, [], []⟩]) o ∧ Fr g w4 (w1.setCell ⟨g, 1, none⟩ (.slice (some ⟨g', 0, none⟩) (n + 1) cap')) := by
  have hl4 := n4.len
  have hg4 := r4.lt
  have hown := n4.row
  rw [hl4, hnn] at hown
  have hNW : Nodes W (g + 1) (.slice pn n cn) hs ns := n4.keep (fun k _ hk => hb.block k hk)
  have hk3 := hNW.push kd s (by rw [hl4, hnn]; exact o1) gr
  have hb2 : Below (g + 1) w4 w1 := ⟨gr.os.trans hb.os, gr.tape.trans hb.tape, gr.output.trans hb.output, Nat.le_trans hb.size gr.size, fun k hk => (gr.block k (by have := hb.size; omega) (fun e => by have := (owns_lt hown e.symm).1; omega)).trans (hb.block k (by omega))⟩
  have hk4 := hk3.keep (w' := w1.setCell ⟨g, 1, none⟩ (.slice (some ⟨g', 0, none⟩) (n + 1) cap')) (fun k hk _ => Below.heap_setCell _ _ _ _ (by show k ≠ g; omega))
  have hr5 := r4.keep hb2
  obtain ⟨p, c, a1, a2⟩ := hr5
  have hb3 : Below g w4 (w1.setCell ⟨g, 1, none⟩ (.slice (some ⟨g', 0, none⟩) (n + 1) cap')) := (hb2.mono (Nat.le_succ g)).setCell (p := ⟨g, 1, none⟩) (Nat.le_refl _) _
  refine ⟨⟨_, _, ⟨p, c, a1.setNodes _, a2.keep (fun k hk => Below.heap_setCell _ _ _ _ (by show k ≠ g; omega))⟩, hk4, t4.low hG hb3⟩, ⟨hb3, fun k cs fr hk => ?_⟩⟩
  have hkl := (Array.getElem?_eq_some_iff.1 hk).1
  have hkn : k ≠ g := fun e => by
    obtain ⟨p', c', a1', _⟩ := r4
    unfold RdAt at a1'
    rw [e, a1'] at hk
    cases hk
  have hkv : some k ≠ (Value.slice pn n cn).ownBlock := fun e => by
    obtain ⟨_, _, c, hc⟩ := owns_lt hown e.symm
    rw [hc] at hk
    cases hk
  rw [Below.heap_setCell _ _ _ _ hkn, gr.block k (by have := hb.size; omega) hkv]
  exact hb.block k hkl

theorem pcsS_ne : ∀ (f o c kind : Nat) (close : UInt8) (names : List Bs) (kids : List Nat) (news : List Nd) (xs : Bs) (new : List Nd) (ys : Bs), pcsS f o c kind close names kids news xs = .ok (new, ys) → 1 ≤ new.length := by
  intro f
  induction f with
  | zero => intro o c kind close names kids news xs new ys h; cases h
  | succ f ih =>
    intro o c kind close names kids news xs new ys h
    rw [pcsS_succ] at h
    split at h
    · cases h
    · split at h
      · cases h
      · split at h
        · exact ih _ _ _ _ _ _ _ _ _ _ h
        · split at h
          · cases h; simp
          · cases h
theorem valS_ne {f o c : Nat} {xs : Bs} {new : List Nd} {ys : Bs} (h : valS f o c xs = .ok (new, ys)) : 1 ≤ new.length := by
  cases f with
  | zero => cases h
  | succ f =>
    have hg : ∀ (kind : Nat) (close : UInt8) (zs : Bs), grpS f o c kind close zs = .ok (new, ys) → 1 ≤ new.length := by
      intro kind close zs h
      rw [grpS_eq] at h
      split at h
      · cases h
      · split at h
        · cases h; simp
        · exact pcsS_ne _ _ _ _ _ _ _ _ _ _ _ h
    rw [valS_succ] at h
    split at h
    · cases h
    · split at h
      · exact hg _ _ _ h
      · split at h
        · exact hg _ _ _ h
        · split at h
          · cases h
          · cases h; simp
end Go.Proofs.YtbobgebhdafciabDoor
