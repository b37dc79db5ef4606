/-
  The reader's small steps: blanks, take, takeBehindBlanks.
-/
import Derived.Test.YtbobgebhdafciabDoorJL
namespace Go.Proofs.YtbobgebhdafciabDoor
open Go.Shelf Go.RowKit Go.Lib
set_option linter.unusedVariables false
set_option linter.unusedSimpArgs false

theorem ascii_of (l : Bs) (h : (l.all fun b => decide (b.toNat < 128)) = true) : ∀ (j : Nat) b, l[j]? = some b → b.toNat < 128 := fun j b hb => by
  have := List.all_eq_true.1 h b (List.mem_of_getElem? hb)
  simpa using this

set_option maxHeartbeats 1000000 in
/-- blanks. -/
theorem blanks_any (g : Nat) (bs : Bs) (nv : Value) (o : Nat) (w : World) (h : Rd w g bs nv o) :
    Calls Tryd.prog 12 #[.pointer (some ⟨g, 0, none⟩)] w fun e w' => e = .returned (.tuple #[]) ∧ Rd w' g (bl bs) nv o ∧ But g w w' := by
  obtain ⟨p, c, h1, h2⟩ := h
  have hc := h1.rest
  have hf := h1.frozen 0
  have hg := h1.lt
  obtain ⟨p', c', hV, hR⟩ := leftV_rest h2 [32, 9, 10, 13]
  have HT := trim_any p c bs ⟨#[32, 9, 10, 13]⟩ w h2.cap h2.big h2.lies (by decide) (ascii_of _ (by decide))
  rw [hV] at HT
  obtain ⟨n, hn⟩ : ∃ n, bs.length = n := ⟨_, rfl⟩
  rw [hn] at HT hc
  have H1 : Hid (RdAt w g (.slice p n c) nv o) := by rw [hn] at h1; exact h1
  clear h1 hV
  go_enter Tryd.func12, Tryd.ntmps12
  go_wp2_with (go_at_call 20; refine HT.mono ?_; rintro e w1 ⟨rfl, hb1⟩; have hf1 := (hb1.frozen (p := ⟨g, 0, none⟩) hg).trans hf; have hc1 := (hb1.cell (p := ⟨g, 0, none⟩) hg).trans hc)
  go_end0
  have k1 : RdAt w1 g (.slice p n c) nv o := H1.out.same (hb1.block g hg)
  exact ⟨rfl, ⟨p', c', k1.setRest _, (hR.keep (w' := w1.setCell ⟨g, 0, none⟩ (.slice p' (Lib.trimLeftS bs [32, 9, 10, 13]).length c')) (fun k hk => by rw [Below.heap_setCell _ _ _ _ (by simp; omega)]; exact hb1.block k (by omega)))⟩, (But.ofBelow hb1).trans (But.setCell g w1 0 _)⟩

theorem bytesWorld_below (w : World) (e : TypeId) (s : ByteArray) : Below w.heap.size w (Lib.bytesWorld w e s) := ⟨rfl, rfl, rfl, by rw [Lib.bytesWorld_size]; omega, fun k hk => Lib.bytesWorld_at_old w e s k hk⟩
theorem bytesWorld_bytes (w : World) (e : TypeId) (s : ByteArray) : Lib.BytesAt (Lib.bytesWorld w e s) (some ⟨w.heap.size, 0, none⟩) s.data.toList.length s.data.toList := fun h0 => ⟨w.heap.size, 0, rfl, fun i hi => by rw [Nat.zero_add]; exact Lib.bytesWorld_cell w e s i (by rw [Lib.size_eq]; exact hi)⟩

set_option maxHeartbeats 1000000 in
/-- take. -/
theorem take_any (s : ByteArray) (g : Nat) (bs : Bs) (nv : Value) (o : Nat) (w : World) (h : Rd w g bs nv o) :
    Calls Tryd.prog 15 #[.pointer (some ⟨g, 0, none⟩), .string s] w fun e w' => But g w w' ∧ ((∃ ys, tk s.data.toList bs = some ys ∧ e = .returned (.bool true) ∧ Rd w' g ys nv o) ∨ (tk s.data.toList bs = none ∧ e = .returned (.bool false) ∧ Rd w' g bs nv o)) := by
  obtain ⟨p, c, h1, h2⟩ := h
  have hg := h1.lt
  have hb := bytesWorld_below w 5 s
  have hR1 : RestV (Lib.bytesWorld w 5 s) g p c bs := h2.keep (fun k hk => hb.block k (by omega))
  have h1' : RdAt (Lib.bytesWorld w 5 s) g (.slice p bs.length c) nv o := h1.same (hb.block g hg)
  have HC := cut_any p (some ⟨w.heap.size, 0, none⟩) c (grownCap w s.size 0 5) bs s.data.toList (Lib.bytesWorld w 5 s) h2.cap hR1.lies (bytesWorld_bytes w 5 s)
  rw [← Lib.size_eq] at HC
  obtain ⟨p', c', zs, hV, hR, hz⟩ := cutV_rest hR1 s.data.toList
  rw [hV] at HC
  have hcv := fun W => Lib.run_convert_string_bytes (P := Tryd.prog) W 9 27 5 s Tryd.underlying9 Tryd.underlying27 Tryd.underlying5
  have hc := h1.rest
  have hc' := h1'.rest
  have hf := h1'.frozen 0
  obtain ⟨n, hn⟩ : ∃ n, bs.length = n := ⟨_, rfl⟩
  obtain ⟨m, hm⟩ : ∃ m, zs.length = m := ⟨_, rfl⟩
  obtain ⟨W, hW⟩ : ∃ W, Lib.bytesWorld w 5 s = W := ⟨_, rfl⟩
  obtain ⟨t, ht⟩ : ∃ t, (s.data.toList.isPrefixOf bs) = t := ⟨_, rfl⟩
  have hfin : But g w (W.setCell ⟨g, 0, none⟩ (.slice p' m c')) ∧ ((∃ ys, tk s.data.toList bs = some ys ∧ (Ending.returned (.bool t)) = .returned (.bool true) ∧ Rd (W.setCell ⟨g, 0, none⟩ (.slice p' m c')) g ys nv o) ∨ (tk s.data.toList bs = none ∧ (Ending.returned (.bool t)) = .returned (.bool false) ∧ Rd (W.setCell ⟨g, 0, none⟩ (.slice p' m c')) g bs nv o)) := by
    have hk : Rd (W.setCell ⟨g, 0, none⟩ (.slice p' m c')) g zs nv o := by
      rw [← hW, ← hm]
      exact ⟨p', c', h1'.setRest _, hR.keep (fun k hk => by rw [Below.heap_setCell _ _ _ _ (by simp; omega)])⟩
    refine ⟨?_, ?_⟩
    · rw [← hW]; exact (But.ofBelow hb).trans (But.setCell g _ 0 _)
    · rcases hz with ⟨h3, h4⟩ | ⟨h3, h4, h5⟩
      · left; exact ⟨zs, h4, by rw [← ht, h3], hk⟩
      · right; exact ⟨h4, by rw [← ht, h3], by rw [← h5]; exact hk⟩
  have HF : Hid (But g w (W.setCell ⟨g, 0, none⟩ (.slice p' m c')) ∧ ((∃ ys, tk s.data.toList bs = some ys ∧ (Ending.returned (.bool t)) = .returned (.bool true) ∧ Rd (W.setCell ⟨g, 0, none⟩ (.slice p' m c')) g ys nv o) ∨ (tk s.data.toList bs = none ∧ (Ending.returned (.bool t)) = .returned (.bool false) ∧ Rd (W.setCell ⟨g, 0, none⟩ (.slice p' m c')) g bs nv o))) := hfin
  rw [hn] at HC hc hc'
  rw [hm, ht, hW] at HC
  rw [hW] at hc' hf
  have hcv2 := hcv w
  rw [hW] at hcv2
  clear hfin h1 h1' hcv hz hV hR hR1 h2 hn hm hW ht hb
  go_enter Tryd.func15, Tryd.ntmps15
  go_wp2_with (go_at_call 24; refine HC.mono ?_; rintro e w1 ⟨rfl, rfl⟩)
  go_ret
  exact HF.out

set_option maxHeartbeats 1000000 in
/-- takeBehindBlanks. -/
theorem tbb_any (s : ByteArray) (g : Nat) (bs : Bs) (nv : Value) (o : Nat) (w : World) (h : Rd w g bs nv o) :
    Calls Tryd.prog 26 #[.pointer (some ⟨g, 0, none⟩), .string s] w fun e w' => But g w w' ∧ ((∃ ys, tk s.data.toList (bl bs) = some ys ∧ e = .returned (.bool true) ∧ Rd w' g ys nv o) ∨ (tk s.data.toList (bl bs) = none ∧ e = .returned (.bool false) ∧ Rd w' g (bl bs) nv o)) := by
  have HB := blanks_any g bs nv o w h
  have HT := fun W (hW : Rd W g (bl bs) nv o) => take_any s g (bl bs) nv o W hW
  clear h
  go_enter Tryd.func26, Tryd.ntmps26
  go_wp2_with (first
    | (go_at_call 12; refine HB.mono ?_; rintro e w1 ⟨rfl, hr1, hb1⟩)
    | (go_at_call 15; refine (HT _ hr1).mono ?_; rintro e w2 ⟨hb2, (⟨ys, h1, rfl, h3⟩ | ⟨h1, rfl, h3⟩)⟩))
  all_goals go_ret
  · exact ⟨hb1.trans hb2, .inl ⟨ys, h1, rfl, h3⟩⟩
  · exact ⟨hb1.trans hb2, .inr ⟨h1, rfl, h3⟩⟩
end Go.Proofs.YtbobgebhdafciabDoor
