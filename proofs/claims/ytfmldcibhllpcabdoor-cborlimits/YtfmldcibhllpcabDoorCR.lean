/-
  The code's reader in memory; its small steps.
-/
import Derived.Test.YtfmldcibhllpcabDoorCI
import Derived.Laws.ResultCell
namespace Go.Proofs.YtfmldcibhllpcabDoor
open Go.Shelf Go.RowKit Go.Lib
set_option linter.unusedVariables false
set_option linter.unusedSimpArgs false

/-- The reader's cells in block g. -/
def CrAt (w : World) (g : Nat) (rv : Value) (t o : Nat) : Prop := w.heap[g]? = some (.cells #[rv, .int .i64 (t : Int), .int .i64 (o : Int)] 51 (0, 0))
theorem CrAt.lt {w : World} {g : Nat} {rv : Value} {t o : Nat} (h : CrAt w g rv t o) : g < w.heap.size := (Array.getElem?_eq_some_iff.1 h).1
theorem CrAt.rest {w : World} {g : Nat} {rv : Value} {t o : Nat} (h : CrAt w g rv t o) : w.cell? ⟨g, 0, none⟩ = some rv := by rw [cell_of_row w g 0 _ _ _ h]; rfl
theorem CrAt.items {w : World} {g : Nat} {rv : Value} {t o : Nat} (h : CrAt w g rv t o) : w.cell? ⟨g, 1, none⟩ = some (.int .i64 (t : Int)) := by rw [cell_of_row w g 1 _ _ _ h]; rfl
theorem CrAt.opn {w : World} {g : Nat} {rv : Value} {t o : Nat} (h : CrAt w g rv t o) : w.cell? ⟨g, 2, none⟩ = some (.int .i64 (o : Int)) := by rw [cell_of_row w g 2 _ _ _ h]; rfl
theorem CrAt.frozen {w : World} {g : Nat} {rv : Value} {t o : Nat} (h : CrAt w g rv t o) (j : Nat) : w.frozen? ⟨g, j, none⟩ = false := frozen_of_row w g j _ _ h
theorem CrAt.setRest {w : World} {g : Nat} {rv : Value} {t o : Nat} (h : CrAt w g rv t o) (v : Value) : CrAt (w.setCell ⟨g, 0, none⟩ v) g v t o := by
  unfold CrAt; rw [heap_set_at w g 0 _ _ _ _ h]; rfl
theorem CrAt.setItems {w : World} {g : Nat} {rv : Value} {t o : Nat} (h : CrAt w g rv t o) (t' : Nat) : CrAt (w.setCell ⟨g, 1, none⟩ (.int .i64 (t' : Int))) g rv t' o := by
  unfold CrAt; rw [heap_set_at w g 1 _ _ _ _ h]; rfl
theorem CrAt.setOpen {w : World} {g : Nat} {rv : Value} {t o : Nat} (h : CrAt w g rv t o) (o' : Nat) : CrAt (w.setCell ⟨g, 2, none⟩ (.int .i64 (o' : Int))) g rv t o' := by
  unfold CrAt; rw [heap_set_at w g 2 _ _ _ _ h]; rfl
theorem CrAt.same {w w' : World} {g : Nat} {rv : Value} {t o : Nat} (h : CrAt w g rv t o) (hb : w'.heap[g]? = w.heap[g]?) : CrAt w' g rv t o := by unfold CrAt; rw [hb]; exact h
/-- A reader with these bytes left. -/
def Cr (w : World) (g : Nat) (bs : Bs) (t o : Nat) : Prop := ∃ p c, CrAt w g (.slice p bs.length c) t o ∧ ByV w (fun b => b < g) p c bs
theorem Cr.lt {w : World} {g : Nat} {bs : Bs} {t o : Nat} (h : Cr w g bs t o) : g < w.heap.size := by obtain ⟨p, c, h1, _⟩ := h; exact h1.lt
theorem Cr.keep {w w' : World} {g : Nat} {bs : Bs} {t o : Nat} (h : Cr w g bs t o) (hb : Below (g + 1) w w') : Cr w' g bs t o := by
  obtain ⟨p, c, h1, h2⟩ := h
  exact ⟨p, c, h1.same (hb.block g (by omega)), h2.keep (fun k hk _ => hb.block k (by omega))⟩
theorem Cr.below {w w' : World} {g : Nat} {bs : Bs} {t o : Nat} (h : Cr w g bs t o) (hb : Below w.heap.size w w') : Cr w' g bs t o := h.keep (hb.mono h.lt)
theorem Cr.frz {w : World} {g : Nat} {bs : Bs} {t o : Nat} (h : Cr w g bs t o) (j : Nat) : w.frozen? ⟨g, j, none⟩ = false := by obtain ⟨p, c, h1, _⟩ := h; exact h1.frozen j
theorem Cr.its {w : World} {g : Nat} {bs : Bs} {t o : Nat} (h : Cr w g bs t o) : w.cell? ⟨g, 1, none⟩ = some (.int .i64 (t : Int)) := by obtain ⟨p, c, h1, _⟩ := h; exact h1.items
theorem Cr.opn {w : World} {g : Nat} {bs : Bs} {t o : Nat} (h : Cr w g bs t o) : w.cell? ⟨g, 2, none⟩ = some (.int .i64 (o : Int)) := by obtain ⟨p, c, h1, _⟩ := h; exact h1.opn
theorem Cr.setItems {w : World} {g : Nat} {bs : Bs} {t o : Nat} (h : Cr w g bs t o) (t' : Nat) : Cr (w.setCell ⟨g, 1, none⟩ (.int .i64 (t' : Int))) g bs t' o := by
  obtain ⟨p, c, h1, h2⟩ := h
  exact ⟨p, c, h1.setItems t', h2.keep (fun k hk _ => Below.heap_setCell _ _ _ _ (by show k ≠ g; omega))⟩
theorem Cr.setOpen {w : World} {g : Nat} {bs : Bs} {t o : Nat} (h : Cr w g bs t o) (o' : Nat) : Cr (w.setCell ⟨g, 2, none⟩ (.int .i64 (o' : Int))) g bs t o' := by
  obtain ⟨p, c, h1, h2⟩ := h
  exact ⟨p, c, h1.setOpen o', h2.keep (fun k hk _ => Below.heap_setCell _ _ _ _ (by show k ≠ g; omega))⟩

theorem ctake_end {w : World} {g m c t o n : Nat} {bs : Bs} {p p' : Option Addr} {c' : Nat} (h1 : CrAt w g (.slice p bs.length c) t o) (h2 : ByV w (fun b => b < g) p c bs) (hm : bs.length = m) (hn : n ≤ m) (hp : p' = if c = n then p else p.map (fun x => x.add n)) (hc : c' = c - n) :
    ByV (w.setCell ⟨g, 0, none⟩ (.slice p' (m - n) c')) (fun b => b < g) p c (bs.take n) ∧ Cr (w.setCell ⟨g, 0, none⟩ (.slice p' (m - n) c')) g (bs.drop n) t o ∧ But g w (w.setCell ⟨g, 0, none⟩ (.slice p' (m - n) c')) := by
  subst hp hc hm
  have hk : ∀ k, k < g → k < w.heap.size → (w.setCell ⟨g, 0, none⟩ (.slice (if c = n then p else p.map (fun x => x.add n)) (bs.length - n) (c - n))).heap[k]? = w.heap[k]? := fun k hk _ => Below.heap_setCell _ _ _ _ (by show k ≠ g; omega)
  refine ⟨(h2.take n hn).keep hk, ⟨_, _, ?_, (h2.drop n hn).keep hk⟩, But.setCell g w 0 _⟩
  rw [List.length_drop]
  exact h1.setRest _

set_option maxHeartbeats 1000000 in
/-- take, where there are as many. -/
theorem ctake_yes (g n : Nat) (bs : Bs) (t o : Nat) (w : World) (h : Cr w g bs t o) (hn : n ≤ bs.length) :
    Calls Tryd.prog 22 #[.pointer (some ⟨g, 0, none⟩), .int .u64 (n : Int)] w fun e w' => ∃ p c, e = .returned (.tuple #[.slice p n c, .bool true]) ∧ ByV w' (fun b => b < g) p c (bs.take n) ∧ Cr w' g (bs.drop n) t o ∧ But g w w' := by
  obtain ⟨p, c, h1, h2⟩ := h
  have hc := h1.rest
  have hf := h1.frozen 0
  have hcap := h2.cap
  have hbig := h2.big
  obtain ⟨m, hm⟩ : ∃ m, bs.length = m := ⟨_, rfl⟩
  have H : Hid (CrAt w g (.slice p bs.length c) t o ∧ ByV w (fun b => b < g) p c bs ∧ bs.length = m) := ⟨h1, h2, hm⟩
  rw [hm] at hc hcap hn
  have hn1 : (n : Int) ≤ (m : Int) := by omega
  have hm1 : (m : Int) ≤ 9223372036854775807 := by omega
  have hn2 : (n : Int) ≤ 9223372036854775807 := by omega
  have hn3 : (n : Int) ≤ (c : Int) := by omega
  clear h1 h2 hm
  go_enter Tryd.func22, Tryd.ntmps22
  go_wp2
  · have hcn : c = n := by assumption
    subst hcn
    go_ret2
    exact ⟨p, c, rfl, ctake_end H.out.1 H.out.2.1 H.out.2.2 hn (by simp) (by simp)⟩
  · go_ret2
    exact ⟨p, c, rfl, ctake_end H.out.1 H.out.2.1 H.out.2.2 hn (by simp [*]) rfl⟩

set_option maxHeartbeats 1000000 in
/-- take, where there are fewer. -/
theorem ctake_no (g n : Nat) (bs : Bs) (t o : Nat) (w : World) (h : Cr w g bs t o) (hn : bs.length < n) (hb : n < 18446744073709551616) :
    Calls Tryd.prog 22 #[.pointer (some ⟨g, 0, none⟩), .int .u64 (n : Int)] w fun e w' => e = .returned (.tuple #[.slice none 0 0, .bool false]) ∧ w' = w := by
  obtain ⟨p, c, h1, h2⟩ := h
  have hc := h1.rest
  have hcap := h2.cap
  have hbig := h2.big
  obtain ⟨m, hm⟩ : ∃ m, bs.length = m := ⟨_, rfl⟩
  rw [hm] at hc hcap hn
  have hn1 : (m : Int) < (n : Int) := by omega
  have hm1 : (m : Int) ≤ 9223372036854775807 := by omega
  clear h1 h2 hm
  go_enter Tryd.func22, Tryd.ntmps22
  go_wp2
  go_ret2
  exact ⟨rfl, rfl⟩

set_option maxHeartbeats 1000000 in
theorem itemKind_any (k : Nat) (hk : k < 8) (w : World) : Calls Tryd.prog 26 #[.int .u8 (k : Int)] w fun e w' => e = .returned (.int .u8 ((k + 1 : Nat) : Int)) ∧ w' = w := by
  have h1 : (k : Int) < 8 := by omega
  go_enter Tryd.func26, Tryd.ntmps26
  go_wp2
  go_ret
  exact ⟨by go_num, rfl⟩
set_option maxHeartbeats 1000000 in
theorem wordKind_any (k : Nat) (hk : 244 ≤ k ∧ k ≤ 246) (w : World) : Calls Tryd.prog 33 #[.int .u8 (k : Int)] w fun e w' => e = .returned (.int .u8 ((k - 237 : Nat) : Int)) ∧ w' = w := by
  have h1 : (k : Int) ≤ 246 := by omega
  have h2 : 244 ≤ (k : Int) := by omega
  go_enter Tryd.func33, Tryd.ntmps33
  go_wp2
  go_ret
  exact ⟨by go_num, rfl⟩
theorem sizeItem : (Tryd.prog.info? 29).map (·.size) = some 4 := by kernel_rfl
/-- An item's cells read back as an answer, with one more. -/
theorem ret_item {fn : Func} {p u : Tmp} (h : fn.results = #[.cell p 29, .tmp u]) (tmps : Array Value) (w : World) (g : Nat) (c0 c1 c2 c3 : Value) (hp : tmps.getD p undef = .pointer (some ⟨g, 0, none⟩)) (hg : w.heap[g]? = some (.cells #[c0, c1, c2, c3] 29 (0, 0))) :
    (results fn tmps).run Tryd.prog w = .ok (.tuple #[.agg #[c0, c1, c2, c3], tmps.getD u undef]) w := by
  rw [results_cell_tmp h, hp]
  have hl := run_loadVar_row (P := Tryd.prog) w g 29 29 #[c0, c1, c2, c3] (0, 0) _ hg Tryd.underlying29 rfl (sizeItem)
  simp [asAddr, Result.andThen, hl]
/-- An item that is none. -/
def noC : Value := .agg #[.int .u8 0, .int .u64 0, .slice none 0 0, .slice none 0 0]
set_option maxHeartbeats 1000000 in
/-- word. -/
theorem word_yes (k : Nat) (hk : 244 ≤ k ∧ k ≤ 246) (w : World) : Calls Tryd.prog 23 #[.int .u8 (k : Int)] w fun e w' => e = .returned (.tuple #[.agg #[.int .u8 ((k - 237 : Nat) : Int), .int .u64 0, .slice none 0 0, .slice none 0 0], .int .i64 0]) ∧ Below w.heap.size w w' := by
  have h1 : (k : Int) ≤ 246 := by omega
  have h2 : 244 ≤ (k : Int) := by omega
  have HW := wordKind_any k hk
  go_enter Tryd.func23, Tryd.ntmps23
  go_wp2_with (go_at_call 33; refine (HW _).mono ?_; rintro e w1 ⟨rfl, rfl⟩)
  refine bodyPost_ret (ret_item rfl _ _ w.heap.size _ _ _ _ rfl (heap_alloc_new w _)) rfl ?_
  exact ⟨rfl, (Below.refl _ _).alloc (Nat.le_refl _) _⟩
set_option maxHeartbeats 1000000 in
theorem word_no (k : Nat) (hk : k < 244 ∨ 246 < k) (h8 : k < 256) (w : World) : Calls Tryd.prog 23 #[.int .u8 (k : Int)] w fun e w' => e = .returned (.tuple #[noC, .int .i64 20]) ∧ Below w.heap.size w w' := by
  have h1 : (k : Int) < 256 := by omega
  rcases hk with hk | hk
  · have h2 : (k : Int) < 244 := by omega
    go_enter Tryd.func23, Tryd.ntmps23
    go_wp2
    refine bodyPost_ret (ret_item rfl _ _ w.heap.size _ _ _ _ rfl (heap_alloc_new w _)) rfl ?_
    exact ⟨rfl, (Below.refl _ _).alloc (Nat.le_refl _) _⟩
  · have h2 : 246 < (k : Int) := by omega
    have h3 : ¬ (k : Int) < 244 := by omega
    go_enter Tryd.func23, Tryd.ntmps23
    go_wp2
    refine bodyPost_ret (ret_item rfl _ _ w.heap.size _ _ _ _ rfl (heap_alloc_new w _)) rfl ?_
    exact ⟨rfl, (Below.refl _ _).alloc (Nat.le_refl _) _⟩
/-- How many bytes a number has behind its first one. -/
def szC (n : Nat) : Nat := if n < 24 then 0 else if n < 256 then 1 else if n < 65536 then 2 else if n < 4294967296 then 4 else 8
set_option maxRecDepth 100000 in
set_option maxHeartbeats 1000000 in
theorem sizeOf_any (n : Nat) (hn : n < 18446744073709551616) (w : World) : Calls Tryd.prog 28 #[.int .u64 (n : Int)] w fun e w' => e = .returned (.int .i64 (szC n : Int)) ∧ w' = w := by
  have h1 : (n : Int) < 18446744073709551616 := by omega
  obtain ⟨s, hs⟩ : ∃ s, szC n = s := ⟨_, rfl⟩
  rw [hs]
  have HS : Hid (szC n = s) := hs
  clear hs
  by_cases q0 : n < 24
  · have q : (n : Int) < 24 := by omega
    go_enter Tryd.func28, Tryd.ntmps28
    go_wp2
    go_ret
    exact ⟨by rw [← HS.out]; simp [szC, q0], rfl⟩
  have p0 : ¬ (n : Int) < 24 := by omega
  by_cases q1 : n < 256
  · have q : ¬ (255 < (n : Int)) := by omega
    have q2 : ¬ (65535 < (n : Int)) := by omega
    have q3 : ¬ (4294967295 < (n : Int)) := by omega
    go_enter Tryd.func28, Tryd.ntmps28
    go_wp2
    go_ret
    exact ⟨by rw [← HS.out]; simp [szC, q0, q1], rfl⟩
  have p1 : 255 < (n : Int) := by omega
  by_cases q2 : n < 65536
  · have q2' : ¬ (65535 < (n : Int)) := by omega
    have q3 : ¬ (4294967295 < (n : Int)) := by omega
    go_enter Tryd.func28, Tryd.ntmps28
    go_wp2
    go_ret
    exact ⟨by rw [← HS.out]; simp [szC, q0, q1, q2], rfl⟩
  have p2 : 65535 < (n : Int) := by omega
  by_cases q3 : n < 4294967296
  · have q3' : ¬ (4294967295 < (n : Int)) := by omega
    go_enter Tryd.func28, Tryd.ntmps28
    go_wp2
    go_ret
    exact ⟨by rw [← HS.out]; simp [szC, q0, q1, q2, q3], rfl⟩
  have p3 : 4294967295 < (n : Int) := by omega
  go_enter Tryd.func28, Tryd.ntmps28
  go_wp2
  go_ret
  exact ⟨by rw [← HS.out]; simp [szC, q0, q1, q2, q3], rfl⟩
end Go.Proofs.YtfmldcibhllpcabDoor
