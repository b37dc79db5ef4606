/-
  The reader's numbers.
-/
import Derived.Test.YtbobgebhdafciabDoorJZ
import Derived.Deep.RegionWith
import Derived.Shelf.Bytes.SlEqualAll
import Derived.Deep.Cut
import Derived.Deep.CutBlock
namespace Go.Proofs.YtbobgebhdafciabDoor
open Go.Shelf Go.RowKit
set_option linter.unusedVariables false
set_option linter.unusedSimpArgs false

set_option maxRecDepth 100000 in
set_option maxHeartbeats 4000000 in
/-- The digits' closure. -/
theorem digits_any (g rb : Nat) (bs : Bs) (nv : Value) (o : Nat) (w : World) (h : Rd w g bs nv o) (hr : Bx w rb 48 (.pointer (some ⟨g, 0, none⟩))) (hrg : rb ≠ g) :
    Calls Tryd.prog 45 #[.pointer (some ⟨rb, 0, none⟩)] w fun e w' => But g w w' ∧ Rd w' g (dg bs) nv o ∧ e = .returned (.int .i64 ((bs.length - (dg bs).length : Nat) : Int)) := by
  obtain ⟨p, c, h1, h2⟩ := h
  have hc := h1.rest
  have hf := h1.frozen 0
  have hg := h1.lt
  have hrl := hr.lt
  have er := hr.cell
  obtain ⟨p', c', hV, hR⟩ := leftV_rest h2 [48, 49, 50, 51, 52, 53, 54, 55, 56, 57]
  have HT := trim_any p c bs ⟨#[48, 49, 50, 51, 52, 53, 54, 55, 56, 57]⟩ w.drew h2.cap h2.big h2.lies (by decide) (ascii_of _ (by decide))
  simp only at HT
  rw [hV] at HT
  have hd := dg_len bs
  have H : Hid (RdAt w g (.slice p bs.length c) nv o ∧ RestV w g p' c' (dg bs) ∧ bs.length ≤ 9223372036854775807) := ⟨h1, hR, Nat.le_trans h2.cap h2.big⟩
  change Calls _ _ _ _ (fun e w' => e = Ending.returned (Value.slice p' (dg bs).length c') ∧ _) at HT
  obtain ⟨n, hn⟩ : ∃ n, bs.length = n := ⟨_, rfl⟩
  obtain ⟨m, hm⟩ : ∃ m, (dg bs).length = m := ⟨_, rfl⟩
  rw [hn] at HT hc hd
  rw [hm] at HT hd
  rw [hn, hm]
  have HL : Hid (bs.length = n ∧ (dg bs).length = m) := ⟨hn, hm⟩
  clear h1 h2 hV hR hn hm
  have hnb : n ≤ 9223372036854775807 := by rw [← HL.out.1]; exact H.out.2.2
  have hsub : ((n - m : Nat) : Int) = (n : Int) - (m : Int) := by omega
  rw [hsub]
  clear hsub
  go_enter Tryd.func45, Tryd.ntmps45
  go_wp2
  go_region_with (go_at_call 20; refine HT.mono ?_; rintro e w1 ⟨rfl, hb1⟩; have hf1 := (hb1.frozen (p := ⟨g, 0, none⟩) hg).trans hf; have hc1 := (hb1.cell (p := ⟨g, 0, none⟩) hg).trans hc; have er1 := (hb1.cell (p := ⟨rb, 0, none⟩) hrl).trans er)
  all_goals (
    have hb0 : Below w.heap.size w w1 := ⟨hb1.os, hb1.tape, hb1.output, hb1.size, hb1.block⟩
    have hgr : ¬ g = rb := fun e => hrg e.symm
    go_wp2
    go_ret
    have he := rest_end (m := m) (But.refl g w) H.out.1 hb0 H.out.2.1 HL.out.2
    exact ⟨he.1, he.2, rfl⟩)

/-- take, whatever comes of it. -/
theorem take_opt (s : ByteArray) (g : Nat) (bs : Bs) (nv : Value) (o : Nat) (w : World) (h : Rd w g bs nv o) :
    Calls Tryd.prog 15 #[.pointer (some ⟨g, 0, none⟩), .string s] w fun e w' => ∃ t, e = .returned (.bool t) ∧ But g w w' ∧ Rd w' g ((tk s.data.toList bs).getD bs) nv o := by
  refine (take_any s g bs nv o w h).mono ?_
  rintro e w' ⟨hb, (⟨ys, h1, rfl, h3⟩ | ⟨h1, rfl, h3⟩)⟩
  · exact ⟨true, rfl, hb, by rw [h1]; exact h3⟩
  · exact ⟨false, rfl, hb, by rw [h1]; exact h3⟩
theorem conv_lit (cs : Array Value) (n : Nat) (hn : cs.size = n) (w : World) : (convert 27 27 (.slice (some ⟨w.heap.size, 0, none⟩) n n)).run Tryd.prog (w.alloc (.cells cs 5)) = .ok (.slice (some ⟨w.heap.size, 0, none⟩) n n) (w.alloc (.cells cs 5 (n, n + 1))) := by
  have hsh : (w.alloc (.cells cs 5)).shape? w.heap.size = some (5, n) := by
    unfold World.shape?
    rw [alloc_new w]
    simp [hn]
  have hfr : (w.alloc (.cells cs 5)).freeze ⟨w.heap.size, n, none⟩ 1 = w.alloc (.cells cs 5 (n, n + 1)) := by
    simp only [World.freeze, World.alloc]
    simp only [Nat.one_ne_zero, if_false]
    congr 1
    apply Array.ext_getElem?
    intro i
    rw [Array.getElem?_modify]
    by_cases h : w.heap.size = i
    · subst h
      simp
    · have h' : ¬ i = w.heap.size := fun e => h e.symm
      simp [h, h', Array.getElem?_push]
  simp [convert, run_underlying Tryd.underlying27, run_underlying Tryd.underlying5, markStringish, hsh, hfr]
theorem one_bytes (w : World) (v : UInt8) (fr : Nat × Nat) : Lib.BytesAt (w.alloc (.cells #[.int .u8 (v.toNat : Int)] 5 fr)) (some ⟨w.heap.size, 0, none⟩) [v].length [v] := fun _ => ⟨w.heap.size, 0, rfl, fun i hi => by
  have : i = 0 := by simp at hi; omega
  subst this
  rw [cell_of_row _ _ _ _ _ _ (alloc_new w _)]
  rfl⟩

/-- A part of a slice of bytes as a text. -/
theorem conv_part {w : World} {g : Nat} {p : Option Addr} {c : Nat} {bs : Bs} (h : RestV w g p c bs) (k : Nat) (hk : k ≤ bs.length) : (convert 27 9 (.slice p k c)).run Tryd.prog w = .ok (.string ⟨(bs.take k).toArray⟩) w := by
  have h1 : Lib.BytesAt w p k (bs.take k) := h.lies.take hk
  have hl : (bs.take k).length = k := by simp; omega
  have h2 := Lib.BytesIn.convert (P := Tryd.prog) (bytesAt_in h1 hl) (by simp; omega) c 27 5 9 Tryd.underlying27 Tryd.underlying5 Tryd.underlying9
  rw [h2, show strOfNums ((bs.take k).map fun b => (b.toNat : Int)) = ⟨(bs.take k).toArray⟩ from by
    apply ByteArray.ext
    apply Array.toList_inj.1
    rw [← Lib.toList_data, Lib.strOfNums_toList, bytesOf_map]]
/-- A reader within a number. -/
structure NumSt (w W : World) (g rb n : Nat) (p : Option Addr) (c : Nat) (bs zs : Bs) (nv : Value) (o : Nat) : Prop where
  but : But g w W
  rd : Rd W g zs nv o
  bx : Bx W rb 48 (.pointer (some ⟨g, 0, none⟩))
  le : zs.length ≤ n
  beg : RestV W g p c bs
  len : bs.length = n
theorem NumSt.next {w W w' : World} {g rb n : Nat} {p : Option Addr} {c : Nat} {bs zs ys : Bs} {nv : Value} {o : Nat} (h : NumSt w W g rb n p c bs zs nv o) (hb : But g W w') (hr : Rd w' g ys nv o) (hl : ys.length ≤ zs.length) (hrg : g < rb) : NumSt w w' g rb n p c bs ys nv o :=
  ⟨h.but.trans hb, hr, h.bx.same (hb.block rb h.bx.lt (by omega)), Nat.le_trans hl h.le, h.beg.keep (fun k hk => hb.block k (Nat.lt_trans hk h.rd.lt) (by omega)), h.len⟩
theorem NumSt.facts {w W : World} {g rb n : Nat} {p : Option Addr} {c : Nat} {bs zs : Bs} {nv : Value} {o : Nat} (h : NumSt w W g rb n p c bs zs nv o) : ∃ q m k, W.cell? ⟨g, 0, none⟩ = some (.slice q m k) ∧ W.cell? ⟨rb, 0, none⟩ = some (.pointer (some ⟨g, 0, none⟩)) ∧ m ≤ n ∧ Hid (m = zs.length) ∧ (∀ j, (convert 27 9 (.slice p (n - j) c)).run Tryd.prog W = .ok (.string ⟨(bs.take (n - j)).toArray⟩) W) := by
  obtain ⟨q, k, h1, h2⟩ := h.rd
  exact ⟨q, zs.length, k, h1.rest, h.bx.cell, h.le, rfl, fun j => conv_part h.beg (n - j) (by rw [h.len]; omega)⟩
theorem numTake (s : ByteArray) {w W : World} {g rb n : Nat} {p : Option Addr} {c : Nat} {bs zs : Bs} {nv : Value} {o : Nat} (h : NumSt w W g rb n p c bs zs nv o) (hrg : g < rb) :
    Calls Tryd.prog 15 #[.pointer (some ⟨g, 0, none⟩), .string s] W fun e w' => (∃ ys, Hid (tk s.data.toList zs = some ys) ∧ e = .returned (.bool true) ∧ NumSt w w' g rb n p c bs ys nv o) ∨ (Hid (tk s.data.toList zs = none) ∧ e = .returned (.bool false) ∧ NumSt w w' g rb n p c bs zs nv o) := by
  refine (take_any s g zs nv o W h.rd).mono ?_
  rintro e w' ⟨hb, (⟨ys, h1, rfl, h3⟩ | ⟨h1, rfl, h3⟩)⟩
  · exact .inl ⟨ys, h1, rfl, h.next hb h3 (by have := tk_len h1; omega) hrg⟩
  · exact .inr ⟨h1, rfl, h.next hb h3 (Nat.le_refl _) hrg⟩
/-- take, told at once. -/
def tkR (s zs ys : Bs) (t : Bool) : Prop := (t = true ∧ tk s zs = some ys) ∨ (t = false ∧ tk s zs = none ∧ ys = zs)
theorem numTake2 (s : ByteArray) {w W : World} {g rb n : Nat} {p : Option Addr} {c : Nat} {bs zs : Bs} {nv : Value} {o : Nat} (h : NumSt w W g rb n p c bs zs nv o) (hrg : g < rb) :
    Calls Tryd.prog 15 #[.pointer (some ⟨g, 0, none⟩), .string s] W fun e w' => ∃ t ys, e = .returned (.bool t) ∧ tkR s.data.toList zs ys t ∧ NumSt w w' g rb n p c bs ys nv o := by
  refine (numTake s h hrg).mono ?_
  rintro e w' (⟨ys, h1, rfl, h3⟩ | ⟨h1, rfl, h3⟩)
  · exact ⟨true, ys, rfl, .inl ⟨rfl, h1.out⟩, h3⟩
  · exact ⟨false, zs, rfl, .inr ⟨rfl, h1.out, rfl⟩, h3⟩
/-- How many digits stand ahead. -/
def nd (zs : Bs) : Nat := zs.length - (dg zs).length
theorem numDig {w W : World} {g rb n : Nat} {p : Option Addr} {c : Nat} {bs zs : Bs} {nv : Value} {o : Nat} (h : NumSt w W g rb n p c bs zs nv o) (hrg : g < rb) :
    Calls Tryd.prog 45 #[.pointer (some ⟨rb, 0, none⟩)] W fun e w' => e = .returned (.int .i64 (nd zs : Int)) ∧ NumSt w w' g rb n p c bs (dg zs) nv o := by
  refine (digits_any g rb zs nv o W h.rd h.bx (by omega)).mono ?_
  rintro e w' ⟨hb, hr, rfl⟩
  exact ⟨rfl, h.next hb hr (dg_len zs) hrg⟩
theorem numHas {w W : World} {g rb n : Nat} {p : Option Addr} {c : Nat} {bs zs : Bs} {nv : Value} {o : Nat} (h : NumSt w W g rb n p c bs zs nv o) (hrg : g < rb) (q : Option Addr) (m k : Nat) (hc : W.cell? ⟨g, 0, none⟩ = some (.slice q m k)) :
    Calls Tryd.prog 29 #[.slice q m k, .slice (some ⟨W.heap.size, 0, none⟩) 1 1] (W.alloc (.cells #[.int .u8 48] 5 (1, 2))) fun e w' => e = .returned (.bool ([48].isPrefixOf zs)) ∧ NumSt w w' g rb n p c bs zs nv o := by
  obtain ⟨q', k', h1, h2⟩ := h.rd
  have := h1.rest
  rw [hc] at this
  cases this
  have hb : Below W.heap.size W (W.alloc (.cells #[.int .u8 48] 5 (1, 2))) := (Below.refl _ _).alloc (Nat.le_refl _) _
  refine (has_any q (some ⟨W.heap.size, 0, none⟩) k 1 zs [48] _ h2.cap (h2.keep (fun j hj => hb.block j (Nat.lt_trans hj h.rd.lt))).lies (one_bytes W 48 (1, 2))).mono ?_
  rintro e w' ⟨rfl, rfl⟩
  exact ⟨rfl, h.next (But.ofBelow hb) (h.rd.below hb) (Nat.le_refl _) hrg⟩

end Go.Proofs.YtbobgebhdafciabDoor
