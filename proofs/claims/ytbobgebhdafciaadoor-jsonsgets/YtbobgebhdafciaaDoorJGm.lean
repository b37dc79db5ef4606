/-
  Members: the lists of a node, copied.
-/
import Derived.Test.YtbobgebhdafciaaDoorJGr
import Derived.Laws.AppendOwnNone
import Derived.Deep.RegionWith
import Derived.Deep.MidRow
import Derived.Lib.SliceRun
namespace Go.Proofs.YtbobgebhdafciaaDoor
open Go.Shelf Go.RowKit
set_option linter.unusedVariables false
set_option linter.unusedSimpArgs false

/-- append of a row that came in to an empty slice of the call's own. -/
theorem wpList_append_row {w : World} {ops : Array Oper} {rest : List Oper} {o : Oper} {a : Act} {Q : Exit → Act → World → Prop} (hgd : o.guard = none) (s x : Operand) (t e : TypeId)
    (ho : o.op = .call { callee := .builtin .append, args := #[s, x], argTypes := #[t, t] }) (i : TypeInfo) (z : Value) (bytes : Nat) (ht : Tryd.prog.underlying t = some (.slice e)) (hi : Tryd.prog.info? e = some i) (hz : i.zero = some z) (hsz : i.size = 1) (hby : i.bytes = bytes) (hzc : z.cells.size = 1) (hbb : bytes ≤ 16)
    (base : Nat) (v : Value) (hs : a.eval s = v) (hown : w.ownsRow base e 1 v 0 []) (G : Nat) (ad : Addr) (n c : Nat) (xs : List Value) (hx : a.eval x = .slice (some ad) n c) (hr : RowAt w G (some ad) n xs) (h1 : ∀ u ∈ xs, u.oneCell' = true) (hlen : n ≤ 1000000) (hbase : base ≤ w.heap.size)
    (h : ∀ v' w', w'.ownsRow base e 1 v' n xs → w.grownBy w' v.ownBlock → wpList Tryd.prog ops Q rest (a.put o.dst v') w') : wpList Tryd.prog ops Q (o :: rest) a w := by
  have hb : (0 + n) * bytes ≤ 140737488355328 := by
    have := Nat.mul_le_mul hlen hbb
    rw [Nat.zero_add]
    omega
  refine wpList_append_own (w := w) hgd s x t ho base e i z 1 bytes ht hi hz hsz hby hzc (by decide) v 0 [] hs hown ad n c xs hx (by rw [hr.len, Nat.mul_one]) ?_ h1 (by unfold maxLen; omega) hb hbase ?_
  · intro j u hj
    have hj1 : j < n := by rw [← hr.len]; exact (List.getElem?_eq_some_iff.1 hj).1
    obtain ⟨b, f, e', _, hc⟩ := hr.cells (by omega)
    cases e'
    rw [Addr.add_mid, hc j hj1]
    exact hj
  · intro v' w' hown' hgr _
    rw [Nat.zero_add, List.nil_append] at hown'
    exact h v' w' hown' hgr
theorem rowAt_own {w : World} {base : Nat} {e : TypeId} {v : Value} {n : Nat} {xs : List Value} (h : w.ownsRow base e 1 v n xs) : ∃ p c, v = .slice p n c ∧ RowAt w w.heap.size p n xs ∧ ∀ a, p = some a → base ≤ a.block := by
  have hl : xs.length = n := by rw [h.1, Nat.mul_one]
  have hh := h
  rcases h.2 with ⟨rfl, rfl⟩ | ⟨g, cap, cur, rfl, hg, hrow, h1, h2, h3, h4⟩
  · exact ⟨none, 0, rfl, ⟨hl, fun h => absurd h (Nat.lt_irrefl _)⟩, fun a e => by cases e⟩
  · refine ⟨some ⟨g, 0, none⟩, cap, rfl, ⟨hl, fun h0 => ⟨g, 0, rfl, (Array.getElem?_eq_some_iff.1 hrow).1, fun i hi => ?_⟩⟩, fun a e => by cases e; exact hg⟩
    rw [Nat.zero_add, owns_cell hh i (by omega)]

set_option maxRecDepth 100000 in
set_option maxHeartbeats 4000000 in
/-- slices.Clone of texts. -/
theorem clone_str (p : Option Addr) (n c : Nat) (xs : List Bs) (w : World) (hr : RowAt w w.heap.size p n (strs xs)) (hl : n ≤ 1000) :
    Calls Tryd.prog 34 #[.slice p n c] w fun e w' => Below w.heap.size w w' ∧ ∃ p' c', e = .returned (.slice p' n c') ∧ RowAt w' w'.heap.size p' n (strs xs) ∧ ∀ a, p' = some a → w.heap.size ≤ a.block := by
  have hnilc : ∀ W : World, (binOp .eql 30 (.slice p n c) (.slice none 0 0)).run Tryd.prog W = .ok (.bool p.isNone) W := fun W => Lib.run_eql_slice_nil W _ _ p n c 0 0 Tryd.underlying30
  cases p with
  | none =>
    simp only [Option.isNone_none] at hnilc
    have h0 : n = 0 := by
      by_cases h : 0 < n
      · obtain ⟨b, o, e, _⟩ := hr.cells h; cases e
      · omega
    subst h0
    go_enter Tryd.func34, Tryd.ntmps34
    go_wp2_with fail
    go_ret
    exact ⟨Below.refl _ _, none, 0, rfl, hr, fun a e => by cases e⟩
  | some ad =>
    simp only [Option.isNone_some] at hnilc
    obtain ⟨i0, hi0, hz0, hz1, hz2⟩ := info_parts infoStr
    have hb0 : Below w.heap.size w (w.alloc (.cells #[] 9)) := (Below.refl _ _).alloc (Nat.le_refl _) _
    have hown0 : (w.alloc (.cells #[] 9)).ownsRow w.heap.size 9 1 (.slice (some ⟨w.heap.size, 0, none⟩) 0 0) 0 [] := World.ownsRow_lit w #[] 0 (Nat.le_refl _) (Nat.zero_le _) (by simp)
    have hr0 : RowAt (w.alloc (.cells #[] 9)) w.heap.size (some ad) n (strs xs) := hr.keep hb0 (Nat.le_refl _)
    have h1 : ∀ u ∈ strs xs, u.oneCell' = true := fun u hu => by unfold strs at hu; obtain ⟨x, _, rfl⟩ := List.mem_map.1 hu; rfl
    go_enter Tryd.func34, Tryd.ntmps34
    go_wp2_with (at_builtin; refine wpList_append_row rfl (.tmp 5) (.tmp 6) 30 9 rfl i0 (.string ⟨#[]⟩) 16 Tryd.underlying30 hi0 hz0 hz1 hz2 rfl (by decide) w.heap.size (.slice (some ⟨w.heap.size, 0, none⟩) 0 0) rfl hown0 w.heap.size ad n c (strs xs) rfl hr0 h1 (by omega) hb0.size ?_; intro v1 w1 o1 gr1)
    have b1 : Below w.heap.size w w1 := ⟨gr1.os, gr1.tape, gr1.output, Nat.le_trans hb0.size gr1.size, fun k hk => (gr1.block k (Nat.lt_of_lt_of_le hk hb0.size) (by simp [Value.ownBlock]; omega)).trans (hb0.block k hk)⟩
    obtain ⟨p1, c1, rfl, R1, G1⟩ := rowAt_own o1
    go_ret
    exact ⟨b1, p1, c1, rfl, R1, G1⟩
set_option maxRecDepth 100000 in
set_option maxHeartbeats 4000000 in
/-- slices.Clone of numbers. -/
theorem clone_int (p : Option Addr) (n c : Nat) (xs : List Int) (w : World) (hr : RowAt w w.heap.size p n (xs.map (Value.int .i64))) (hl : n ≤ 1000) :
    Calls Tryd.prog 35 #[.slice p n c] w fun e w' => Below w.heap.size w w' ∧ ∃ p' c', e = .returned (.slice p' n c') ∧ RowAt w' w'.heap.size p' n (xs.map (Value.int .i64)) ∧ ∀ a, p' = some a → w.heap.size ≤ a.block := by
  have hnilc : ∀ W : World, (binOp .eql 28 (.slice p n c) (.slice none 0 0)).run Tryd.prog W = .ok (.bool p.isNone) W := fun W => Lib.run_eql_slice_nil W _ _ p n c 0 0 Tryd.underlying28
  cases p with
  | none =>
    simp only [Option.isNone_none] at hnilc
    have h0 : n = 0 := by
      by_cases h : 0 < n
      · obtain ⟨b, o, e, _⟩ := hr.cells h; cases e
      · omega
    subst h0
    go_enter Tryd.func35, Tryd.ntmps35
    go_wp2_with fail
    go_ret
    exact ⟨Below.refl _ _, none, 0, rfl, hr, fun a e => by cases e⟩
  | some ad =>
    simp only [Option.isNone_some] at hnilc
    obtain ⟨i0, hi0, hz0, hz1, hz2⟩ := info_parts infoInt
    have hb0 : Below w.heap.size w (w.alloc (.cells #[] 3)) := (Below.refl _ _).alloc (Nat.le_refl _) _
    have hown0 : (w.alloc (.cells #[] 3)).ownsRow w.heap.size 3 1 (.slice (some ⟨w.heap.size, 0, none⟩) 0 0) 0 [] := World.ownsRow_lit w #[] 0 (Nat.le_refl _) (Nat.zero_le _) (by simp)
    have hr0 : RowAt (w.alloc (.cells #[] 3)) w.heap.size (some ad) n (xs.map (Value.int .i64)) := hr.keep hb0 (Nat.le_refl _)
    have h1 : ∀ u ∈ xs.map (Value.int .i64), u.oneCell' = true := fun u hu => by obtain ⟨x, _, rfl⟩ := List.mem_map.1 hu; rfl
    go_enter Tryd.func35, Tryd.ntmps35
    go_wp2_with (at_builtin; refine wpList_append_row rfl (.tmp 5) (.tmp 6) 28 3 rfl i0 (.int .i64 0) 8 Tryd.underlying28 hi0 hz0 hz1 hz2 rfl (by decide) w.heap.size (.slice (some ⟨w.heap.size, 0, none⟩) 0 0) rfl hown0 w.heap.size ad n c (xs.map (Value.int .i64)) rfl hr0 h1 (by omega) hb0.size ?_; intro v1 w1 o1 gr1)
    have b1 : Below w.heap.size w w1 := ⟨gr1.os, gr1.tape, gr1.output, Nat.le_trans hb0.size gr1.size, fun k hk => (gr1.block k (Nat.lt_of_lt_of_le hk hb0.size) (by simp [Value.ownBlock]; omega)).trans (hb0.block k hk)⟩
    obtain ⟨p1, c1, rfl, R1, G1⟩ := rowAt_own o1
    go_ret
    exact ⟨b1, p1, c1, rfl, R1, G1⟩

/-- What stays while the lists are copied. -/
structure KM (w W : World) (B0 m : Nat) (pN : Option Addr) (ln cN : Nat) (pK : Option Addr) (lk cK : Nat) (nms : List Bs) (kds : List Int) : Prop where
  bel : Below w.heap.size w W
  c2 : W.cell? ⟨B0, 2, none⟩ = some (.slice pN ln cN)
  c3 : W.cell? ⟨B0, 3, none⟩ = some (.slice pK lk cK)
  lt : B0 < W.heap.size
  r1 : RowAt W W.heap.size pN m (strs nms)
  r2 : RowAt W W.heap.size pK m (kds.map (Value.int .i64))
theorem KM.more {w W W' : World} {B0 m : Nat} {pN : Option Addr} {ln cN : Nat} {pK : Option Addr} {lk cK : Nat} {nms : List Bs} {kds : List Int} (h : KM w W B0 m pN ln cN pK lk cK nms kds) (hb : Below W.heap.size W W') : KM w W' B0 m pN ln cN pK lk cK nms kds :=
  ⟨h.bel.trans (hb.mono h.bel.size), (hb.cell (p := ⟨B0, 2, none⟩) h.lt).trans h.c2, (hb.cell (p := ⟨B0, 3, none⟩) h.lt).trans h.c3, Nat.lt_of_lt_of_le h.lt hb.size, h.r1.more hb, h.r2.more hb⟩
theorem KM.str {w W : World} {B0 m : Nat} {pN : Option Addr} {ln cN : Nat} {pK : Option Addr} {lk cK : Nat} {nms : List Bs} {kds : List Int} (h : KM w W B0 m pN ln cN pK lk cK nms kds) (hm : m ≤ 1000) :
    Calls Tryd.prog 34 #[.slice pN m cN] W fun e w' => ∃ p' c', e = .returned (.slice p' m c') ∧ Below W.heap.size W w' ∧ RowAt w' w'.heap.size p' m (strs nms) ∧ ∀ a, p' = some a → w.heap.size ≤ a.block :=
  (clone_str pN m cN nms W h.r1 hm).mono (fun e w' ⟨hb, p', c', he, hr, hg⟩ => ⟨p', c', he, hb, hr, fun a e => Nat.le_trans h.bel.size (hg a e)⟩)
theorem KM.int {w W : World} {B0 m : Nat} {pN : Option Addr} {ln cN : Nat} {pK : Option Addr} {lk cK : Nat} {nms : List Bs} {kds : List Int} (h : KM w W B0 m pN ln cN pK lk cK nms kds) (hm : m ≤ 1000) :
    Calls Tryd.prog 35 #[.slice pK m cK] W fun e w' => ∃ p' c', e = .returned (.slice p' m c') ∧ Below W.heap.size W w' ∧ RowAt w' w'.heap.size p' m (kds.map (Value.int .i64)) ∧ ∀ a, p' = some a → w.heap.size ≤ a.block :=
  (clone_int pK m cK kds W h.r2 hm).mono (fun e w' ⟨hb, p', c', he, hr, hg⟩ => ⟨p', c', he, hb, hr, fun a e => Nat.le_trans h.bel.size (hg a e)⟩)
/-- What Members answers. -/
def MemOut (nms : List Bs) (kds : List Int) (w : World) (e : Ending) (w' : World) : Prop :=
  ∃ b pN cN pK cK, e = .returned (.func (.func 51) #[] #[.pointer (some ⟨b, 0, none⟩), .pointer (some ⟨b + 1, 0, none⟩)]) ∧ Below w.heap.size w w' ∧ w.heap.size ≤ b ∧ w'.cell? ⟨b, 0, none⟩ = some (.slice pN (min nms.length kds.length) cN) ∧ w'.cell? ⟨b + 1, 0, none⟩ = some (.slice pK (min nms.length kds.length) cK) ∧ b + 1 < w'.heap.size ∧ RowAt w' w'.heap.size pN (min nms.length kds.length) (strs (nms.take (min nms.length kds.length))) ∧ RowAt w' w'.heap.size pK (min nms.length kds.length) ((kds.take (min nms.length kds.length)).map (Value.int .i64)) ∧ (∀ a, pN = some a → w.heap.size ≤ a.block) ∧ (∀ a, pK = some a → w.heap.size ≤ a.block)
theorem MemOut.mk {nms : List Bs} {kds : List Int} {w wX : World} {m : Nat} {pa pb : Option Addr} {ca cb : Nat} (hm : min nms.length kds.length = m) (hb : Below w.heap.size w wX) (RN : RowAt wX wX.heap.size pa m (strs (nms.take m))) (RK : RowAt wX wX.heap.size pb m ((kds.take m).map (Value.int .i64))) (gN : ∀ a, pa = some a → w.heap.size ≤ a.block) (gK : ∀ a, pb = some a → w.heap.size ≤ a.block) :
    MemOut nms kds w (.returned (.func (.func 51) #[] #[.pointer (some ⟨wX.heap.size, 0, none⟩), .pointer (some ⟨wX.heap.size + 1, 0, none⟩)])) ((wX.alloc (.cells #[.slice pa m ca] 30)).alloc (.cells #[.slice pb m cb] 28)) := by
  subst hm
  have hsz : (wX.alloc (.cells #[.slice pa (min nms.length kds.length) ca] 30)).heap.size = wX.heap.size + 1 := by simp
  have h1 : Below wX.heap.size wX (wX.alloc (.cells #[.slice pa (min nms.length kds.length) ca] 30)) := (Below.refl _ _).alloc (Nat.le_refl _) _
  have h2 : Below wX.heap.size wX ((wX.alloc (.cells #[.slice pa (min nms.length kds.length) ca] 30)).alloc (.cells #[.slice pb (min nms.length kds.length) cb] 28)) := h1.alloc (by rw [hsz]; omega) _
  have e1 : ((wX.alloc (.cells #[.slice pa (min nms.length kds.length) ca] 30)).alloc (.cells #[.slice pb (min nms.length kds.length) cb] 28)).cell? ⟨wX.heap.size, 0, none⟩ = some (.slice pa (min nms.length kds.length) ca) := more_cell _ (new_cell wX _ _).1
  have e2 : ((wX.alloc (.cells #[.slice pa (min nms.length kds.length) ca] 30)).alloc (.cells #[.slice pb (min nms.length kds.length) cb] 28)).cell? ⟨wX.heap.size + 1, 0, none⟩ = some (.slice pb (min nms.length kds.length) cb) := by
    rw [← hsz]; exact (new_cell (wX.alloc (.cells #[.slice pa (min nms.length kds.length) ca] 30)) _ _).1
  exact ⟨wX.heap.size, pa, ca, pb, cb, rfl, hb.trans (h2.mono hb.size), hb.size, e1, e2, by simp, RN.more h2, RK.more h2, gN, gK⟩
theorem RowAt.take {w : World} {G : Nat} {p : Option Addr} {n : Nat} {xs : List Value} (h : RowAt w G p n xs) (m : Nat) (hm : m ≤ n) : RowAt w G p m (xs.take m) :=
  ⟨by rw [List.length_take, h.len]; omega, fun h0 => by
    obtain ⟨b, o, e, hlt, hc⟩ := h.cells (by omega)
    exact ⟨b, o, e, hlt, fun i hi => by rw [hc i (by omega), List.getElem?_take, if_pos hi]⟩⟩

set_option maxRecDepth 100000 in
set_option maxHeartbeats 4000000 in
/-- Members. -/
theorem Members_any (p : Option Addr) (c : Nat) (gs : List Gn) (i : Int) (w : World) (h : GLies w p gs) (hl : gs.length ≤ 1000) (hb : (nmsOf gs i).length ≤ 1000 ∧ (kdsOf gs i).length ≤ 1000) :
    Calls Tryd.prog 23 #[.slice p gs.length c, .int .i64 i] w (MemOut (nmsOf gs i) (kdsOf gs i) w) := by
  have HA := nodeAt_any p c gs i w h hl
  obtain ⟨n, hn⟩ : ∃ n, gs.length = n := ⟨_, rfl⟩
  rw [hn] at HA ⊢
  clear hn h
  obtain ⟨nms, hnms⟩ : ∃ x, nmsOf gs i = x := ⟨_, rfl⟩
  obtain ⟨kds, hkds⟩ : ∃ x, kdsOf gs i = x := ⟨_, rfl⟩
  rw [hnms, hkds] at HA hb ⊢
  clear hnms hkds hl
  obtain ⟨ln, hln⟩ : ∃ ln, nms.length = ln := ⟨_, rfl⟩
  obtain ⟨lk, hlk⟩ : ∃ lk, kds.length = lk := ⟨_, rfl⟩
  have HL : Hid (nms.length = ln ∧ kds.length = lk) := ⟨hln, hlk⟩
  rw [hln, hlk] at hb
  have hb1 : (ln : Int) ≤ 1000 := by omega
  have hb2 : (lk : Int) ≤ 1000 := by omega
  clear hln hlk
  go_enter Tryd.func23, Tryd.ntmps23
  go_wp2_with fail
  go_at_call 22
  refine HA.mono ?_
  clear HA
  rintro e w1 ⟨b1, kz, tb, pN, cN, pK, cK, rfl, r1, r2, r3, r4⟩
  obtain ⟨m, hm⟩ : ∃ m, min ln lk = m := ⟨_, rfl⟩
  have hmin : min (ln : Int) (lk : Int) = (m : Int) := by omega
  have hm1 : m ≤ ln := by omega
  have hm2 : m ≤ lk := by omega
  have hmb : m ≤ 1000 := by omega
  rw [HL.out.1] at r1 r3 ⊢
  rw [HL.out.2] at r2 r4 ⊢
  have K1 : KM w (w1.alloc (.cells #[.int .u8 kz, .string tb, .slice pN ln cN, .slice pK lk cK] 41)) w1.heap.size m pN ln cN pK lk cK (nms.take m) (kds.take m) := by
    have hb' : Below w1.heap.size w1 (w1.alloc (.cells #[.int .u8 kz, .string tb, .slice pN ln cN, .slice pK lk cK] 41)) := (Below.refl _ _).alloc (Nat.le_refl _) _
    have hat : (w1.alloc (.cells #[.int .u8 kz, .string tb, .slice pN ln cN, .slice pK lk cK] 41)).heap[w1.heap.size]? = some (.cells #[.int .u8 kz, .string tb, .slice pN ln cN, .slice pK lk cK] 41 (0, 0)) := alloc_new w1 _
    refine ⟨b1.trans (hb'.mono b1.size), by rw [cell_of_row _ _ 2 _ _ _ hat]; rfl, by rw [cell_of_row _ _ 3 _ _ _ hat]; rfl, (Array.getElem?_eq_some_iff.1 hat).1, ?_, ?_⟩
    · have := (r1.take m hm1).more hb'
      rw [show (strs nms).take m = strs (nms.take m) from by unfold strs; rw [List.map_take]] at this
      exact this
    · have := (r2.take m hm2).more hb'
      rw [← List.map_take] at this
      exact this
  have HMM : Hid (min nms.length kds.length = m ∧ w.heap.size ≤ w1.heap.size) := ⟨by rw [HL.out.1, HL.out.2]; exact hm, b1.size⟩
  have hm1I : (m : Int) ≤ (ln : Int) := by omega
  have hm2I : (m : Int) ≤ (lk : Int) := by omega
  have hm0I : (0 : Int) ≤ (m : Int) := by omega
  have hcN : (ln : Int) ≤ (cN : Int) := by omega
  have hcK : (lk : Int) ≤ (cK : Int) := by omega
  clear r1 r2 b1 hm
  have K1d : KM w (w1.alloc (.cells #[.int .u8 kz, .string tb, .slice pN ln cN, .slice pK lk cK] 41)).drew w1.heap.size m pN ln cN pK lk cK (nms.take m) (kds.take m) := K1.more ⟨rfl, rfl, rfl, Nat.le_refl _, fun _ _ => rfl⟩
  go_wp2_with fail
  go_region_with (first
    | (go_at_call 34; refine (KM.str (w := w) (B0 := w1.heap.size) (ln := ln) (pK := pK) (lk := lk) (cK := cK) (kds := kds.take m) (nms := nms.take m) (by assumption) hmb).mono ?_; rintro e wa ⟨pa, ca, rfl, ba, Ra, ga⟩; have Ka : KM w wa w1.heap.size m pN ln cN pK lk cK (nms.take m) (kds.take m) := KM.more (by assumption) ba; have ca2 := Ka.c2; have ca3 := Ka.c3)
    | (go_at_call 35; refine (KM.int (w := w) (B0 := w1.heap.size) (pN := pN) (ln := ln) (cN := cN) (lk := lk) (kds := kds.take m) (nms := nms.take m) (by assumption) hmb).mono ?_; rintro e wb ⟨pb, cb, rfl, bb, Rb, gb⟩; have Kb : KM w wb w1.heap.size m pN ln cN pK lk cK (nms.take m) (kds.take m) := KM.more (by assumption) bb; have cb2 := Kb.c2; have cb3 := Kb.c3)
    | (go_at_call 33; refine (members_any _ _ _ _ _ _ _).mono ?_; rintro e wz ⟨rfl, rfl⟩))
  all_goals (go_wp2_with fail)
  all_goals go_ret
  all_goals first
    | exact MemOut.mk HMM.out.1 Kb.bel (Ra.more bb) Rb ga gb
    | exact MemOut.mk HMM.out.1 Ka.bel Ra (Rb.more ba) ga gb
end Go.Proofs.YtbobgebhdafciaaDoor
